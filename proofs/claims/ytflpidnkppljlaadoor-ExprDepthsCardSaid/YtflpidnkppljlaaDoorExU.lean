/- Paths and entities' names, as the program reads them. Condition: the words are no more than 70000, and no name is longer than that. Entities' names, as the program reads them; boxes of the call's own. Condition: the words are no more than 70000, and no name is longer than that. How deep a reading goes. Condition: the words are no more than 70000. Boxes that hold an expression; one of some operators. Condition: the words are no more than 70000. -/
import Derived.Test.YtflpidnkppljlaaDoorExT
import Derived.Test.YtflpidnkppljlaaDoorOwnG
import Derived.WalkLawsBesides
import Derived.WalkSpells
import Derived.Deep.LoopGhost
set_option linter.unusedVariables false
set_option linter.unnecessarySimpa false
set_option linter.unusedSimpArgs false
namespace Go.Proofs.YtflpidnkppljlaaDoor
open Go.RowKit
def encT (t : List UInt8) : List Value := [.string ⟨t.toArray⟩]
theorem encT_len (t : List UInt8) : (encT t).length = 1 := rfl
theorem encT_one (t : List UInt8) : ∀ u ∈ encT t, u.oneCell' = true := by
  intro u hu
  simp only [encT, List.mem_cons, List.not_mem_nil, or_false] at hu
  subst hu; rfl
theorem str_infoE : (Tryd.prog.info? 9).map (fun i => (i.zero, i.size, i.bytes)) = some (some (.string ⟨#[]⟩), 1, 16) := by kernel_rfl
/-- A row of one text in a new block. -/
theorem ownT_new (B : Nat) (w : World) (t : List UInt8) (hB : B ≤ w.heap.size) : OwnR 9 1 encT B (w.alloc (.cells #[.string ⟨t.toArray⟩] 9)) (.slice (some ⟨w.heap.size, 0, none⟩) 1 1) [t] := by
  refine ⟨rfl, .inr ⟨w.heap.size, 1, #[.string ⟨t.toArray⟩], rfl, hB, ?_, Nat.le_refl _, by decide, rfl, rfl⟩⟩
  show (w.heap.push _)[w.heap.size]? = _
  simp
theorem wd_field (x : Wd) (w : World) : (Instr.field 46 (.agg #[.int .i64 x.k, .string ⟨x.t.toArray⟩, .int .i64 x.n, .int .i64 (x.a : Int)]) 0).run Tryd.prog w = .ok (.int .i64 x.k) w := by
  first | kernel_rfl | (go_simp; done) | (simp [go_sem]; done) | rfl
theorem join_snoc {ns : List (List UInt8)} (h : ns ≠ []) (t : List UInt8) : Lib.join (ns ++ [t]) [58, 58] = Lib.join ns [58, 58] ++ kCol2 ++ t := by
  cases ns with
  | nil => exact absurd rfl h
  | cons x r =>
    rw [List.cons_append, Lib.join_cons, Lib.join_cons]
    unfold Lib.joinTail
    simp
section
variable {b : Nat} {ao : Option Addr} {cap : Nat} {l : List Wd}
theorem pathM_stop {f : Nat} {s : List UInt8} {a : Int} (h : ¬ (isW l a 5 kCol2 = true ∧ (wdA l (a + 1)).k = 1)) : pathM l f s a = .ok s a := by
  cases f with
  | zero => rfl
  | succ f => unfold pathM; rw [if_neg h]
theorem left_pos {n : Nat} (h : n < l.length) : leftW l (n : Int) = l.length - n := by
  unfold leftW; rw [if_pos ⟨by omega, by omega⟩]; simp
def pathA (l : List Wd) (s : Rd Unit) : Rd Unit := s.then fun _ a => if (wdA l a).k = 1 ∧ ownN (wdA l a).t = true then badF l a else .ok () a
def pathG (l : List Wd) (s : Rd Unit) (f : Nat) : Rd (List UInt8) := s.then fun _ a => pathR l f a
theorem pathG_eq (s : Rd Unit) (f : Nat) : pathG l s f = ((pathA l s).then fun _ a => textW l 1 a).then fun t n => pathM l f t n := by
  cases s with
  | bad e p => rfl
  | ok u a =>
    simp only [pathG, pathA, Rd.then]
    unfold pathR
    by_cases h : (wdA l a).k = 1 ∧ ownN (wdA l a).t = true
    · rw [if_pos h, if_pos h]; rfl
    · rw [if_neg h, if_neg h]; rfl
theorem st_lt {d : Int} {s : Rd Unit} {w : World} (h : St b ao cap l d s w) : b < w.heap.size := by
  cases s with
  | ok u a => obtain ⟨⟨p, h⟩, -⟩ := h; exact cell_lt h.c0
  | bad e p => obtain ⟨-, a, h⟩ := h; exact cell_lt h.c0
/-- How the loop of a path goes on. -/
def PathK (l : List Wd) (R : Rd (List UInt8)) (f : Nat) (ns : List (List UInt8)) (s : Rd Unit) : Prop :=
  ns ≠ [] ∧ ns.length ≤ 70000 ∧ (∀ x ∈ ns, x.length ≤ 70000) ∧ match s with
  | .ok _ a => (∃ n : Nat, a = n ∧ n ≤ l.length ∧ ns.length ≤ n ∧ l.length - n ≤ f) ∧ R = pathM l f (Lib.join ns [58, 58]) a
  | .bad e p => R = .bad e p ∧ Lib.join ns [58, 58] = []
theorem OwnR.lx {α : Type} {e : TypeId} {k : Nat} {enc : α → List Value} {B : Nat} {w w' : World} {v : Value} {xs : List α} (h : OwnR e k enc B w v xs) (hl : Lx b w w') (hb : b < B) : OwnR e k enc B w' v xs :=
  h.to fun g hg => hl.block g (World.ownsRow.lt h g hg).2 (by have := (World.ownsRow.lt h g hg).1; omega)
theorem pathK_start {s : Rd Unit} {f : Nat} (ht : ∀ x ∈ l, x.k = 1 → x.t.length ≤ 70000) (hl : l.length ≤ 70000) (hf : ∀ u a, s = .ok u a → leftW l a ≤ f) :
    PathK l (pathG l s f) f [((pathA l s).then fun _ a => textW l 1 a).getL] ((pathA l s).then fun _ a => textW l 1 a).unit := by
  rw [pathG_eq]
  cases s with
  | bad e p => exact ⟨by simp, by simp, by simp [Rd.getL, pathA, Rd.then], rfl, by rw [Lib.join_one]; rfl⟩
  | ok u a =>
    simp only [pathA, Rd.then]
    by_cases h : (wdA l a).k = 1 ∧ ownN (wdA l a).t = true
    · rw [if_pos h]; exact ⟨by simp, by simp, by simp [Rd.getL, badF, Rd.then], rfl, by rw [Lib.join_one]; rfl⟩
    · rw [if_neg h]
      simp only [Rd.then]
      unfold textW
      by_cases hk : (wdA l a).k = 1
      · rw [if_pos hk]
        have hin := wd_in (l := l) (a := a) (by rw [hk]; decide)
        obtain ⟨n, rfl⟩ : ∃ n : Nat, a = n := ⟨a.toNat, by omega⟩
        have hn : n < l.length := by omega
        have h2 := hf _ _ rfl
        rw [left_pos hn] at h2
        have h3 : ((wdA l (n : Int)).t).length ≤ 70000 := by rw [wdA_at hn] at hk ⊢; exact ht _ (List.getElem_mem hn) hk
        exact ⟨by simp, by simp, by simpa [Rd.getL] using h3, ⟨n + 1, by omega, by omega, by simp, by omega⟩, by rw [Lib.join_one]; rfl⟩
      · rw [if_neg hk]; exact ⟨by simp, by simp, by simp [Rd.getL, badF], rfl, by rw [Lib.join_one]; rfl⟩
theorem pathK_end {R : Rd (List UInt8)} {f : Nat} {ns : List (List UInt8)} {s : Rd Unit} (h : PathK l R f ns s) (hq : tkB l s 5 kCol2 = false ∨ ∃ n : Nat, s = .ok () (n : Int) ∧ (wdA l ((n : Int) + 1)).k ≠ 1) : R.getL = Lib.join ns [58, 58] ∧ R.unit = s := by
  obtain ⟨-, -, -, h⟩ := h
  cases s with
  | bad e p => obtain ⟨rfl, h⟩ := h; exact ⟨h.symm, rfl⟩
  | ok u a =>
    obtain ⟨-, rfl⟩ := h
    have : ¬ (isW l a 5 kCol2 = true ∧ (wdA l (a + 1)).k = 1) := by
      rcases hq with hq | ⟨n, hn, hq⟩
      · have hq : isW l a 5 kCol2 = false := hq
        rw [hq]; simp
      · injection hn with _ hn; subst hn; exact fun h => hq h.2
    rw [pathM_stop this]; exact ⟨rfl, rfl⟩
theorem pathK_next {R : Rd (List UInt8)} {f : Nat} {ns : List (List UInt8)} {n : Nat} (hl : l.length ≤ 70000) (ht : ∀ x ∈ l, x.k = 1 → x.t.length ≤ 70000) (h : PathK l R f ns (.ok () (n : Int))) (hq : isW l (n : Int) 5 kCol2 = true) (hz : (wdA l ((n : Int) + 1)).k = 1) :
    ∃ f', f = f' + 1 ∧ PathK l R f' (ns ++ [(wdA l ((n : Int) + 1)).t]) (.ok () ((n : Int) + 2)) ∧ n + 1 < l.length := by
  obtain ⟨h1, h2, h3, ⟨m, hm, h4, h5, h6⟩, rfl⟩ := h
  have hmn : n = m := by omega
  subst hmn
  have hin := wd_in (l := l) (a := (n : Int) + 1) (by rw [hz]; decide)
  obtain ⟨f', rfl⟩ : ∃ f', f = f' + 1 := ⟨f - 1, by omega⟩
  have hz2 : (wdA l ((n : Int) + 1)).t.length ≤ 70000 := by
    rw [show (n : Int) + 1 = ((n + 1 : Nat) : Int) by omega, wdA_at (by omega)] at hz ⊢
    exact ht _ (List.getElem_mem _) hz
  refine ⟨f', rfl, ⟨by simp, by simp; omega, fun x hx => ?_, ⟨n + 2, by omega, by omega, by simp; omega, by omega⟩, ?_⟩, by omega⟩
  · rcases List.mem_append.1 hx with hx | hx
    · exact h3 x hx
    · simp at hx; subst hx; exact hz2
  · rw [pathM, if_pos ⟨hq, hz⟩, join_snoc h1]
theorem row_names {B : Nat} {w : World} {v : Value} {ns : List (List UInt8)} (h : OwnR 9 1 encT B w v ns) (hn : ns ≠ []) : ∃ g cap, v = .slice (some ⟨g, 0, none⟩) ns.length cap ∧ ns.length ≤ cap ∧ g < w.heap.size ∧ B ≤ g ∧ ∀ j (hj : j < ns.length), w.cell? ⟨g, j, none⟩ = some (.string ⟨ns[j].toArray⟩) := by
  obtain ⟨ao, cap, rfl, h1, h2, h3⟩ := h.shape
  rcases h3 with h3 | ⟨g, rfl, h3, h4⟩
  · exact absurd h3 hn
  · refine ⟨g, cap, rfl, h1, h4, h3, fun j hj => ?_⟩
    have := h.cell encT_len j 0 hj (by decide)
    rw [Nat.mul_one, Nat.add_zero] at this
    exact this
theorem low_belowE {w w1 : World} {X : Obj} {B : Nat} (k : RowKit.Below B (w.alloc X) w1) : ∀ i, i < B → i < w.heap.size → w1.heap[i]? = w.heap[i]? := fun i hi hw => by
  rw [k.block i hi]; exact Below.heap_alloc _ _ _ hw
theorem RSt.toB {a d e p : Int} {w w' : World} {B : Nat} {X : Obj} (h : RSt b ao cap l a d e p w) (k : RowKit.Below B (w.alloc X) w') (hb : b < B) : RSt b ao cap l a d e p w' := by
  have hbw := cell_lt h.c0
  have e1 : ∀ o, w'.cell? ⟨b, o, none⟩ = w.cell? ⟨b, o, none⟩ := fun o => World.cell?_of_block (w := w) (low_belowE k b hb hbw)
  refine ⟨(e1 0).trans h.c0, (e1 1).trans h.c1, (e1 2).trans h.c2, (e1 3).trans h.c3, (e1 4).trans h.c4, fun o => (World.frozen?_of_block (w := w) (low_belowE k b hb hbw)).trans (h.fz o), ?_⟩
  rcases h.ws with h | ⟨g, rfl, hg, hc⟩
  · exact .inl h
  · exact .inr ⟨g, rfl, hg, fun j hj i v hv => cell_toE (hc j hj i v hv) fun hl => low_belowE k g (by omega) hl⟩
theorem St.toB {d : Int} {s : Rd Unit} {w w' : World} {B : Nat} {X : Obj} (h : St b ao cap l d s w) (k : RowKit.Below B (w.alloc X) w') (hb : b < B) : St b ao cap l d s w' := by
  cases s with
  | ok u a => obtain ⟨⟨p, h⟩, h2⟩ := h; exact ⟨⟨p, h.toB k hb⟩, h2⟩
  | bad e p => obtain ⟨h0, a, h⟩ := h; exact ⟨h0, a, h.toB k hb⟩
theorem Lx.belowB {w w1 w2 : World} {X : Obj} (h : Lx b w w1) (k : RowKit.Below w.heap.size (w1.alloc X) w2) : Lx b w w2 :=
  ⟨k.os.trans h.os, k.output.trans h.out, by have h1 := h.size; have h2 := k.size; simp at h2; omega, fun i hi hn => (low_belowE k i hi (Nat.lt_of_lt_of_le hi h.size)).trans (h.block i hi hn)⟩
set_option maxHeartbeats 16000000 in
set_option maxRecDepth 100000 in
theorem path_c (hl : l.length ≤ 70000) (ht : ∀ x ∈ l, x.k = 1 → x.t.length ≤ 70000) {d : Int} {s : Rd Unit} (f : Nat) (hf : ∀ u a, s = .ok u a → leftW l a ≤ f) (w : World) (h : St b ao cap l d s w) :
    Calls Tryd.prog 30 #[.pointer (some ⟨b, 0, none⟩)] w fun e w' => e = .returned (.string ⟨(pathG l s f).getL.toArray⟩) ∧ St b ao cap l d (pathG l s f).unit w' ∧ Lx b w w' := by
  have H := Lib.hid h
  have HBW := Lib.hid (st_lt h)
  have HT := Lib.hid ht
  have HF := Lib.hid hf
  have HW := Lib.hid (word_c hl w h)
  unfold wv at HW
  obtain ⟨x, hx⟩ : ∃ x, wdK l s 0 = x := ⟨_, rfl⟩
  rw [hx] at HW
  have HX := Lib.hid hx
  clear h hx ht hf
  have HS : (x.k = 1 ∧ ownN x.t = true ∧ pathA l s = failS s 10 x) ∨ (pathA l s = s ∧ (x.k = 1 → ownN x.t = false)) := by
    have hx := HX.out
    cases s with
    | bad e p => rw [← hx, wdK_bad_k]; exact .inr ⟨rfl, fun h => absurd h (by decide)⟩
    | ok u a =>
      rw [wdK_zero] at hx
      by_cases hk : x.k = 1
      · cases ho : ownN x.t with
        | true => exact .inl ⟨hk, rfl, by unfold pathA failS; simp only [Rd.then]; rw [hx, if_pos ⟨hk, ho⟩, badF, hx]⟩
        | false => exact .inr ⟨by unfold pathA; simp only [Rd.then]; rw [hx, if_neg (by rw [ho]; simp)], fun _ => rfl⟩
      · exact .inr ⟨by unfold pathA; simp only [Rd.then]; rw [hx, if_neg (fun h => hk h.1)], fun h => absurd h hk⟩
  clear HX
  obtain ⟨xk, xt, xn, xa⟩ := x
  simp only at HS HW
  rcases HS with ⟨hk, ho, hA⟩ | ⟨hA, ho⟩
  · subst hk
    have HO := Lib.hid ho
    have HA := Lib.hid hA
    clear ho hA
    go_enter Tryd.func30, Tryd.ntmps30
    go_wp2_with fail
    refine HW.out.mono ?_
    rintro e w1 ⟨rfl, l1⟩
    have L0 := Lib.hid l1
    have FC := Lib.hid fun X => fail_c 10 (by decide) ⟨1, xt, xn, xa⟩ _ ((H.out.low l1).low (low_new (Low.refl w1) X))
    unfold wv at FC
    clear l1 HW
    go_wp2_with fail
    refine (reserved_c xt _).mono ?_
    rintro e w2 ⟨rfl, rfl⟩
    rw [HO.out]
    go_wp2_with fail
    refine (FC.out _).mono ?_
    rintro e w2 ⟨rfl, s2, l2⟩
    have S2 := Lib.hid s2
    have L2 := Lib.hid (((Lx.of_low L0.out).alloc _).trans l2)
    clear s2 l2 FC
    generalize failS s 10 ⟨1, xt, xn, xa⟩ = sb at *
    go_wp2_with fail
    refine (text_c hl 1 (by decide) _ S2.out).mono ?_
    rintro e w3 ⟨rfl, s3, l3⟩
    have K0 := Lib.hid (pathK_start (s := s) (f := f) HT.out hl HF.out)
    rw [HA.out] at K0
    have S3 := Lib.hid s3
    have L3 := Lib.hid (L2.out.trans l3)
    clear s3 l3
    generalize (sb.then fun _ a => textW l 1 a) = T at *
    go_wp2_with fail
    go_loopg [4] f (fun gk vs wr => ∃ (v : Value) (ns : List (List UInt8)) (si : Rd Unit) (fi : Nat), v = vs ∧ fi ≤ gk ∧ Hid (St b ao cap l d si wr) ∧ Hid (Lx b w wr) ∧ Hid (OwnR 9 1 encT w.heap.size wr v ns) ∧ Hid (PathK l (pathG l s f) fi ns si))
    case atStart => exact ⟨_, _, _, f, rfl, Nat.le_refl _, Lib.hid (S3.out.low (low_new (Low.refl _) _)), Lib.hid (L3.out.alloc _), Lib.hid (ownT_new _ _ _ L3.out.size), K0⟩
    case round =>
      obtain ⟨v, ns, si, fi, rfl, hg, SI, LI, O, K⟩ := hrel
      obtain ⟨y, hy⟩ : ∃ y, wdK l si 0 = y := ⟨_, rfl⟩
      have HW2 := Lib.hid (word_c hl wr SI.out)
      rw [hy] at HW2
      obtain ⟨q, hq⟩ : ∃ q, tkB l si 5 kCol2 = q := ⟨_, rfl⟩
      have hq2 := hq
      rw [tkB_wd (by decide), hy] at hq2
      have HQ2 := Lib.hid hq2
      clear hq2 hy
      cases q with
      | false =>
        have HQ : tkB l si 5 kCol2 = false ∨ ∃ n : Nat, si = .ok () (n : Int) ∧ (wdA l ((n : Int) + 1)).k ≠ 1 := .inl hq
        clear hq
        obtain ⟨k1, k2, k3, -⟩ := id K.out
        obtain ⟨g, cp, rfl, c1, c2, c3, c4⟩ := row_names O.out k1
        have JC := Lib.hid (fun W hW => join_c g cp ns W (fun j hj => (hW : Low wr W).keep (c4 j hj)) (Nat.lt_of_lt_of_le c2 hW.size) k2 c1 k3)
        obtain ⟨ee1, ee2⟩ := pathK_end K.out HQ
        have E1 := Lib.hid ee1
        have E2 := Lib.hid ee2
        clear ee1 ee2 k1 k2 k3 c1 c2 c3 c4
        clear HQ
        go_wp2_with fail
        refine HW2.out.mono ?_
        rintro e w4 ⟨rfl, l4⟩
        have L4 := Lib.hid l4
        clear l4 HW2
        go_wp2_with fail
        refine (isMark_c y [58, 58] _).mono ?_
        rintro e w5 ⟨rfl, l5⟩
        have L5 := Lib.hid (L4.out.trans l5)
        clear l5
        rw [HQ2.out]
        go_wp2_with fail
        refine (JC.out _ L5.out).mono ?_
        rintro e w6 ⟨rfl, l6⟩
        have L6 := Lib.hid (L5.out.trans l6)
        clear l6
        go_wp2_with fail
        go_returns
        exact ⟨by rw [E1.out]; rfl, by rw [E2.out]; exact SI.out.low L6.out, LI.out.low' L6.out⟩
      | true =>
        obtain ⟨n, rfl, hn, -⟩ := tkS_yes (l := l) (by decide) hq
        have hq' : isW l (n : Int) 5 kCol2 = true := hq
        obtain ⟨⟨pp, RS⟩, -, -⟩ := SI.out
        obtain ⟨z, hz⟩ : ∃ z, wdA l ((n : Int) + 1) = z := ⟨_, rfl⟩
        have HW3 := Lib.hid (fun W (h : Low wr W) => word1_c hl hn W (RS.low h))
        rw [hz] at HW3
        by_cases hk : z.k = 1
        · have NX := pathK_next hl HT.out K.out hq' (by rw [hz]; exact hk)
          rw [hz] at NX
          obtain ⟨f', rfl, K2, hn1⟩ := NX
          have KK := Lib.hid K2
          have HK := Lib.hid (show (Rd.ok () ((n : Int) + 1)).then (fun _ a => textW l 1 a) = .ok z.t ((n : Int) + 2) by
            simp only [Rd.then]
            unfold textW
            rw [hz, if_pos hk]; congr 1)
          have HN := Lib.hid (show ns.length ≤ 70000 from K.out.2.1)
          clear hq hq' K2 hz
          have hb9 := st_lt SI.out
          have HB9 := Lib.hid (show b < w.heap.size from HBW.out)
          clear hb9
          unfold wv at HW3
          have FLD := wd_field z
          rw [hk] at HW3 FLD
          go_wp2_with fail
          refine HW2.out.mono ?_
          rintro e w4 ⟨rfl, l4⟩
          have L4 := Lib.hid l4
          clear l4 HW2
          go_wp2_with fail
          refine (isMark_c y [58, 58] _).mono ?_
          rintro e w5 ⟨rfl, l5⟩
          have L5 := Lib.hid (L4.out.trans l5)
          clear l5
          rw [HQ2.out]
          go_wp2_with fail
          refine (HW3.out _ L5.out).mono ?_
          rintro e w6 ⟨rfl, l6⟩
          have L6 := Lib.hid (L5.out.trans l6)
          have R6 := Lib.hid (RS.low (L5.out.trans l6))
          have c1 := R6.out.c1
          have f1 := R6.out.fz 1
          have zn : (n : Int) < 70000 := by omega
          clear l6 HW3
          go_wp2_with fail
          have S7 := Lib.hid (takes_put hl hn R6.out)
          have L7 := Lib.hid ((LI.out.low' L6.out).set 1 (.int .i64 ((n : Int) + 1)))
          have O7 := Lib.hid ((O.out.low L6.out).lx (lx_set b 1 (.int .i64 ((n : Int) + 1)) w6) HB9.out)
          refine (text_c hl 1 (by decide) _ S7.out).mono ?_
          rintro e w8 ⟨rfl, s8, l8⟩
          rw [HK.out] at s8 ⊢
          have S8 := Lib.hid s8
          have L8 := Lib.hid (L7.out.trans l8)
          have O8 := Lib.hid (O7.out.lx l8 HB9.out)
          have hsz := L8.out.size
          clear s8 l8 c1 f1
          go_wp2_with (at_builtin; refine appR rfl _ _ _ rfl Tryd.underlying25 str_infoE rfl (by decide) (by decide) encT_len encT_one w.heap.size v ns rfl (OwnR.alloc O8.out _) z.t ⟨w8.heap.size, 0, none⟩ 1 rfl (fun j u hj => newcell_at _ _ _ _ _ rfl hj) (by have := HN.out; omega) (by simp; omega) ?_; intro v2 w9 h2 b2 k2 n2)
          go_roundg f'
          case measure => omega
          case rel => exact ⟨v2, _, _, f', rfl, Nat.le_refl _, Lib.hid (S8.out.toB b2 HB9.out), Lib.hid (L8.out.belowB b2), Lib.hid h2, KK⟩
        · have hk' : (z.k == 1) = false := by simpa using hk
          have HQ : tkB l (.ok () (n : Int)) 5 kCol2 = false ∨ ∃ m : Nat, (Rd.ok () (n : Int) : Rd Unit) = .ok () (m : Int) ∧ (wdA l ((m : Int) + 1)).k ≠ 1 := .inr ⟨n, rfl, by rw [hz]; exact hk⟩
          clear hq hq' hz hk
          obtain ⟨k1, k2, k3, -⟩ := id K.out
          obtain ⟨g, cp, rfl, c1, c2, c3, c4⟩ := row_names O.out k1
          have JC := Lib.hid (fun W hW => join_c g cp ns W (fun j hj => (hW : Low wr W).keep (c4 j hj)) (Nat.lt_of_lt_of_le c2 hW.size) k2 c1 k3)
          obtain ⟨ee1, ee2⟩ := pathK_end K.out HQ
          have E1 := Lib.hid ee1
          have E2 := Lib.hid ee2
          clear ee1 ee2 k1 k2 k3 c1 c2 c3 c4
          clear HQ
          have FLD := wd_field z
          unfold wv at HW3
          go_wp2_with fail
          refine HW2.out.mono ?_
          rintro e w4 ⟨rfl, l4⟩
          have L4 := Lib.hid l4
          clear l4 HW2
          go_wp2_with fail
          refine (isMark_c y [58, 58] _).mono ?_
          rintro e w5 ⟨rfl, l5⟩
          have L5 := Lib.hid (L4.out.trans l5)
          clear l5
          rw [HQ2.out]
          go_wp2_with fail
          refine (HW3.out _ L5.out).mono ?_
          rintro e w6 ⟨rfl, l6⟩
          have L6 := Lib.hid (L5.out.trans l6)
          clear l6
          go_wp2_with fail
          refine (JC.out _ L6.out).mono ?_
          rintro e w7 ⟨rfl, l7⟩
          have L7 := Lib.hid (L6.out.trans l7)
          clear l7
          go_wp2_with fail
          go_returns
          exact ⟨by rw [E1.out]; rfl, by rw [E2.out]; exact SI.out.low L7.out, LI.out.low' L7.out⟩
  · have HA := Lib.hid hA
    by_cases hk : xk = 1
    · subst hk
      have HO := Lib.hid (ho rfl)
      clear ho hA
      go_enter Tryd.func30, Tryd.ntmps30
      go_wp2_with fail
      refine HW.out.mono ?_
      rintro e w1 ⟨rfl, l1⟩
      have L0 := Lib.hid l1
      clear l1 HW
      go_wp2_with fail
      refine (reserved_c xt _).mono ?_
      rintro e w2 ⟨rfl, rfl⟩
      rw [HO.out]
      go_wp2_with fail
      refine (text_c hl 1 (by decide) _ (H.out.low (low_new L0.out _))).mono ?_
      rintro e w3 ⟨rfl, s3, l3⟩
      have K0 := Lib.hid (pathK_start (s := s) (f := f) HT.out hl HF.out)
      rw [HA.out] at K0
      have S3 := Lib.hid s3
      have L3 := Lib.hid ((Lx.of_low (low_new L0.out _)).trans l3)
      clear s3 l3
      generalize (s.then fun _ a => textW l 1 a) = T at *
      go_wp2_with fail
      go_loopg [4] f (fun gk vs wr => ∃ (v : Value) (ns : List (List UInt8)) (si : Rd Unit) (fi : Nat), v = vs ∧ fi ≤ gk ∧ Hid (St b ao cap l d si wr) ∧ Hid (Lx b w wr) ∧ Hid (OwnR 9 1 encT w.heap.size wr v ns) ∧ Hid (PathK l (pathG l s f) fi ns si))
      case atStart => exact ⟨_, _, _, f, rfl, Nat.le_refl _, Lib.hid (S3.out.low (low_new (Low.refl _) _)), Lib.hid (L3.out.alloc _), Lib.hid (ownT_new _ _ _ L3.out.size), K0⟩
      case round =>
        obtain ⟨v, ns, si, fi, rfl, hg, SI, LI, O, K⟩ := hrel
        obtain ⟨y, hy⟩ : ∃ y, wdK l si 0 = y := ⟨_, rfl⟩
        have HW2 := Lib.hid (word_c hl wr SI.out)
        rw [hy] at HW2
        obtain ⟨q, hq⟩ : ∃ q, tkB l si 5 kCol2 = q := ⟨_, rfl⟩
        have hq2 := hq
        rw [tkB_wd (by decide), hy] at hq2
        have HQ2 := Lib.hid hq2
        clear hq2 hy
        cases q with
        | false =>
          have HQ : tkB l si 5 kCol2 = false ∨ ∃ n : Nat, si = .ok () (n : Int) ∧ (wdA l ((n : Int) + 1)).k ≠ 1 := .inl hq
          clear hq
          obtain ⟨k1, k2, k3, -⟩ := id K.out
          obtain ⟨g, cp, rfl, c1, c2, c3, c4⟩ := row_names O.out k1
          have JC := Lib.hid (fun W hW => join_c g cp ns W (fun j hj => (hW : Low wr W).keep (c4 j hj)) (Nat.lt_of_lt_of_le c2 hW.size) k2 c1 k3)
          obtain ⟨ee1, ee2⟩ := pathK_end K.out HQ
          have E1 := Lib.hid ee1
          have E2 := Lib.hid ee2
          clear ee1 ee2 k1 k2 k3 c1 c2 c3 c4
          clear HQ
          go_wp2_with fail
          refine HW2.out.mono ?_
          rintro e w4 ⟨rfl, l4⟩
          have L4 := Lib.hid l4
          clear l4 HW2
          go_wp2_with fail
          refine (isMark_c y [58, 58] _).mono ?_
          rintro e w5 ⟨rfl, l5⟩
          have L5 := Lib.hid (L4.out.trans l5)
          clear l5
          rw [HQ2.out]
          go_wp2_with fail
          refine (JC.out _ L5.out).mono ?_
          rintro e w6 ⟨rfl, l6⟩
          have L6 := Lib.hid (L5.out.trans l6)
          clear l6
          go_wp2_with fail
          go_returns
          exact ⟨by rw [E1.out]; rfl, by rw [E2.out]; exact SI.out.low L6.out, LI.out.low' L6.out⟩
        | true =>
          obtain ⟨n, rfl, hn, -⟩ := tkS_yes (l := l) (by decide) hq
          have hq' : isW l (n : Int) 5 kCol2 = true := hq
          obtain ⟨⟨pp, RS⟩, -, -⟩ := SI.out
          obtain ⟨z, hz⟩ : ∃ z, wdA l ((n : Int) + 1) = z := ⟨_, rfl⟩
          have HW3 := Lib.hid (fun W (h : Low wr W) => word1_c hl hn W (RS.low h))
          rw [hz] at HW3
          by_cases hk : z.k = 1
          · have NX := pathK_next hl HT.out K.out hq' (by rw [hz]; exact hk)
            rw [hz] at NX
            obtain ⟨f', rfl, K2, hn1⟩ := NX
            have KK := Lib.hid K2
            have HK := Lib.hid (show (Rd.ok () ((n : Int) + 1)).then (fun _ a => textW l 1 a) = .ok z.t ((n : Int) + 2) by
              simp only [Rd.then]
              unfold textW
              rw [hz, if_pos hk]; congr 1)
            have HN := Lib.hid (show ns.length ≤ 70000 from K.out.2.1)
            clear hq hq' K2 hz
            have hb9 := st_lt SI.out
            have HB9 := Lib.hid (show b < w.heap.size from HBW.out)
            clear hb9
            unfold wv at HW3
            have FLD := wd_field z
            rw [hk] at HW3 FLD
            go_wp2_with fail
            refine HW2.out.mono ?_
            rintro e w4 ⟨rfl, l4⟩
            have L4 := Lib.hid l4
            clear l4 HW2
            go_wp2_with fail
            refine (isMark_c y [58, 58] _).mono ?_
            rintro e w5 ⟨rfl, l5⟩
            have L5 := Lib.hid (L4.out.trans l5)
            clear l5
            rw [HQ2.out]
            go_wp2_with fail
            refine (HW3.out _ L5.out).mono ?_
            rintro e w6 ⟨rfl, l6⟩
            have L6 := Lib.hid (L5.out.trans l6)
            have R6 := Lib.hid (RS.low (L5.out.trans l6))
            have c1 := R6.out.c1
            have f1 := R6.out.fz 1
            have zn : (n : Int) < 70000 := by omega
            clear l6 HW3
            go_wp2_with fail
            have S7 := Lib.hid (takes_put hl hn R6.out)
            have L7 := Lib.hid ((LI.out.low' L6.out).set 1 (.int .i64 ((n : Int) + 1)))
            have O7 := Lib.hid ((O.out.low L6.out).lx (lx_set b 1 (.int .i64 ((n : Int) + 1)) w6) HB9.out)
            refine (text_c hl 1 (by decide) _ S7.out).mono ?_
            rintro e w8 ⟨rfl, s8, l8⟩
            rw [HK.out] at s8 ⊢
            have S8 := Lib.hid s8
            have L8 := Lib.hid (L7.out.trans l8)
            have O8 := Lib.hid (O7.out.lx l8 HB9.out)
            have hsz := L8.out.size
            clear s8 l8 c1 f1
            go_wp2_with (at_builtin; refine appR rfl _ _ _ rfl Tryd.underlying25 str_infoE rfl (by decide) (by decide) encT_len encT_one w.heap.size v ns rfl (OwnR.alloc O8.out _) z.t ⟨w8.heap.size, 0, none⟩ 1 rfl (fun j u hj => newcell_at _ _ _ _ _ rfl hj) (by have := HN.out; omega) (by simp; omega) ?_; intro v2 w9 h2 b2 k2 n2)
            go_roundg f'
            case measure => omega
            case rel => exact ⟨v2, _, _, f', rfl, Nat.le_refl _, Lib.hid (S8.out.toB b2 HB9.out), Lib.hid (L8.out.belowB b2), Lib.hid h2, KK⟩
          · have hk' : (z.k == 1) = false := by simpa using hk
            have HQ : tkB l (.ok () (n : Int)) 5 kCol2 = false ∨ ∃ m : Nat, (Rd.ok () (n : Int) : Rd Unit) = .ok () (m : Int) ∧ (wdA l ((m : Int) + 1)).k ≠ 1 := .inr ⟨n, rfl, by rw [hz]; exact hk⟩
            clear hq hq' hz hk
            obtain ⟨k1, k2, k3, -⟩ := id K.out
            obtain ⟨g, cp, rfl, c1, c2, c3, c4⟩ := row_names O.out k1
            have JC := Lib.hid (fun W hW => join_c g cp ns W (fun j hj => (hW : Low wr W).keep (c4 j hj)) (Nat.lt_of_lt_of_le c2 hW.size) k2 c1 k3)
            obtain ⟨ee1, ee2⟩ := pathK_end K.out HQ
            have E1 := Lib.hid ee1
            have E2 := Lib.hid ee2
            clear ee1 ee2 k1 k2 k3 c1 c2 c3 c4
            clear HQ
            have FLD := wd_field z
            unfold wv at HW3
            go_wp2_with fail
            refine HW2.out.mono ?_
            rintro e w4 ⟨rfl, l4⟩
            have L4 := Lib.hid l4
            clear l4 HW2
            go_wp2_with fail
            refine (isMark_c y [58, 58] _).mono ?_
            rintro e w5 ⟨rfl, l5⟩
            have L5 := Lib.hid (L4.out.trans l5)
            clear l5
            rw [HQ2.out]
            go_wp2_with fail
            refine (HW3.out _ L5.out).mono ?_
            rintro e w6 ⟨rfl, l6⟩
            have L6 := Lib.hid (L5.out.trans l6)
            clear l6
            go_wp2_with fail
            refine (JC.out _ L6.out).mono ?_
            rintro e w7 ⟨rfl, l7⟩
            have L7 := Lib.hid (L6.out.trans l7)
            clear l7
            go_wp2_with fail
            go_returns
            exact ⟨by rw [E1.out]; rfl, by rw [E2.out]; exact SI.out.low L7.out, LI.out.low' L7.out⟩
    · have z1 : (xk == 1) = false := by simpa using hk
      clear ho hA hk
      go_enter Tryd.func30, Tryd.ntmps30
      go_wp2_with fail
      refine HW.out.mono ?_
      rintro e w1 ⟨rfl, l1⟩
      have L0 := Lib.hid l1
      clear l1 HW
      go_wp2_with fail
      refine (text_c hl 1 (by decide) _ (H.out.low (low_new L0.out _))).mono ?_
      rintro e w3 ⟨rfl, s3, l3⟩
      have K0 := Lib.hid (pathK_start (s := s) (f := f) HT.out hl HF.out)
      rw [HA.out] at K0
      have S3 := Lib.hid s3
      have L3 := Lib.hid ((Lx.of_low (low_new L0.out _)).trans l3)
      clear s3 l3
      generalize (s.then fun _ a => textW l 1 a) = T at *
      go_wp2_with fail
      go_loopg [4] f (fun gk vs wr => ∃ (v : Value) (ns : List (List UInt8)) (si : Rd Unit) (fi : Nat), v = vs ∧ fi ≤ gk ∧ Hid (St b ao cap l d si wr) ∧ Hid (Lx b w wr) ∧ Hid (OwnR 9 1 encT w.heap.size wr v ns) ∧ Hid (PathK l (pathG l s f) fi ns si))
      case atStart => exact ⟨_, _, _, f, rfl, Nat.le_refl _, Lib.hid (S3.out.low (low_new (Low.refl _) _)), Lib.hid (L3.out.alloc _), Lib.hid (ownT_new _ _ _ L3.out.size), K0⟩
      case round =>
        obtain ⟨v, ns, si, fi, rfl, hg, SI, LI, O, K⟩ := hrel
        obtain ⟨y, hy⟩ : ∃ y, wdK l si 0 = y := ⟨_, rfl⟩
        have HW2 := Lib.hid (word_c hl wr SI.out)
        rw [hy] at HW2
        obtain ⟨q, hq⟩ : ∃ q, tkB l si 5 kCol2 = q := ⟨_, rfl⟩
        have hq2 := hq
        rw [tkB_wd (by decide), hy] at hq2
        have HQ2 := Lib.hid hq2
        clear hq2 hy
        cases q with
        | false =>
          have HQ : tkB l si 5 kCol2 = false ∨ ∃ n : Nat, si = .ok () (n : Int) ∧ (wdA l ((n : Int) + 1)).k ≠ 1 := .inl hq
          clear hq
          obtain ⟨k1, k2, k3, -⟩ := id K.out
          obtain ⟨g, cp, rfl, c1, c2, c3, c4⟩ := row_names O.out k1
          have JC := Lib.hid (fun W hW => join_c g cp ns W (fun j hj => (hW : Low wr W).keep (c4 j hj)) (Nat.lt_of_lt_of_le c2 hW.size) k2 c1 k3)
          obtain ⟨ee1, ee2⟩ := pathK_end K.out HQ
          have E1 := Lib.hid ee1
          have E2 := Lib.hid ee2
          clear ee1 ee2 k1 k2 k3 c1 c2 c3 c4
          clear HQ
          go_wp2_with fail
          refine HW2.out.mono ?_
          rintro e w4 ⟨rfl, l4⟩
          have L4 := Lib.hid l4
          clear l4 HW2
          go_wp2_with fail
          refine (isMark_c y [58, 58] _).mono ?_
          rintro e w5 ⟨rfl, l5⟩
          have L5 := Lib.hid (L4.out.trans l5)
          clear l5
          rw [HQ2.out]
          go_wp2_with fail
          refine (JC.out _ L5.out).mono ?_
          rintro e w6 ⟨rfl, l6⟩
          have L6 := Lib.hid (L5.out.trans l6)
          clear l6
          go_wp2_with fail
          go_returns
          exact ⟨by rw [E1.out]; rfl, by rw [E2.out]; exact SI.out.low L6.out, LI.out.low' L6.out⟩
        | true =>
          obtain ⟨n, rfl, hn, -⟩ := tkS_yes (l := l) (by decide) hq
          have hq' : isW l (n : Int) 5 kCol2 = true := hq
          obtain ⟨⟨pp, RS⟩, -, -⟩ := SI.out
          obtain ⟨z, hz⟩ : ∃ z, wdA l ((n : Int) + 1) = z := ⟨_, rfl⟩
          have HW3 := Lib.hid (fun W (h : Low wr W) => word1_c hl hn W (RS.low h))
          rw [hz] at HW3
          by_cases hk : z.k = 1
          · have NX := pathK_next hl HT.out K.out hq' (by rw [hz]; exact hk)
            rw [hz] at NX
            obtain ⟨f', rfl, K2, hn1⟩ := NX
            have KK := Lib.hid K2
            have HK := Lib.hid (show (Rd.ok () ((n : Int) + 1)).then (fun _ a => textW l 1 a) = .ok z.t ((n : Int) + 2) by
              simp only [Rd.then]
              unfold textW
              rw [hz, if_pos hk]; congr 1)
            have HN := Lib.hid (show ns.length ≤ 70000 from K.out.2.1)
            clear hq hq' K2 hz
            have hb9 := st_lt SI.out
            have HB9 := Lib.hid (show b < w.heap.size from HBW.out)
            clear hb9
            unfold wv at HW3
            have FLD := wd_field z
            rw [hk] at HW3 FLD
            go_wp2_with fail
            refine HW2.out.mono ?_
            rintro e w4 ⟨rfl, l4⟩
            have L4 := Lib.hid l4
            clear l4 HW2
            go_wp2_with fail
            refine (isMark_c y [58, 58] _).mono ?_
            rintro e w5 ⟨rfl, l5⟩
            have L5 := Lib.hid (L4.out.trans l5)
            clear l5
            rw [HQ2.out]
            go_wp2_with fail
            refine (HW3.out _ L5.out).mono ?_
            rintro e w6 ⟨rfl, l6⟩
            have L6 := Lib.hid (L5.out.trans l6)
            have R6 := Lib.hid (RS.low (L5.out.trans l6))
            have c1 := R6.out.c1
            have f1 := R6.out.fz 1
            have zn : (n : Int) < 70000 := by omega
            clear l6 HW3
            go_wp2_with fail
            have S7 := Lib.hid (takes_put hl hn R6.out)
            have L7 := Lib.hid ((LI.out.low' L6.out).set 1 (.int .i64 ((n : Int) + 1)))
            have O7 := Lib.hid ((O.out.low L6.out).lx (lx_set b 1 (.int .i64 ((n : Int) + 1)) w6) HB9.out)
            refine (text_c hl 1 (by decide) _ S7.out).mono ?_
            rintro e w8 ⟨rfl, s8, l8⟩
            rw [HK.out] at s8 ⊢
            have S8 := Lib.hid s8
            have L8 := Lib.hid (L7.out.trans l8)
            have O8 := Lib.hid (O7.out.lx l8 HB9.out)
            have hsz := L8.out.size
            clear s8 l8 c1 f1
            go_wp2_with (at_builtin; refine appR rfl _ _ _ rfl Tryd.underlying25 str_infoE rfl (by decide) (by decide) encT_len encT_one w.heap.size v ns rfl (OwnR.alloc O8.out _) z.t ⟨w8.heap.size, 0, none⟩ 1 rfl (fun j u hj => newcell_at _ _ _ _ _ rfl hj) (by have := HN.out; omega) (by simp; omega) ?_; intro v2 w9 h2 b2 k2 n2)
            go_roundg f'
            case measure => omega
            case rel => exact ⟨v2, _, _, f', rfl, Nat.le_refl _, Lib.hid (S8.out.toB b2 HB9.out), Lib.hid (L8.out.belowB b2), Lib.hid h2, KK⟩
          · have hk' : (z.k == 1) = false := by simpa using hk
            have HQ : tkB l (.ok () (n : Int)) 5 kCol2 = false ∨ ∃ m : Nat, (Rd.ok () (n : Int) : Rd Unit) = .ok () (m : Int) ∧ (wdA l ((m : Int) + 1)).k ≠ 1 := .inr ⟨n, rfl, by rw [hz]; exact hk⟩
            clear hq hq' hz hk
            obtain ⟨k1, k2, k3, -⟩ := id K.out
            obtain ⟨g, cp, rfl, c1, c2, c3, c4⟩ := row_names O.out k1
            have JC := Lib.hid (fun W hW => join_c g cp ns W (fun j hj => (hW : Low wr W).keep (c4 j hj)) (Nat.lt_of_lt_of_le c2 hW.size) k2 c1 k3)
            obtain ⟨ee1, ee2⟩ := pathK_end K.out HQ
            have E1 := Lib.hid ee1
            have E2 := Lib.hid ee2
            clear ee1 ee2 k1 k2 k3 c1 c2 c3 c4
            clear HQ
            have FLD := wd_field z
            unfold wv at HW3
            go_wp2_with fail
            refine HW2.out.mono ?_
            rintro e w4 ⟨rfl, l4⟩
            have L4 := Lib.hid l4
            clear l4 HW2
            go_wp2_with fail
            refine (isMark_c y [58, 58] _).mono ?_
            rintro e w5 ⟨rfl, l5⟩
            have L5 := Lib.hid (L4.out.trans l5)
            clear l5
            rw [HQ2.out]
            go_wp2_with fail
            refine (HW3.out _ L5.out).mono ?_
            rintro e w6 ⟨rfl, l6⟩
            have L6 := Lib.hid (L5.out.trans l6)
            clear l6
            go_wp2_with fail
            refine (JC.out _ L6.out).mono ?_
            rintro e w7 ⟨rfl, l7⟩
            have L7 := Lib.hid (L6.out.trans l7)
            clear l7
            go_wp2_with fail
            go_returns
            exact ⟨by rw [E1.out]; rfl, by rw [E2.out]; exact SI.out.low L7.out, LI.out.low' L7.out⟩
end
end Go.Proofs.YtflpidnkppljlaaDoor
namespace Go.Proofs.YtflpidnkppljlaaDoor
open Go.RowKit
theorem put2 {W : World} {k : Nat} {x0 x1 : Value} (c0 : W.cell? ⟨k, 0, none⟩ = some x0) (c1 : W.cell? ⟨k, 1, none⟩ = some x1) :
    (∀ u v, ((W.setCell ⟨k, 0, none⟩ u).setCell ⟨k, 1, none⟩ v).cell? ⟨k, 0, none⟩ = some u) ∧ (∀ u v, ((W.setCell ⟨k, 0, none⟩ u).setCell ⟨k, 1, none⟩ v).cell? ⟨k, 1, none⟩ = some v) := by
  refine ⟨?_, ?_⟩ <;> intro u v <;> simp [go_sem, c0, c1]
theorem put12 {W : World} {k : Nat} {x0 : Value} {x1 : Value} {x2 : Value} {x3 : Value} {x4 : Value} {x5 : Value} {x6 : Value} {x7 : Value} {x8 : Value} {x9 : Value} {x10 : Value} {x11 : Value} (c0 : W.cell? ⟨k, 0, none⟩ = some x0) (c1 : W.cell? ⟨k, 1, none⟩ = some x1) (c2 : W.cell? ⟨k, 2, none⟩ = some x2) (c3 : W.cell? ⟨k, 3, none⟩ = some x3) (c4 : W.cell? ⟨k, 4, none⟩ = some x4) (c5 : W.cell? ⟨k, 5, none⟩ = some x5) (c6 : W.cell? ⟨k, 6, none⟩ = some x6) (c7 : W.cell? ⟨k, 7, none⟩ = some x7) (c8 : W.cell? ⟨k, 8, none⟩ = some x8) (c9 : W.cell? ⟨k, 9, none⟩ = some x9) (c10 : W.cell? ⟨k, 10, none⟩ = some x10) (c11 : W.cell? ⟨k, 11, none⟩ = some x11) :
    (∀ u0 u1 u2 u3 u4 u5 u6 u7 u8 u9 u10 u11, ((((((((((((W.setCell ⟨k, 0, none⟩ u0).setCell ⟨k, 1, none⟩ u1).setCell ⟨k, 2, none⟩ u2).setCell ⟨k, 3, none⟩ u3).setCell ⟨k, 4, none⟩ u4).setCell ⟨k, 5, none⟩ u5).setCell ⟨k, 6, none⟩ u6).setCell ⟨k, 7, none⟩ u7).setCell ⟨k, 8, none⟩ u8).setCell ⟨k, 9, none⟩ u9).setCell ⟨k, 10, none⟩ u10).setCell ⟨k, 11, none⟩ u11).cell? ⟨k, 0, none⟩ = some u0) ∧
    (∀ u0 u1 u2 u3 u4 u5 u6 u7 u8 u9 u10 u11, ((((((((((((W.setCell ⟨k, 0, none⟩ u0).setCell ⟨k, 1, none⟩ u1).setCell ⟨k, 2, none⟩ u2).setCell ⟨k, 3, none⟩ u3).setCell ⟨k, 4, none⟩ u4).setCell ⟨k, 5, none⟩ u5).setCell ⟨k, 6, none⟩ u6).setCell ⟨k, 7, none⟩ u7).setCell ⟨k, 8, none⟩ u8).setCell ⟨k, 9, none⟩ u9).setCell ⟨k, 10, none⟩ u10).setCell ⟨k, 11, none⟩ u11).cell? ⟨k, 1, none⟩ = some u1) ∧
    (∀ u0 u1 u2 u3 u4 u5 u6 u7 u8 u9 u10 u11, ((((((((((((W.setCell ⟨k, 0, none⟩ u0).setCell ⟨k, 1, none⟩ u1).setCell ⟨k, 2, none⟩ u2).setCell ⟨k, 3, none⟩ u3).setCell ⟨k, 4, none⟩ u4).setCell ⟨k, 5, none⟩ u5).setCell ⟨k, 6, none⟩ u6).setCell ⟨k, 7, none⟩ u7).setCell ⟨k, 8, none⟩ u8).setCell ⟨k, 9, none⟩ u9).setCell ⟨k, 10, none⟩ u10).setCell ⟨k, 11, none⟩ u11).cell? ⟨k, 2, none⟩ = some u2) ∧
    (∀ u0 u1 u2 u3 u4 u5 u6 u7 u8 u9 u10 u11, ((((((((((((W.setCell ⟨k, 0, none⟩ u0).setCell ⟨k, 1, none⟩ u1).setCell ⟨k, 2, none⟩ u2).setCell ⟨k, 3, none⟩ u3).setCell ⟨k, 4, none⟩ u4).setCell ⟨k, 5, none⟩ u5).setCell ⟨k, 6, none⟩ u6).setCell ⟨k, 7, none⟩ u7).setCell ⟨k, 8, none⟩ u8).setCell ⟨k, 9, none⟩ u9).setCell ⟨k, 10, none⟩ u10).setCell ⟨k, 11, none⟩ u11).cell? ⟨k, 3, none⟩ = some u3) ∧
    (∀ u0 u1 u2 u3 u4 u5 u6 u7 u8 u9 u10 u11, ((((((((((((W.setCell ⟨k, 0, none⟩ u0).setCell ⟨k, 1, none⟩ u1).setCell ⟨k, 2, none⟩ u2).setCell ⟨k, 3, none⟩ u3).setCell ⟨k, 4, none⟩ u4).setCell ⟨k, 5, none⟩ u5).setCell ⟨k, 6, none⟩ u6).setCell ⟨k, 7, none⟩ u7).setCell ⟨k, 8, none⟩ u8).setCell ⟨k, 9, none⟩ u9).setCell ⟨k, 10, none⟩ u10).setCell ⟨k, 11, none⟩ u11).cell? ⟨k, 4, none⟩ = some u4) ∧
    (∀ u0 u1 u2 u3 u4 u5 u6 u7 u8 u9 u10 u11, ((((((((((((W.setCell ⟨k, 0, none⟩ u0).setCell ⟨k, 1, none⟩ u1).setCell ⟨k, 2, none⟩ u2).setCell ⟨k, 3, none⟩ u3).setCell ⟨k, 4, none⟩ u4).setCell ⟨k, 5, none⟩ u5).setCell ⟨k, 6, none⟩ u6).setCell ⟨k, 7, none⟩ u7).setCell ⟨k, 8, none⟩ u8).setCell ⟨k, 9, none⟩ u9).setCell ⟨k, 10, none⟩ u10).setCell ⟨k, 11, none⟩ u11).cell? ⟨k, 5, none⟩ = some u5) ∧
    (∀ u0 u1 u2 u3 u4 u5 u6 u7 u8 u9 u10 u11, ((((((((((((W.setCell ⟨k, 0, none⟩ u0).setCell ⟨k, 1, none⟩ u1).setCell ⟨k, 2, none⟩ u2).setCell ⟨k, 3, none⟩ u3).setCell ⟨k, 4, none⟩ u4).setCell ⟨k, 5, none⟩ u5).setCell ⟨k, 6, none⟩ u6).setCell ⟨k, 7, none⟩ u7).setCell ⟨k, 8, none⟩ u8).setCell ⟨k, 9, none⟩ u9).setCell ⟨k, 10, none⟩ u10).setCell ⟨k, 11, none⟩ u11).cell? ⟨k, 6, none⟩ = some u6) ∧
    (∀ u0 u1 u2 u3 u4 u5 u6 u7 u8 u9 u10 u11, ((((((((((((W.setCell ⟨k, 0, none⟩ u0).setCell ⟨k, 1, none⟩ u1).setCell ⟨k, 2, none⟩ u2).setCell ⟨k, 3, none⟩ u3).setCell ⟨k, 4, none⟩ u4).setCell ⟨k, 5, none⟩ u5).setCell ⟨k, 6, none⟩ u6).setCell ⟨k, 7, none⟩ u7).setCell ⟨k, 8, none⟩ u8).setCell ⟨k, 9, none⟩ u9).setCell ⟨k, 10, none⟩ u10).setCell ⟨k, 11, none⟩ u11).cell? ⟨k, 7, none⟩ = some u7) ∧
    (∀ u0 u1 u2 u3 u4 u5 u6 u7 u8 u9 u10 u11, ((((((((((((W.setCell ⟨k, 0, none⟩ u0).setCell ⟨k, 1, none⟩ u1).setCell ⟨k, 2, none⟩ u2).setCell ⟨k, 3, none⟩ u3).setCell ⟨k, 4, none⟩ u4).setCell ⟨k, 5, none⟩ u5).setCell ⟨k, 6, none⟩ u6).setCell ⟨k, 7, none⟩ u7).setCell ⟨k, 8, none⟩ u8).setCell ⟨k, 9, none⟩ u9).setCell ⟨k, 10, none⟩ u10).setCell ⟨k, 11, none⟩ u11).cell? ⟨k, 8, none⟩ = some u8) ∧
    (∀ u0 u1 u2 u3 u4 u5 u6 u7 u8 u9 u10 u11, ((((((((((((W.setCell ⟨k, 0, none⟩ u0).setCell ⟨k, 1, none⟩ u1).setCell ⟨k, 2, none⟩ u2).setCell ⟨k, 3, none⟩ u3).setCell ⟨k, 4, none⟩ u4).setCell ⟨k, 5, none⟩ u5).setCell ⟨k, 6, none⟩ u6).setCell ⟨k, 7, none⟩ u7).setCell ⟨k, 8, none⟩ u8).setCell ⟨k, 9, none⟩ u9).setCell ⟨k, 10, none⟩ u10).setCell ⟨k, 11, none⟩ u11).cell? ⟨k, 9, none⟩ = some u9) ∧
    (∀ u0 u1 u2 u3 u4 u5 u6 u7 u8 u9 u10 u11, ((((((((((((W.setCell ⟨k, 0, none⟩ u0).setCell ⟨k, 1, none⟩ u1).setCell ⟨k, 2, none⟩ u2).setCell ⟨k, 3, none⟩ u3).setCell ⟨k, 4, none⟩ u4).setCell ⟨k, 5, none⟩ u5).setCell ⟨k, 6, none⟩ u6).setCell ⟨k, 7, none⟩ u7).setCell ⟨k, 8, none⟩ u8).setCell ⟨k, 9, none⟩ u9).setCell ⟨k, 10, none⟩ u10).setCell ⟨k, 11, none⟩ u11).cell? ⟨k, 10, none⟩ = some u10) ∧
    (∀ u0 u1 u2 u3 u4 u5 u6 u7 u8 u9 u10 u11, ((((((((((((W.setCell ⟨k, 0, none⟩ u0).setCell ⟨k, 1, none⟩ u1).setCell ⟨k, 2, none⟩ u2).setCell ⟨k, 3, none⟩ u3).setCell ⟨k, 4, none⟩ u4).setCell ⟨k, 5, none⟩ u5).setCell ⟨k, 6, none⟩ u6).setCell ⟨k, 7, none⟩ u7).setCell ⟨k, 8, none⟩ u8).setCell ⟨k, 9, none⟩ u9).setCell ⟨k, 10, none⟩ u10).setCell ⟨k, 11, none⟩ u11).cell? ⟨k, 11, none⟩ = some u11) := by
  refine ⟨?_, ?_, ?_, ?_, ?_, ?_, ?_, ?_, ?_, ?_, ?_, ?_⟩ <;> intro u0 u1 u2 u3 u4 u5 u6 u7 u8 u9 u10 u11 <;> simp [go_sem, c0, c1, c2, c3, c4, c5, c6, c7, c8, c9, c10, c11]
section
variable {b : Nat} {ao : Option Addr} {cap : Nat} {l : List Wd}
theorem RSt.setN {a d e p : Int} {w : World} (h : RSt b ao cap l a d e p w) {w0 : World} (k o : Nat) (v : Value) (hb : b < w0.heap.size) (hk : w0.heap.size ≤ k := by exact Nat.le_refl _) : RSt b ao cap l a d e p (w.setCell ⟨k, o, none⟩ v) := by
  have e1 : ∀ i, i < w0.heap.size → (w.setCell ⟨k, o, none⟩ v).heap[i]? = w.heap[i]? := fun i hi => Below.heap_setCell _ _ _ _ (by show i ≠ k; omega)
  have e2 : ∀ j, (w.setCell ⟨k, o, none⟩ v).cell? ⟨b, j, none⟩ = w.cell? ⟨b, j, none⟩ := fun j => World.cell?_of_block (a := ⟨b, j, none⟩) (e1 b hb)
  refine ⟨(e2 0).trans h.c0, (e2 1).trans h.c1, (e2 2).trans h.c2, (e2 3).trans h.c3, (e2 4).trans h.c4, fun j => by rw [World.frozen?_setCell]; exact h.fz j, ?_⟩
  rcases h.ws with h | ⟨g, rfl, hg, hc⟩
  · exact .inl h
  · exact .inr ⟨g, rfl, hg, fun j hj i u hu => cell_toE (hc j hj i u hu) fun _ => e1 g (by omega)⟩
/-- A store into a block of the call's own. -/
theorem St.setN {d : Int} {s : Rd Unit} {w : World} (h : St b ao cap l d s w) {w0 : World} (k o : Nat) (v : Value) (hb : b < w0.heap.size) (hk : w0.heap.size ≤ k := by exact Nat.le_refl _) : St b ao cap l d s (w.setCell ⟨k, o, none⟩ v) := by
  cases s with
  | ok u a => obtain ⟨⟨p, h⟩, h2⟩ := h; exact ⟨⟨p, h.setN k o v hb hk⟩, h2⟩
  | bad e p => obtain ⟨h0, a, h⟩ := h; exact ⟨h0, a, h.setN k o v hb hk⟩
/-- A box of the call's own, behind what turned the reader's box alone. -/
theorem box_lx {w w' : World} {C : Array Value} {t : TypeId} (h : Lx b (w.alloc (.cells C t)) w') (hb : b < w.heap.size) :
    (∀ j, w'.cell? ⟨w.heap.size, j, none⟩ = C[j]?) ∧ ∀ j, w'.frozen? ⟨w.heap.size, j, none⟩ = false := by
  have e : w'.heap[w.heap.size]? = (w.alloc (.cells C t)).heap[w.heap.size]? := h.block _ (by simp) (by omega)
  exact ⟨fun j => (World.cell?_of_block (w := w.alloc (.cells C t)) (a := ⟨w.heap.size, j, none⟩) e).trans (by rw [World.cell?_alloc_mark]), fun j => (World.frozen?_of_block (w := w.alloc (.cells C t)) (a := ⟨w.heap.size, j, none⟩) e).trans (by simp)⟩
theorem box12 {w w' : World} {t : TypeId} {x0 : Value} {x1 : Value} {x2 : Value} {x3 : Value} {x4 : Value} {x5 : Value} {x6 : Value} {x7 : Value} {x8 : Value} {x9 : Value} {x10 : Value} {x11 : Value} (h : Lx b (w.alloc (.cells #[x0, x1, x2, x3, x4, x5, x6, x7, x8, x9, x10, x11] t)) w') (hb : b < w.heap.size) :
    (w'.cell? ⟨w.heap.size, 0, none⟩ = some x0 ∧ w'.cell? ⟨w.heap.size, 1, none⟩ = some x1 ∧ w'.cell? ⟨w.heap.size, 2, none⟩ = some x2 ∧ w'.cell? ⟨w.heap.size, 3, none⟩ = some x3 ∧ w'.cell? ⟨w.heap.size, 4, none⟩ = some x4 ∧ w'.cell? ⟨w.heap.size, 5, none⟩ = some x5 ∧ w'.cell? ⟨w.heap.size, 6, none⟩ = some x6 ∧ w'.cell? ⟨w.heap.size, 7, none⟩ = some x7 ∧ w'.cell? ⟨w.heap.size, 8, none⟩ = some x8 ∧ w'.cell? ⟨w.heap.size, 9, none⟩ = some x9 ∧ w'.cell? ⟨w.heap.size, 10, none⟩ = some x10 ∧ w'.cell? ⟨w.heap.size, 11, none⟩ = some x11) ∧ ∀ j, w'.frozen? ⟨w.heap.size, j, none⟩ = false :=
  have h1 := box_lx h hb
  ⟨⟨h1.1 0, h1.1 1, h1.1 2, h1.1 3, h1.1 4, h1.1 5, h1.1 6, h1.1 7, h1.1 8, h1.1 9, h1.1 10, h1.1 11⟩, h1.2⟩
/-- An entity's name, behind whatever. -/
def uidG (l : List Wd) (s : Rd Unit) (f : Nat) : Rd (List UInt8 × List UInt8) := s.then fun _ a => uidR l f a
def Rd.getU : Rd (List UInt8 × List UInt8) → List UInt8 × List UInt8 | .ok x _ => x | .bad _ _ => ([], [])
theorem uidG_eq (s : Rd Unit) (f : Nat) : uidG l s f = ((pathG l s f).then fun t n => (mustW l 5 kCol2 n).then fun _ n => (textW l 3 n).then fun i n => .ok (t, i) n) := by
  cases s with
  | bad e p => rfl
  | ok u a => rfl
theorem uidG_unit (s : Rd Unit) (f : Nat) : (uidG l s f).unit = ((mustS l (pathG l s f).unit 5 kCol2).then fun _ a => textW l 3 a).unit ∧ ∀ y n, uidG l s f = .ok y n → y = ((pathG l s f).getL, ((mustS l (pathG l s f).unit 5 kCol2).then fun _ a => textW l 3 a).getL) := by
  rw [uidG_eq]
  cases pathG l s f with
  | bad e p => exact ⟨rfl, fun y n h => by cases h⟩
  | ok t n =>
    unfold mustS
    simp only [Rd.then, Rd.unit, Rd.getL]
    cases mustW l 5 kCol2 n with
    | bad e p => exact ⟨rfl, fun y n h => by cases h⟩
    | ok u m =>
      simp only [Rd.then]
      cases textW l 3 m with
      | bad e p => exact ⟨rfl, fun y n h => by cases h⟩
      | ok i k => exact ⟨rfl, fun y n h => by injection h with h; exact h.symm⟩
set_option maxHeartbeats 800000 in
theorem uid_c (hl : l.length ≤ 70000) (ht : ∀ x ∈ l, x.k = 1 → x.t.length ≤ 70000) {d : Int} {s : Rd Unit} (f : Nat) (hf : ∀ u a, s = .ok u a → leftW l a ≤ f) (w : World) (h : St b ao cap l d s w) :
    Calls Tryd.prog 16 #[.pointer (some ⟨b, 0, none⟩)] w fun e w' => ∃ t i : List UInt8, e = .returned (.agg #[.string ⟨t.toArray⟩, .string ⟨i.toArray⟩]) ∧ St b ao cap l d (uidG l s f).unit w' ∧ Lx b w w' ∧ ∀ y n, uidG l s f = .ok y n → y = (t, i) := by
  have HP := Lib.hid fun W (hW : Low w W) => path_c hl ht f hf W (h.low hW)
  have HU := Lib.hid (uidG_unit (l := l) s f)
  have HBW := Lib.hid (st_lt h)
  clear h hf ht
  go_enter Tryd.func16, Tryd.ntmps16
  go_wp2_with fail
  refine (HP.out _ (low_new (Low.refl _) _)).mono ?_
  rintro e w1 ⟨rfl, s1, l1⟩
  have S1 := Lib.hid s1
  have L1 := Lib.hid l1
  clear s1 l1 HP
  go_wp2_with fail
  refine (must_c hl 5 (by decide) [58, 58] _ S1.out).mono ?_
  rintro e w2 ⟨rfl, s2, l2⟩
  have S2 := Lib.hid s2
  have L2 := Lib.hid (L1.out.trans l2)
  clear s2 l2
  go_wp2_with fail
  refine (text_c hl 3 (by decide) _ S2.out).mono ?_
  rintro e w3 ⟨rfl, s3, l3⟩
  have S3 := Lib.hid s3
  have L3 := Lib.hid (L2.out.trans l3)
  clear s3 l3
  have BX := box_lx L3.out HBW.out
  obtain ⟨c0, c1⟩ := show w3.cell? ⟨w.heap.size, 0, none⟩ = some (.string ⟨#[]⟩) ∧ w3.cell? ⟨w.heap.size, 1, none⟩ = some (.string ⟨#[]⟩) from ⟨BX.1 0, BX.1 1⟩
  have fz := BX.2
  clear BX
  generalize pathG l s f = P at *
  go_wp2_with fail
  obtain ⟨E0, E1⟩ := put2 c0 c1
  refine bodyPost_ret (v := .agg #[.string ⟨P.getL.toArray⟩, .string ⟨((mustS l P.unit 5 [58, 58]).then fun _ a => textW l 3 a).getL.toArray⟩]) (by simp [results, Tryd.results16, go_sem, E0, E1]) rfl ?_
  exact ⟨_, _, rfl, by rw [HU.out.1]; exact (S3.out.setN _ _ _ HBW.out).setN _ _ _ HBW.out, ((((Lx.refl b w).alloc _).trans L3.out).setN _ _ _ (Nat.le_refl _)).setN _ _ _ (Nat.le_refl _), HU.out.2⟩
end
end Go.Proofs.YtflpidnkppljlaaDoor
namespace Go.Proofs.YtflpidnkppljlaaDoor
open Go.RowKit
section
variable {b : Nat} {ao : Option Addr} {cap : Nat} {l : List Wd}
/-- What a rule leaves, and tells: an expression in new blocks; that which was read, without a fault. -/
def RuleP (b : Nat) (ao : Option Addr) (cap : Nat) (l : List Wd) (d : Int) (r : Rd Ex) (w : World) (e : Ending) (w' : World) : Prop :=
  ∃ x p, e = .returned (exv x p) ∧ XAt (Nw w.heap.size) w' x p ∧ St b ao cap l d r.unit w' ∧ Lx b w w' ∧ ∀ y n, r = .ok y n → x = y
theorem XAt.setN {B : Nat} {w : World} {x : Ex} {p : Pl} (h : XAt (Nw B) w x p) (k o : Nat) (v : Value) (hk : k < B) : XAt (Nw B) (w.setCell ⟨k, o, none⟩ v) x p :=
  XAt.to (fun g hg _ => ⟨hg, Below.heap_setCell _ _ _ _ (by show g ≠ k; have : B ≤ g := hg; omega)⟩) x h
theorem St.deep {d : Int} {s : Rd Unit} {w : World} (h : St b ao cap l d s w) (d' : Int) : St b ao cap l d' s (w.setCell ⟨b, 2, none⟩ (.int .i64 d')) := by
  cases s with
  | ok u a => obtain ⟨⟨p, h⟩, h2⟩ := h; exact ⟨⟨p, h.put2 d'⟩, h2⟩
  | bad e p => obtain ⟨h0, a, h⟩ := h; exact ⟨h0, a, h.put2 d'⟩
theorem St.c2 {d : Int} {s : Rd Unit} {w : World} (h : St b ao cap l d s w) : w.cell? ⟨b, 2, none⟩ = some (.int .i64 d) ∧ w.frozen? ⟨b, 2, none⟩ = false := by
  cases s with
  | ok u a => obtain ⟨⟨p, h⟩, h2⟩ := h; exact ⟨h.c2, h.fz 2⟩
  | bad e p => obtain ⟨h0, a, h⟩ := h; exact ⟨h.c2, h.fz 2⟩
theorem St.new {d : Int} {s : Rd Unit} {w : World} (h : St b ao cap l d s w) (X : Obj) : St b ao cap l d s (w.alloc X) := h.low (low_new (Low.refl w) X)
theorem tow_lx {w W : World} {u0 u1 u2 u3 u4 u5 u6 u7 u8 u9 u10 u11 : Value} (h : Lx b w W) : Lx b w ((((((((((((W.setCell ⟨w.heap.size, 0, none⟩ u0).setCell ⟨w.heap.size, 1, none⟩ u1).setCell ⟨w.heap.size, 2, none⟩ u2).setCell ⟨w.heap.size, 3, none⟩ u3).setCell ⟨w.heap.size, 4, none⟩ u4).setCell ⟨w.heap.size, 5, none⟩ u5).setCell ⟨w.heap.size, 6, none⟩ u6).setCell ⟨w.heap.size, 7, none⟩ u7).setCell ⟨w.heap.size, 8, none⟩ u8).setCell ⟨w.heap.size, 9, none⟩ u9).setCell ⟨w.heap.size, 10, none⟩ u10).setCell ⟨w.heap.size, 11, none⟩ u11) :=
  (((((((((((h.setN _ _ _ (Nat.le_refl _)).setN _ _ _ (Nat.le_refl _)).setN _ _ _ (Nat.le_refl _)).setN _ _ _ (Nat.le_refl _)).setN _ _ _ (Nat.le_refl _)).setN _ _ _ (Nat.le_refl _)).setN _ _ _ (Nat.le_refl _)).setN _ _ _ (Nat.le_refl _)).setN _ _ _ (Nat.le_refl _)).setN _ _ _ (Nat.le_refl _)).setN _ _ _ (Nat.le_refl _)).setN _ _ _ (Nat.le_refl _)
theorem tow_st {d : Int} {s : Rd Unit} {w W : World} {u0 u1 u2 u3 u4 u5 u6 u7 u8 u9 u10 u11 : Value} (h : St b ao cap l d s W) (hb : b < w.heap.size) : St b ao cap l d s ((((((((((((W.setCell ⟨w.heap.size, 0, none⟩ u0).setCell ⟨w.heap.size, 1, none⟩ u1).setCell ⟨w.heap.size, 2, none⟩ u2).setCell ⟨w.heap.size, 3, none⟩ u3).setCell ⟨w.heap.size, 4, none⟩ u4).setCell ⟨w.heap.size, 5, none⟩ u5).setCell ⟨w.heap.size, 6, none⟩ u6).setCell ⟨w.heap.size, 7, none⟩ u7).setCell ⟨w.heap.size, 8, none⟩ u8).setCell ⟨w.heap.size, 9, none⟩ u9).setCell ⟨w.heap.size, 10, none⟩ u10).setCell ⟨w.heap.size, 11, none⟩ u11) :=
  (((((((((((h.setN _ _ _ hb).setN _ _ _ hb).setN _ _ _ hb).setN _ _ _ hb).setN _ _ _ hb).setN _ _ _ hb).setN _ _ _ hb).setN _ _ _ hb).setN _ _ _ hb).setN _ _ _ hb).setN _ _ _ hb).setN _ _ _ hb
theorem tow_x {B : Nat} {x : Ex} {p : Pl} {w W : World} {u0 u1 u2 u3 u4 u5 u6 u7 u8 u9 u10 u11 : Value} (h : XAt (Nw B) W x p) (hk : w.heap.size < B) : XAt (Nw w.heap.size) ((((((((((((W.setCell ⟨w.heap.size, 0, none⟩ u0).setCell ⟨w.heap.size, 1, none⟩ u1).setCell ⟨w.heap.size, 2, none⟩ u2).setCell ⟨w.heap.size, 3, none⟩ u3).setCell ⟨w.heap.size, 4, none⟩ u4).setCell ⟨w.heap.size, 5, none⟩ u5).setCell ⟨w.heap.size, 6, none⟩ u6).setCell ⟨w.heap.size, 7, none⟩ u7).setCell ⟨w.heap.size, 8, none⟩ u8).setCell ⟨w.heap.size, 9, none⟩ u9).setCell ⟨w.heap.size, 10, none⟩ u10).setCell ⟨w.heap.size, 11, none⟩ u11) x p :=
  XAt.lower ((((((((((((h.setN _ _ _ hk).setN _ _ _ hk).setN _ _ _ hk).setN _ _ _ hk).setN _ _ _ hk).setN _ _ _ hk).setN _ _ _ hk).setN _ _ _ hk).setN _ _ _ hk).setN _ _ _ hk).setN _ _ _ hk).setN _ _ _ hk) (Nat.le_of_lt hk)
set_option maxHeartbeats 3200000 in
set_option maxRecDepth 100000 in
theorem deeper_choice (hl : l.length ≤ 70000) {d : Int} {s : Rd Unit} (hd0 : 0 ≤ d) (hd1 : d ≤ 50) (g : Int → Rd Ex) (w : World) (h : St b ao cap l d s w)
    (hR : d ≠ 50 → ∀ W, w.heap.size ≤ W.heap.size → St b ao cap l (d + 1) s W → Calls Tryd.prog 34 #[.pointer (some ⟨b, 0, none⟩)] W (RuleP b ao cap l (d + 1) (s.then fun _ a => g a) W)) :
    Calls Tryd.prog 33 #[.pointer (some ⟨b, 0, none⟩), .func (.func 34) #[] #[]] w (RuleP b ao cap l d (s.then fun _ a => if d = 50 then .bad 11 (wdA l a).a else g a) w) := by
  have H := Lib.hid h
  have HBW := Lib.hid (st_lt h)
  have hne : b ≠ w.heap.size := Nat.ne_of_lt (st_lt h)
  obtain ⟨c2, f2⟩ : (∀ X, (w.alloc X).cell? ⟨b, 2, none⟩ = some (.int .i64 d)) ∧ ∀ X, (w.alloc X).frozen? ⟨b, 2, none⟩ = false := ⟨fun X => (h.new X).c2.1, fun X => (h.new X).c2.2⟩
  clear h
  by_cases hd : d = 50
  · subst hd
    have HW := Lib.hid fun W (hW : Low w W) => word_c hl W (H.out.low hW)
    clear hR
    go_enter Tryd.func33, Tryd.ntmps33
    go_wp2_with fail
    refine (HW.out _ (low_new (Low.refl _) _)).mono ?_
    rintro e w1 ⟨rfl, l1⟩
    have L1 := Lib.hid l1
    have S1 := Lib.hid ((H.out.low (low_new (Low.refl _) _)).low l1)
    clear l1 HW c2 f2
    go_wp2_with fail
    refine (fail_c 11 (by decide) _ _ S1.out).mono ?_
    rintro e w2 ⟨rfl, s2, l2⟩
    have S2 := Lib.hid s2
    have L2 := Lib.hid ((Lx.of_low L1.out).trans l2)
    clear s2 l2
    obtain ⟨⟨c0, c1, c2, c3, c4, c5, c6, c7, c8, c9, c10, c11⟩, fz⟩ := box12 L2.out HBW.out
    go_wp2_with fail
    obtain ⟨E0, E1, E2, E3, E4, E5, E6, E7, E8, E9, E10, E11⟩ := put12 c0 c1 c2 c3 c4 c5 c6 c7 c8 c9 c10 c11
    refine bodyPost_ret (v := .agg #[.int .i64 0, .int .i64 0, .bool false, .int .i64 0, .string ⟨#[]⟩, .string ⟨#[]⟩, .string ⟨#[]⟩, .slice none 0 0, .slice none 0 0, .string ⟨#[]⟩, .slice none 0 0, .slice none 0 0]) (by simp [results, Tryd.results33, go_sem, E0, E1, E2, E3, E4, E5, E6, E7, E8, E9, E10, E11]) rfl ?_
    refine ⟨ex0, pl0, rfl, xAt_leaf _ _ _ _ _, ?_, tow_lx (((Lx.refl b w).alloc _).trans L2.out), fun y n hy => ?_⟩
    · have e : (s.then fun _ a => (Rd.bad 11 (wdA l a).a : Rd Ex)).unit = failS s 11 (wdK l s 0) := by
        cases s with
        | bad e p => rfl
        | ok u a => rw [wdK_zero]; rfl
      rw [e]; exact tow_st S2.out HBW.out
    · cases s with
      | bad e p => cases hy
      | ok u a => cases hy
  · have HR := Lib.hid (hR hd)
    have zd : (d == 50) = false := by simpa using hd
    have zd2 : d < 50 := by omega
    clear hR
    have e : (s.then fun _ a => if d = 50 then Rd.bad 11 (wdA l a).a else g a) = (s.then fun _ a => g a) := by
      cases s with
      | bad e p => rfl
      | ok u a => simp only [Rd.then]; rw [if_neg hd]
    rw [e]
    clear e hd
    go_enter Tryd.func33, Tryd.ntmps33
    go_wp2_with fail
    have S1 := Lib.hid fun X => (H.out.new X).deep (d + 1)
    clear c2 f2
    refine (HR.out _ (by simp) (S1.out _)).mono ?_
    rintro e w2 ⟨x, p, rfl, x2, s2, l2, ok2⟩
    have X2 := Lib.hid x2
    have S2 := Lib.hid s2
    have L2 := Lib.hid (((((Lx.refl b w).alloc _).set 2 (.int .i64 (d + 1)))).trans l2)
    have OK2 := Lib.hid ok2
    obtain ⟨c2, f2⟩ : (∀ X, (w2.alloc X).cell? ⟨b, 2, none⟩ = some (.int .i64 (d + 1))) ∧ ∀ X, (w2.alloc X).frozen? ⟨b, 2, none⟩ = false := ⟨fun X => (S2.out.new X).c2.1, fun X => (S2.out.new X).c2.2⟩
    obtain ⟨⟨c0, c1, c2, c3, c4, c5, c6, c7, c8, c9, c10, c11⟩, fz⟩ := box12 ((lx_set b 2 _ _).trans l2) HBW.out
    have hne2 : b ≠ w2.heap.size := by have := L2.out.size; have := HBW.out; simp at *; omega
    have hne3 : w.heap.size < w2.heap.size := by have := l2.size; simp at *; omega
    have zd3 : d + 1 - 1 = d := by omega
    have HSZ := Lib.hid l2.size
    obtain ⟨⟨g0, g1, g2, g3, g4, g5, g6, g7, g8, g9, g10, g11⟩, -⟩ := box12 (((((lx_set b 2 (.int .i64 (d + 1)) _).trans l2).alloc (.cells #[.int .i64 x.op, .int .i64 x.v.k, .bool x.v.b, .int .i64 x.v.n, .string ⟨x.v.s.toArray⟩, .string ⟨x.v.t.toArray⟩, .string ⟨x.v.i.toArray⟩, .slice none 0 0, .slice none 0 0, .string ⟨x.nm.toArray⟩, .slice p.ka x.ks.length p.kc, .slice p.na x.ns.length p.nc] 30)).set 2 (.int .i64 d))) HBW.out
    have G := Lib.hid (And.intro g0 (And.intro g1 (And.intro g2 (And.intro g3 (And.intro g4 (And.intro g5 (And.intro g6 (And.intro g7 (And.intro g8 (And.intro g9 (And.intro g10 g11)))))))))))
    clear g0 g1 g2 g3 g4 g5 g6 g7 g8 g9 g10 g11
    clear s2 x2 l2 ok2
    unfold exv
    go_wp2_with fail
    obtain ⟨g0, g1, g2, g3, g4, g5, g6, g7, g8, g9, g10, g11⟩ := G.out
    obtain ⟨E0, E1, E2, E3, E4, E5, E6, E7, E8, E9, E10, E11⟩ := put12 g0 g1 g2 g3 g4 g5 g6 g7 g8 g9 g10 g11
    refine bodyPost_ret (v := .agg #[.int .i64 x.op, .int .i64 x.v.k, .bool x.v.b, .int .i64 x.v.n, .string ⟨x.v.s.toArray⟩, .string ⟨x.v.t.toArray⟩, .string ⟨x.v.i.toArray⟩, .slice none 0 0, .slice none 0 0, .string ⟨x.nm.toArray⟩, .slice p.ka x.ks.length p.kc, .slice p.na x.ns.length p.nc]) (by simp [results, Tryd.results33, go_sem, E0, E1, E2, E3, E4, E5, E6, E7, E8, E9, E10, E11]) rfl ?_
    have hsz := HSZ.out
    simp at hsz
    exact ⟨x, p, rfl, tow_x (B := w.heap.size + 1) (((X2.out.lower (by simp)).low (low_new (Low.refl _) _)).lxN (lx_set _ _ _ _) (by have := HBW.out; omega)) (by omega), tow_st ((S2.out.new _).deep d) HBW.out, tow_lx ((L2.out.alloc _).set _ _), OK2.out⟩
set_option maxHeartbeats 3200000 in
set_option maxRecDepth 100000 in
theorem deeper_signed (hl : l.length ≤ 70000) {d : Int} {s : Rd Unit} (hd0 : 0 ≤ d) (hd1 : d ≤ 50) (g : Int → Rd Ex) (w : World) (h : St b ao cap l d s w)
    (hR : d ≠ 50 → ∀ W, w.heap.size ≤ W.heap.size → St b ao cap l (d + 1) s W → Calls Tryd.prog 79 #[.pointer (some ⟨b, 0, none⟩)] W (RuleP b ao cap l (d + 1) (s.then fun _ a => g a) W)) :
    Calls Tryd.prog 33 #[.pointer (some ⟨b, 0, none⟩), .func (.func 79) #[] #[]] w (RuleP b ao cap l d (s.then fun _ a => if d = 50 then .bad 11 (wdA l a).a else g a) w) := by
  have H := Lib.hid h
  have HBW := Lib.hid (st_lt h)
  have hne : b ≠ w.heap.size := Nat.ne_of_lt (st_lt h)
  obtain ⟨c2, f2⟩ : (∀ X, (w.alloc X).cell? ⟨b, 2, none⟩ = some (.int .i64 d)) ∧ ∀ X, (w.alloc X).frozen? ⟨b, 2, none⟩ = false := ⟨fun X => (h.new X).c2.1, fun X => (h.new X).c2.2⟩
  clear h
  by_cases hd : d = 50
  · subst hd
    have HW := Lib.hid fun W (hW : Low w W) => word_c hl W (H.out.low hW)
    clear hR
    go_enter Tryd.func33, Tryd.ntmps33
    go_wp2_with fail
    refine (HW.out _ (low_new (Low.refl _) _)).mono ?_
    rintro e w1 ⟨rfl, l1⟩
    have L1 := Lib.hid l1
    have S1 := Lib.hid ((H.out.low (low_new (Low.refl _) _)).low l1)
    clear l1 HW c2 f2
    go_wp2_with fail
    refine (fail_c 11 (by decide) _ _ S1.out).mono ?_
    rintro e w2 ⟨rfl, s2, l2⟩
    have S2 := Lib.hid s2
    have L2 := Lib.hid ((Lx.of_low L1.out).trans l2)
    clear s2 l2
    obtain ⟨⟨c0, c1, c2, c3, c4, c5, c6, c7, c8, c9, c10, c11⟩, fz⟩ := box12 L2.out HBW.out
    go_wp2_with fail
    obtain ⟨E0, E1, E2, E3, E4, E5, E6, E7, E8, E9, E10, E11⟩ := put12 c0 c1 c2 c3 c4 c5 c6 c7 c8 c9 c10 c11
    refine bodyPost_ret (v := .agg #[.int .i64 0, .int .i64 0, .bool false, .int .i64 0, .string ⟨#[]⟩, .string ⟨#[]⟩, .string ⟨#[]⟩, .slice none 0 0, .slice none 0 0, .string ⟨#[]⟩, .slice none 0 0, .slice none 0 0]) (by simp [results, Tryd.results33, go_sem, E0, E1, E2, E3, E4, E5, E6, E7, E8, E9, E10, E11]) rfl ?_
    refine ⟨ex0, pl0, rfl, xAt_leaf _ _ _ _ _, ?_, tow_lx (((Lx.refl b w).alloc _).trans L2.out), fun y n hy => ?_⟩
    · have e : (s.then fun _ a => (Rd.bad 11 (wdA l a).a : Rd Ex)).unit = failS s 11 (wdK l s 0) := by
        cases s with
        | bad e p => rfl
        | ok u a => rw [wdK_zero]; rfl
      rw [e]; exact tow_st S2.out HBW.out
    · cases s with
      | bad e p => cases hy
      | ok u a => cases hy
  · have HR := Lib.hid (hR hd)
    have zd : (d == 50) = false := by simpa using hd
    have zd2 : d < 50 := by omega
    clear hR
    have e : (s.then fun _ a => if d = 50 then Rd.bad 11 (wdA l a).a else g a) = (s.then fun _ a => g a) := by
      cases s with
      | bad e p => rfl
      | ok u a => simp only [Rd.then]; rw [if_neg hd]
    rw [e]
    clear e hd
    go_enter Tryd.func33, Tryd.ntmps33
    go_wp2_with fail
    have S1 := Lib.hid fun X => (H.out.new X).deep (d + 1)
    clear c2 f2
    refine (HR.out _ (by simp) (S1.out _)).mono ?_
    rintro e w2 ⟨x, p, rfl, x2, s2, l2, ok2⟩
    have X2 := Lib.hid x2
    have S2 := Lib.hid s2
    have L2 := Lib.hid (((((Lx.refl b w).alloc _).set 2 (.int .i64 (d + 1)))).trans l2)
    have OK2 := Lib.hid ok2
    obtain ⟨c2, f2⟩ : (∀ X, (w2.alloc X).cell? ⟨b, 2, none⟩ = some (.int .i64 (d + 1))) ∧ ∀ X, (w2.alloc X).frozen? ⟨b, 2, none⟩ = false := ⟨fun X => (S2.out.new X).c2.1, fun X => (S2.out.new X).c2.2⟩
    obtain ⟨⟨c0, c1, c2, c3, c4, c5, c6, c7, c8, c9, c10, c11⟩, fz⟩ := box12 ((lx_set b 2 _ _).trans l2) HBW.out
    have hne2 : b ≠ w2.heap.size := by have := L2.out.size; have := HBW.out; simp at *; omega
    have hne3 : w.heap.size < w2.heap.size := by have := l2.size; simp at *; omega
    have zd3 : d + 1 - 1 = d := by omega
    have HSZ := Lib.hid l2.size
    obtain ⟨⟨g0, g1, g2, g3, g4, g5, g6, g7, g8, g9, g10, g11⟩, -⟩ := box12 (((((lx_set b 2 (.int .i64 (d + 1)) _).trans l2).alloc (.cells #[.int .i64 x.op, .int .i64 x.v.k, .bool x.v.b, .int .i64 x.v.n, .string ⟨x.v.s.toArray⟩, .string ⟨x.v.t.toArray⟩, .string ⟨x.v.i.toArray⟩, .slice none 0 0, .slice none 0 0, .string ⟨x.nm.toArray⟩, .slice p.ka x.ks.length p.kc, .slice p.na x.ns.length p.nc] 30)).set 2 (.int .i64 d))) HBW.out
    have G := Lib.hid (And.intro g0 (And.intro g1 (And.intro g2 (And.intro g3 (And.intro g4 (And.intro g5 (And.intro g6 (And.intro g7 (And.intro g8 (And.intro g9 (And.intro g10 g11)))))))))))
    clear g0 g1 g2 g3 g4 g5 g6 g7 g8 g9 g10 g11
    clear s2 x2 l2 ok2
    unfold exv
    go_wp2_with fail
    obtain ⟨g0, g1, g2, g3, g4, g5, g6, g7, g8, g9, g10, g11⟩ := G.out
    obtain ⟨E0, E1, E2, E3, E4, E5, E6, E7, E8, E9, E10, E11⟩ := put12 g0 g1 g2 g3 g4 g5 g6 g7 g8 g9 g10 g11
    refine bodyPost_ret (v := .agg #[.int .i64 x.op, .int .i64 x.v.k, .bool x.v.b, .int .i64 x.v.n, .string ⟨x.v.s.toArray⟩, .string ⟨x.v.t.toArray⟩, .string ⟨x.v.i.toArray⟩, .slice none 0 0, .slice none 0 0, .string ⟨x.nm.toArray⟩, .slice p.ka x.ks.length p.kc, .slice p.na x.ns.length p.nc]) (by simp [results, Tryd.results33, go_sem, E0, E1, E2, E3, E4, E5, E6, E7, E8, E9, E10, E11]) rfl ?_
    have hsz := HSZ.out
    simp at hsz
    exact ⟨x, p, rfl, tow_x (B := w.heap.size + 1) (((X2.out.lower (by simp)).low (low_new (Low.refl _) _)).lxN (lx_set _ _ _ _) (by have := HBW.out; omega)) (by omega), tow_st ((S2.out.new _).deep d) HBW.out, tow_lx ((L2.out.alloc _).set _ _), OK2.out⟩
end
end Go.Proofs.YtflpidnkppljlaaDoor
namespace Go.Proofs.YtflpidnkppljlaaDoor
open Go.RowKit
/-- A box of the call's own holds an expression. -/
def BoxE (k : Nat) (x : Ex) (p : Pl) (w : World) : Prop := (w.cell? ⟨k, 0, none⟩ = some (.int .i64 x.op) ∧ w.cell? ⟨k, 1, none⟩ = some (.int .i64 x.v.k) ∧ w.cell? ⟨k, 2, none⟩ = some (.bool x.v.b) ∧ w.cell? ⟨k, 3, none⟩ = some (.int .i64 x.v.n) ∧ w.cell? ⟨k, 4, none⟩ = some (.string ⟨x.v.s.toArray⟩) ∧ w.cell? ⟨k, 5, none⟩ = some (.string ⟨x.v.t.toArray⟩) ∧ w.cell? ⟨k, 6, none⟩ = some (.string ⟨x.v.i.toArray⟩) ∧ w.cell? ⟨k, 7, none⟩ = some (.slice none 0 0) ∧ w.cell? ⟨k, 8, none⟩ = some (.slice none 0 0) ∧ w.cell? ⟨k, 9, none⟩ = some (.string ⟨x.nm.toArray⟩) ∧ w.cell? ⟨k, 10, none⟩ = some (.slice p.ka x.ks.length p.kc) ∧ w.cell? ⟨k, 11, none⟩ = some (.slice p.na x.ns.length p.nc)) ∧ ∀ j, w.frozen? ⟨k, j, none⟩ = false
theorem BoxE.lt {k : Nat} {x : Ex} {p : Pl} {w : World} (h : BoxE k x p w) : k < w.heap.size := cell_lt h.1.1
theorem BoxE.to {k : Nat} {x : Ex} {p : Pl} {w w' : World} (h : BoxE k x p w) (e : w'.heap[k]? = w.heap[k]?) : BoxE k x p w' := by
  have c : ∀ j, w'.cell? ⟨k, j, none⟩ = w.cell? ⟨k, j, none⟩ := fun j => World.cell?_of_block (a := ⟨k, j, none⟩) e
  have f : ∀ j, w'.frozen? ⟨k, j, none⟩ = w.frozen? ⟨k, j, none⟩ := fun j => World.frozen?_of_block (a := ⟨k, j, none⟩) e
  obtain ⟨⟨h0, h1, h2, h3, h4, h5, h6, h7, h8, h9, h10, h11⟩, hf⟩ := h
  exact ⟨⟨(c 0).trans h0, (c 1).trans h1, (c 2).trans h2, (c 3).trans h3, (c 4).trans h4, (c 5).trans h5, (c 6).trans h6, (c 7).trans h7, (c 8).trans h8, (c 9).trans h9, (c 10).trans h10, (c 11).trans h11⟩, fun j => (f j).trans (hf j)⟩
theorem BoxE.low {k : Nat} {x : Ex} {p : Pl} {w w' : World} (h : BoxE k x p w) (l : Low w w') : BoxE k x p w' := h.to (l.2.2.2 k h.lt)
theorem BoxE.lx {b k : Nat} {x : Ex} {p : Pl} {w w' : World} (h : BoxE k x p w) (l : Lx b w w') (hk : k ≠ b) : BoxE k x p w' := h.to (l.block k h.lt hk)
theorem BoxE.new (w : World) (x : Ex) (p : Pl) (t : TypeId) : BoxE w.heap.size x p (w.alloc (.cells #[.int .i64 x.op, .int .i64 x.v.k, .bool x.v.b, .int .i64 x.v.n, .string ⟨x.v.s.toArray⟩, .string ⟨x.v.t.toArray⟩, .string ⟨x.v.i.toArray⟩, .slice none 0 0, .slice none 0 0, .string ⟨x.nm.toArray⟩, .slice p.ka x.ks.length p.kc, .slice p.na x.ns.length p.nc] t)) := by
  refine ⟨⟨?_, ?_, ?_, ?_, ?_, ?_, ?_, ?_, ?_, ?_, ?_, ?_⟩, fun j => by simp⟩ <;> rw [World.cell?_alloc_mark] <;> rfl
theorem BoxE.put {k : Nat} {x : Ex} {p : Pl} {w : World} (h : BoxE k x p w) (y : Ex) (q : Pl) : BoxE k y q ((((((((((((w.setCell ⟨k, 0, none⟩ (.int .i64 y.op)).setCell ⟨k, 1, none⟩ (.int .i64 y.v.k)).setCell ⟨k, 2, none⟩ (.bool y.v.b)).setCell ⟨k, 3, none⟩ (.int .i64 y.v.n)).setCell ⟨k, 4, none⟩ (.string ⟨y.v.s.toArray⟩)).setCell ⟨k, 5, none⟩ (.string ⟨y.v.t.toArray⟩)).setCell ⟨k, 6, none⟩ (.string ⟨y.v.i.toArray⟩)).setCell ⟨k, 7, none⟩ (.slice none 0 0)).setCell ⟨k, 8, none⟩ (.slice none 0 0)).setCell ⟨k, 9, none⟩ (.string ⟨y.nm.toArray⟩)).setCell ⟨k, 10, none⟩ (.slice q.ka y.ks.length q.kc)).setCell ⟨k, 11, none⟩ (.slice q.na y.ns.length q.nc)) := by
  obtain ⟨⟨h0, h1, h2, h3, h4, h5, h6, h7, h8, h9, h10, h11⟩, hf⟩ := h
  obtain ⟨e0, e1, e2, e3, e4, e5, e6, e7, e8, e9, e10, e11⟩ := put12 h0 h1 h2 h3 h4 h5 h6 h7 h8 h9 h10 h11
  exact ⟨⟨e0 _ _ _ _ _ _ _ _ _ _ _ _, e1 _ _ _ _ _ _ _ _ _ _ _ _, e2 _ _ _ _ _ _ _ _ _ _ _ _, e3 _ _ _ _ _ _ _ _ _ _ _ _, e4 _ _ _ _ _ _ _ _ _ _ _ _, e5 _ _ _ _ _ _ _ _ _ _ _ _, e6 _ _ _ _ _ _ _ _ _ _ _ _, e7 _ _ _ _ _ _ _ _ _ _ _ _, e8 _ _ _ _ _ _ _ _ _ _ _ _, e9 _ _ _ _ _ _ _ _ _ _ _ _, e10 _ _ _ _ _ _ _ _ _ _ _ _, e11 _ _ _ _ _ _ _ _ _ _ _ _⟩, fun j => by simp only [World.frozen?_setCell]; exact hf j⟩
section
variable {b : Nat} {ao : Option Addr} {cap : Nat} {l : List Wd}
theorem tow_heap {k i : Nat} {w : World} {u0 u1 u2 u3 u4 u5 u6 u7 u8 u9 u10 u11 : Value} (h : i ≠ k) : ((((((((((((w.setCell ⟨k, 0, none⟩ u0).setCell ⟨k, 1, none⟩ u1).setCell ⟨k, 2, none⟩ u2).setCell ⟨k, 3, none⟩ u3).setCell ⟨k, 4, none⟩ u4).setCell ⟨k, 5, none⟩ u5).setCell ⟨k, 6, none⟩ u6).setCell ⟨k, 7, none⟩ u7).setCell ⟨k, 8, none⟩ u8).setCell ⟨k, 9, none⟩ u9).setCell ⟨k, 10, none⟩ u10).setCell ⟨k, 11, none⟩ u11).heap[i]? = w.heap[i]? := by
  have e : ∀ (W : World) (o : Nat) (v : Value), (W.setCell ⟨k, o, none⟩ v).heap[i]? = W.heap[i]? := fun W o v => Below.heap_setCell _ _ _ _ h
  simp only [e]
theorem tow_xa {A : Nat → Prop} {k : Nat} {x : Ex} {p : Pl} {w : World} {u0 u1 u2 u3 u4 u5 u6 u7 u8 u9 u10 u11 : Value} (h : XAt A w x p) (hA : ∀ g, A g → g ≠ k) : XAt A ((((((((((((w.setCell ⟨k, 0, none⟩ u0).setCell ⟨k, 1, none⟩ u1).setCell ⟨k, 2, none⟩ u2).setCell ⟨k, 3, none⟩ u3).setCell ⟨k, 4, none⟩ u4).setCell ⟨k, 5, none⟩ u5).setCell ⟨k, 6, none⟩ u6).setCell ⟨k, 7, none⟩ u7).setCell ⟨k, 8, none⟩ u8).setCell ⟨k, 9, none⟩ u9).setCell ⟨k, 10, none⟩ u10).setCell ⟨k, 11, none⟩ u11) x p :=
  XAt.to (fun g hg _ => ⟨hg, tow_heap (hA g hg)⟩) x h
theorem tow_lxk {k : Nat} {w0 w : World} {u0 u1 u2 u3 u4 u5 u6 u7 u8 u9 u10 u11 : Value} (h : Lx b w0 w) (hk : w0.heap.size ≤ k) : Lx b w0 ((((((((((((w.setCell ⟨k, 0, none⟩ u0).setCell ⟨k, 1, none⟩ u1).setCell ⟨k, 2, none⟩ u2).setCell ⟨k, 3, none⟩ u3).setCell ⟨k, 4, none⟩ u4).setCell ⟨k, 5, none⟩ u5).setCell ⟨k, 6, none⟩ u6).setCell ⟨k, 7, none⟩ u7).setCell ⟨k, 8, none⟩ u8).setCell ⟨k, 9, none⟩ u9).setCell ⟨k, 10, none⟩ u10).setCell ⟨k, 11, none⟩ u11) :=
  (((((((((((h.setN _ _ _ hk).setN _ _ _ hk).setN _ _ _ hk).setN _ _ _ hk).setN _ _ _ hk).setN _ _ _ hk).setN _ _ _ hk).setN _ _ _ hk).setN _ _ _ hk).setN _ _ _ hk).setN _ _ _ hk).setN _ _ _ hk
theorem tow_stk {d : Int} {s : Rd Unit} {k : Nat} {w0 w : World} {u0 u1 u2 u3 u4 u5 u6 u7 u8 u9 u10 u11 : Value} (h : St b ao cap l d s w) (hb : b < w0.heap.size) (hk : w0.heap.size ≤ k) : St b ao cap l d s ((((((((((((w.setCell ⟨k, 0, none⟩ u0).setCell ⟨k, 1, none⟩ u1).setCell ⟨k, 2, none⟩ u2).setCell ⟨k, 3, none⟩ u3).setCell ⟨k, 4, none⟩ u4).setCell ⟨k, 5, none⟩ u5).setCell ⟨k, 6, none⟩ u6).setCell ⟨k, 7, none⟩ u7).setCell ⟨k, 8, none⟩ u8).setCell ⟨k, 9, none⟩ u9).setCell ⟨k, 10, none⟩ u10).setCell ⟨k, 11, none⟩ u11) :=
  (((((((((((h.setN _ _ _ hb hk).setN _ _ _ hb hk).setN _ _ _ hb hk).setN _ _ _ hb hk).setN _ _ _ hb hk).setN _ _ _ hb hk).setN _ _ _ hb hk).setN _ _ _ hb hk).setN _ _ _ hb hk).setN _ _ _ hb hk).setN _ _ _ hb hk).setN _ _ _ hb hk
/-! ### Operators -/
/-- Which of some operators is next; nought: none. -/
def opL (l : List Wd) (s : Rd Unit) : List (List UInt8 × Int) → Int
  | [] => 0
  | (m, o) :: r => if tkB l s 5 m = true then o else opL l s r
def opS (l : List Wd) (s : Rd Unit) : List (List UInt8 × Int) → Rd Unit
  | [] => s
  | (m, o) :: r => if tkB l s 5 m = true then tkS l s 5 m else opS l s r
def OpsAt (g : Nat) (ops : List (List UInt8 × Int)) (w : World) : Prop := ∀ j (hj : j < ops.length), w.cell? ⟨g, j * 2, none⟩ = some (.string ⟨(ops[j]).1.toArray⟩) ∧ w.cell? ⟨g, j * 2 + 1, none⟩ = some (.int .i64 (ops[j]).2)
theorem OpsAt.lx {g : Nat} {ops : List (List UInt8 × Int)} {w w' : World} (h : OpsAt g ops w) (k : Lx b w w') (hg : g ≠ b) : OpsAt g ops w' := fun j hj =>
  ⟨cell_toE (h j hj).1 fun hl => k.block g hl hg, cell_toE (h j hj).2 fun hl => k.block g hl hg⟩
set_option maxHeartbeats 1600000 in
theorem takesOne_c (hl : l.length ≤ 70000) {d : Int} {s : Rd Unit} (g c : Nat) (hg : g ≠ b) (ops : List (List UInt8 × Int)) (hn : ops.length ≤ 2) (hc : ops.length ≤ c) (hcm : c ≤ 100) (w : World) (h : St b ao cap l d s w) (ho : OpsAt g ops w) :
    Calls Tryd.prog 69 #[.pointer (some ⟨b, 0, none⟩), .slice (some ⟨g, 0, none⟩) ops.length c] w fun e w' => e = .returned (.int .i64 (opL l s ops)) ∧ St b ao cap l d (opS l s ops) w' ∧ Lx b w w' := by
  have H := Lib.hid h
  have HO := Lib.hid ho
  clear h ho
  go_enter Tryd.func69, Tryd.ntmps69
  go_wp2_with fail
  go_loopg [9] ops.length (fun gk vi wr => ∃ i : Nat, vi = .int .i64 (i : Int) ∧ i ≤ ops.length ∧ ops.length - i ≤ gk ∧ Hid (St b ao cap l d s wr) ∧ Hid (Lx b w wr) ∧ Hid (opL l s ops = opL l s (ops.drop i)) ∧ Hid (opS l s ops = opS l s (ops.drop i)))
  case atStart => exact ⟨0, rfl, Nat.zero_le _, Nat.le_refl _, H, Lib.hid (Lx.refl _ _), Lib.hid (by rw [List.drop_zero]), Lib.hid (by rw [List.drop_zero])⟩
  case round =>
    obtain ⟨i, rfl, hi, hgk, S, L, K1, K2⟩ := hrel
    by_cases hlt : i < ops.length
    · have z1 : (i : Int) < (ops.length : Int) := by omega
      obtain ⟨c0, c1⟩ := HO.out.lx L.out hg i hlt
      have D := List.drop_eq_getElem_cons hlt
      obtain ⟨⟨m, o⟩, hm⟩ : ∃ m, ops[i] = m := ⟨_, rfl⟩
      rw [hm] at c0 c1 D
      simp only at c0 c1
      obtain ⟨q, hq⟩ : ∃ q, tkB l s 5 m = q := ⟨_, rfl⟩
      have HT := Lib.hid fun X => takes_c hl 5 (by decide) m _ (S.out.new X)
      rw [hq] at HT
      have k1 : opL l s ops = if tkB l s 5 m = true then o else opL l s (ops.drop (i + 1)) := by rw [K1.out, D]; rfl
      have k2 : opS l s ops = if tkB l s 5 m = true then tkS l s 5 m else opS l s (ops.drop (i + 1)) := by rw [K2.out, D]; rfl
      cases q with
      | true =>
        rw [if_pos hq] at k1 k2
        have E1 := Lib.hid k1
        have E2 := Lib.hid k2
        clear k1 k2 D hm hq
        go_wp2_with fail
        refine (HT.out _).mono ?_
        rintro e w1 ⟨rfl, s1, l1⟩
        have S1 := Lib.hid s1
        have L1 := Lib.hid ((L.out.alloc _).trans l1)
        have hb1 := st_lt S.out
        obtain ⟨x0, x1⟩ := show w1.cell? ⟨wr.heap.size, 0, none⟩ = some (.string ⟨m.toArray⟩) ∧ w1.cell? ⟨wr.heap.size, 1, none⟩ = some (.int .i64 o) from ⟨(box_lx l1 hb1).1 0, (box_lx l1 hb1).1 1⟩
        clear s1 l1 hb1 c0 c1
        go_wp2_with fail
        go_returns
        exact ⟨by rw [E1.out]; rfl, by rw [E2.out]; exact S1.out, L1.out⟩
      | false =>
        rw [if_neg (by rw [hq]; decide)] at k1 k2
        have E1 := Lib.hid k1
        have E2 := Lib.hid k2
        have E3 := Lib.hid (tkS_no hq)
        clear k1 k2 D hm hq
        go_wp2_with fail
        refine (HT.out _).mono ?_
        rintro e w1 ⟨rfl, s1, l1⟩
        rw [E3.out] at s1
        have S1 := Lib.hid s1
        have L1 := Lib.hid ((L.out.alloc _).trans l1)
        clear s1 l1 c0 c1
        go_wp2_with fail
        go_roundg (ops.length - (i + 1))
        case measure => omega
        case rel => exact ⟨i + 1, by go_num, by omega, by omega, S1, L1, E1, E2⟩
    · have z1 : ¬ (i : Int) < (ops.length : Int) := by omega
      have E1 := Lib.hid (show opL l s ops = 0 by rw [K1.out, List.drop_eq_nil_of_le (by omega)]; rfl)
      have E2 := Lib.hid (show opS l s ops = s by rw [K2.out, List.drop_eq_nil_of_le (by omega)]; rfl)
      go_wp2_with fail
      go_returns
      exact ⟨by rw [E1.out]; rfl, by rw [E2.out]; exact S.out, L.out⟩
end
end Go.Proofs.YtflpidnkppljlaaDoor
