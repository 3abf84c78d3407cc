/- A set as it must be, the reference's way: any items, no more than 70000. -/
import Derived.Test.YtnchohglplobeaaGreatZg43
set_option linter.unusedVariables false
set_option linter.unusedSimpArgs false
set_option linter.unnecessarySimpa false
namespace Go.Proofs.YtnchohglplobeaaGreat
open Go.RowKit Go.Sort
def setS (l : List V) : Int × V := if (canL l).1 = 0 then (0, .mk { hd0 with k := 5 } (uniq ord (canL l).2) []) else ((canL l).1, V0)
set_option maxHeartbeats 8000000 in
set_option maxRecDepth 100000 in
theorem rcanSet_c (b : Bool) (nn : Int) (s t i0 : ByteArray) (l : List V) (ns : List ByteArray) (w : World) (vai van : Option Addr) (vci vcn : Nat) (ih : ∀ x ∈ l, CanC 89 x) (hs : l.length ≤ 70000 ∧ ∀ x ∈ l, Smv x) (hl : Ro w l (.slice vai l.length vci)) :
  Calls Tryz.prog 89 #[.agg #[.int .i64 5, .bool b, .int .i64 nn, .string s, .string t, .string i0, .slice vai l.length vci, .slice van ns.length vcn]] w (CanPost (setS l).2 (setS l).1 w) := by
 have mixed : Tryz.prog.follows .mixedOrders = true := by kernel_rfl
 obtain ⟨hs1, hs2⟩ := hs
 have HL := Lib.hid hl
 have HI := Lib.hid ih
 have HS := Lib.hid hs2
 have ON := Lib.hid (outSt_new w (V.mk ⟨5, b, nn, s, t, i0⟩ l ns) (.slice vai l.length vci) (.slice van ns.length vcn) 5 27 [] rfl)
 clear hl ih hs2
 obtain ⟨W3, hW3⟩ : ∃ W, W = (((w.alloc (.cells #[.int .i64 5, .bool b, .int .i64 nn, .string s, .string t, .string i0, .slice vai l.length vci, .slice van ns.length vcn] 27)).alloc (.cells #[.int .i64 0, .bool false, .int .i64 0, .string ⟨#[]⟩, .string ⟨#[]⟩, .string ⟨#[]⟩, .slice none 0 0, .slice none 0 0] 27)).alloc (.cells #[.int .i64 5, .bool false, .int .i64 0, .string ⟨#[]⟩, .string ⟨#[]⟩, .string ⟨#[]⟩, .slice none 0 0, .slice none 0 0] 27)) := ⟨_, rfl⟩
 have ST3 : Hid (OutSt w W3 (V.mk ⟨5, b, nn, s, t, i0⟩ l ns) (.slice vai l.length vci) (.slice van ns.length vcn) (.slice none 0 0) [] 5 (.slice none 0 0) (.slice none 0 0) [] []) := by rw [hW3]; exact ON.out
 have s3 : W3.heap.size = w.heap.size + 3 := by rw [hW3]; simp
 clear ON
 go_enter Tryz.func89, Tryz.ntmps89
 go_wp2_with fail
 rw [← hW3]
 have S3 := Lib.hid s3
 clear hW3 s3
 go_loopg [5, 6] l.length (fun gk vs vi wr => ∃ (v : Value) (i : Nat) (ps : List El), v = vs ∧ vi = .int .i64 (i : Int) ∧ i ≤ l.length ∧ l.length - i ≤ gk ∧ Hid (Low W3 wr) ∧ Hid ((∀ x ∈ l.take i, (can x).1 = 0) ∧ ps.map (·.v) = (l.take i).map fun x => (can x).2) ∧ Hid (OwnVv W3.heap.size wr v ps) ∧ Hid (∀ p ∈ ps, ElOk (fun b => W3.heap.size ≤ b ∧ some b ≠ v.ownBlock) wr p))
 case atStart => exact ⟨_, 0, [], rfl, rfl, Nat.zero_le _, Nat.le_refl _, Lib.hid (Low.refl _), Lib.hid ⟨by simp, by simp⟩, Lib.hid (OwnR.nil _ _ _ _ _), Lib.hid (by simp)⟩
 case round =>
  obtain ⟨v, i, ps, rfl, rfl, hi, hg, G, K, O, E⟩ := hrel
  have hpl : ps.length = i := by have := congrArg List.length K.out.2; simpa [hi] using this
  obtain ⟨bx0, bx6, bx7⟩ := (ST3.out.grow G.out).boxes
  have bk0 : wr.cell? ⟨w.heap.size, 0, none⟩ = some (.int .i64 5) := bx0
  have bk6 : wr.cell? ⟨w.heap.size, 6, none⟩ = some (.slice vai l.length vci) := bx6
  clear bx0 bx6 bx7
  by_cases hlt : i < l.length
  ·have z1 : (i : Int) < (l.length : Int) := by omega
   obtain ⟨b9, o9, ai, ci, an, cn, rfl, hcs, hrx⟩ := ro_at (HL.out.low (ST3.out.low.trans G.out)) hlt
   obtain ⟨e0, e1, e2, e3, e4, e5, e6, e7⟩ := cells8 hcs
   have hcon := HI.out l[i] (List.getElem_mem hlt) _ _ _ hrx (HS.out _ (List.getElem_mem hlt))
   obtain ⟨y, hy⟩ : ∃ y, y = (can l[i]).2 := ⟨_, rfl⟩
   obtain ⟨c, hc⟩ : ∃ c, c = (can l[i]).1 := ⟨_, rfl⟩
   rw [← hy, ← hc] at hcon
   have HC := Lib.hid hcon
   have HY := Lib.hid hy
   have HZ := Lib.hid hc
   clear hcon hcs hrx hy hc
   unfold avv at HC
   go_wp2_with fail
   refine HC.out.mono ?_
   rintro e w1 ⟨bi, di, bn, dn, rfl, hrep, hlow⟩
   have L1 := Lib.hid hlow
   have hsz : W3.heap.size ≤ wr.heap.size := G.out.size
   have hsz1 : wr.heap.size ≤ w1.heap.size := L1.out.size
   have HR := Lib.hid hrep
   clear hrep hlow bk0 bk6 e0 e1 e2 e3 e4 e5 e6 e7
   by_cases h0 : c = 0
   ·subst h0
    have hown := (O.out.low L1.out)
    have HO := Lib.hid hown
    clear hown
    go_wp2_with (first
     | (at_builtin; refine appR rfl _ _ _ rfl Tryz.underlying24 v_infov rfl (by decide) (by decide) encV_lenv encV_onev W3.heap.size v ps rfl ((HO.out.alloc _).alloc _) ⟨y, bi, di, bn, dn⟩ ⟨w1.heap.size + 1, 0, none⟩ 1 rfl (fun j u hj => newcell_at _ _ _ _ _ rfl hj) (by omega) (by show W3.heap.size ≤ ((w1.alloc _).alloc _).heap.size; simp; omega) ?_; intro v2 w2 h2 b2 k2 n2))
    have W1 := Lib.hid ((Low.alloc (Low.alloc (Low.refl w1) (.cells #[.int .i64 y.h.k, .bool y.h.b, .int .i64 y.h.n, .string y.h.s, .string y.h.t, .string y.h.i, .slice bi y.l.length di, .slice bn y.ns.length dn] 27)) (.cells #[.int .i64 y.h.k, .bool y.h.b, .int .i64 y.h.n, .string y.h.s, .string y.h.t, .string y.h.i, .slice bi y.l.length di, .slice bn y.ns.length dn] 27)))
    have hE := el_step hsz E.out L1.out W1.out (q := ⟨y, bi, di, bn, dn⟩) HR.out O.out k2 n2
    have hL : Low W3 w2 := ((G.out.trans L1.out).trans W1.out).trans_below b2 (Nat.le_refl _)
    have HE := Lib.hid hE
    have HL2 := Lib.hid hL
    have H2 := Lib.hid h2
    have hk : (∀ x ∈ l.take (i + 1), (can x).1 = 0) ∧ (ps ++ [(⟨y, bi, di, bn, dn⟩ : El)]).map (·.v) = (l.take (i + 1)).map fun x => (can x).2 := by
     rw [List.take_succ_eq_append_getElem hlt]
     refine ⟨fun x hx => ?_, ?_⟩
     ·rcases List.mem_append.1 hx with hx | hx
      ·exact K.out.1 x hx
      ·simp at hx; rw [hx]; exact HZ.out.symm
     ·rw [List.map_append, List.map_append, K.out.2, List.map_singleton, List.map_singleton, ← HY.out]
    have HK := Lib.hid hk
    clear hE hL h2 b2 k2 n2 hk
    go_wp2_with fail
    go_roundg (l.length - (i + 1))
    case measure => omega
    case rel => exact ⟨v2, i + 1, _, rfl, by go_num, by omega, by omega, HL2, HK, H2, HE⟩
   ·have he : (canL l).1 = c := by rw [HZ.out]; exact canL_at hlt K.out.1 (by rw [← HZ.out]; exact h0)
    have hcan : setS l = (c, V0) := by
     unfold setS
     rw [he, if_neg h0]
    have HCAN := Lib.hid hcan
    obtain ⟨WE, hWE⟩ : ∃ W, W = w1.alloc (.cells #[.int .i64 y.h.k, .bool y.h.b, .int .i64 y.h.n, .string y.h.s, .string y.h.t, .string y.h.i, .slice bi y.l.length di, .slice bn y.ns.length dn] 27) := ⟨_, rfl⟩
    have LE : Hid (Low W3 WE) := Lib.hid ((G.out.trans L1.out).trans (hWE ▸ Low.alloc (Low.refl w1) _))
    have RE := Lib.hid (ST3.out.grow LE.out).res
    have hpre : ∀ {a u}, WE.cell? a = some u → (w1.alloc (.cells #[.int .i64 y.h.k, .bool y.h.b, .int .i64 y.h.n, .string y.h.s, .string y.h.t, .string y.h.i, .slice bi y.l.length di, .slice bn y.ns.length dn] 27)).cell? a = some u := fun {a u} h => hWE ▸ h
    have hpre2 : ∀ {a}, WE.frozen? a = false → (w1.alloc (.cells #[.int .i64 y.h.k, .bool y.h.b, .int .i64 y.h.n, .string y.h.s, .string y.h.t, .string y.h.i, .slice bi y.l.length di, .slice bn y.ns.length dn] 27)).frozen? a = false := fun {a} h => hWE ▸ h
    obtain ⟨⟨d0, d1, d2, d3, d4, d5, d6, d7⟩, g0, g1, g2, g3, g4, g5, g6, g7⟩ := RE.out.facts
    replace d0 := hpre d0
    replace d1 := hpre d1
    replace d2 := hpre d2
    replace d3 := hpre d3
    replace d4 := hpre d4
    replace d5 := hpre d5
    replace d6 := hpre d6
    replace d7 := hpre d7
    replace g0 := hpre2 g0
    replace g1 := hpre2 g1
    replace g2 := hpre2 g2
    replace g3 := hpre2 g3
    replace g4 := hpre2 g4
    replace g5 := hpre2 g5
    replace g6 := hpre2 g6
    replace g7 := hpre2 g7
    clear hpre hpre2 he hcan
    go_wp2_with fail
    refine bodyPost_ret (v := .tuple #[.agg #[.int .i64 0, .bool false, .int .i64 0, .string ⟨#[]⟩, .string ⟨#[]⟩, .string ⟨#[]⟩, .slice none 0 0, .slice none 0 0], .int .i64 c]) (by simp [results, Tryz.results89, go_sem, World.cell?_setCell_same', d0, d1, d2, d3, d4, d5, d6, d7]; try rfl) rfl ?_
    rw [← hWE]
    have K8 := kept8 WE (w.heap.size + 1) (.int .i64 0) (.bool false) (.int .i64 0) (.string ⟨#[]⟩) (.string ⟨#[]⟩) (.string ⟨#[]⟩) (.slice none 0 0) (.slice none 0 0)
    rw [HCAN.out]
    exact ⟨none, 0, none, 0, rfl, rep_V0 _ _, (ST3.out.low.trans LE.out).kept K8 fun g hg => by simp at hg; omega⟩
  ·have z1 : ¬ (i : Int) < (l.length : Int) := by omega
   have htk : l.take i = l := List.take_of_length_le (by omega)
   obtain ⟨lao, lcap, hv, hc1, hc2, lblk⟩ := O.out.shape
   subst hv
   by_cases hlong : 4096 < l.length
   ·have hcan : setS l = (12, V0) := by
     unfold setS
     rw [canL_long hlong fun x hx => K.out.1 x (by rw [htk]; exact hx), if_neg (by decide)]
    have HCAN := Lib.hid hcan
    have zlong : (4096 : Int) < (ps.length : Int) := by omega
    have RE := Lib.hid (ST3.out.grow G.out).res
    obtain ⟨⟨d0, d1, d2, d3, d4, d5, d6, d7⟩, g0, g1, g2, g3, g4, g5, g6, g7⟩ := RE.out.facts
    clear hcan lblk hlong htk
    go_wp2_with fail
    refine bodyPost_ret (v := .tuple #[.agg #[.int .i64 0, .bool false, .int .i64 0, .string ⟨#[]⟩, .string ⟨#[]⟩, .string ⟨#[]⟩, .slice none 0 0, .slice none 0 0], .int .i64 12]) (by simp [results, Tryz.results89, go_sem, World.cell?_setCell_same', d0, d1, d2, d3, d4, d5, d6, d7]; try rfl) rfl ?_
    have K8 := kept8 wr (w.heap.size + 1) (.int .i64 0) (.bool false) (.int .i64 0) (.string ⟨#[]⟩) (.string ⟨#[]⟩) (.string ⟨#[]⟩) (.slice none 0 0) (.slice none 0 0)
    rw [HCAN.out]
    exact ⟨none, 0, none, 0, rfl, rep_V0 _ _, (ST3.out.low.trans G.out).kept K8 fun g hg => by simp at hg; omega⟩
   have hmid := ST3.out.mid G.out S3.out O.out E.out
   have MID := Lib.hid hmid
   have hpe : ps.length = l.length := by omega
   have HPE := Lib.hid hpe
   have hcn : ∀ q ∈ ps, Cn q.v := fun q hq => by
    have h1 : q.v ∈ ps.map (·.v) := List.mem_map.2 ⟨q, hq, rfl⟩
    rw [K.out.2, htk] at h1
    obtain ⟨x, hx, he⟩ := List.mem_map.1 h1
    rw [← he]
    exact can_cn (K.out.1 x (by rw [htk]; exact hx))
   have CNP := Lib.hid hcn
   have hcanl := canL_of (l := l) (by omega) fun x hx => K.out.1 x (by rw [htk]; exact hx)
   have hpv := K.out.2
   rw [htk] at hpv
   have z40 : ¬ (4096 : Int) < (ps.length : Int) := by omega
   have z20 : ps.length ≤ 70000 := by omega
   have LBLK := Lib.hid lblk
   have hcan : setS l = (0, .mk { hd0 with k := 5 } (uniq ord (ps.map (·.v))) []) := by
    unfold setS
    rw [hcanl, if_pos rfl, hpv]
   have HCAN := Lib.hid hcan
   have wl0 : wr.cell? ⟨w.heap.size, 6, none⟩ = some (.slice vai l.length vci) := bk6
   clear hcan hcanl hpv htk hmid hcn lblk G K O E hi hlt hpl hg hpe
   go_wp2_with fail
   obtain ⟨WL, hWL⟩ : ∃ W, W = wr := ⟨_, rfl⟩
   have ML : Hid (OutSt w WL (V.mk ⟨5, b, nn, s, t, i0⟩ l ns) (.slice vai l.length vci) (.slice van ns.length vcn) (.slice lao ps.length lcap) ps 5 (.slice none 0 0) (.slice none 0 0) [] []) := by rw [hWL]; exact MID
   rw [← hWL]
   clear MID bk0 bk6 wl0 hWL LBLK
   go_loopg [9] ps.length (fun gk vi wr => ∃ (i : Nat) (a : Value) (xs : List El), vi = .int .i64 (i : Int) ∧ i ≤ ps.length ∧ ps.length - i ≤ gk ∧ Hid (OutSt w wr (V.mk ⟨5, b, nn, s, t, i0⟩ l ns) (.slice vai l.length vci) (.slice van ns.length vcn) (.slice lao ps.length lcap) ps 5 a (.slice none 0 0) xs []) ∧ Hid (xs.map (·.v) = uniq ord ((ps.take i).map (·.v))))
   case atStart => exact ⟨0, _, [], rfl, Nat.zero_le _, Nat.le_refl _, ML, Lib.hid (by rw [List.take_zero]; rfl)⟩
   case round =>
    obtain ⟨i, a, xs, rfl, hi, hg, ST, XU⟩ := hrel
    obtain ⟨ao, acap, hav, ac1, ac2, ablk⟩ := OwnR.shape ST.out.its
    subst hav
    have hxl : xs.length ≤ 70000 := by
     have h1 := congrArg List.length XU.out
     have h2 := uniq_len (c := ord) ((ps.take i).map (·.v))
     rw [List.length_map] at h1 h2
     rw [List.length_take] at h2
     omega
    have bk0 : wr.cell? ⟨w.heap.size, 0, none⟩ = some (.int .i64 5) := ST.out.boxes.1
    obtain ⟨⟨oc0, oc1, oc2, oc3, oc4, oc5, oc6, oc7⟩, of6, of7⟩ : (wr.cell? ⟨w.heap.size + 1 + 1, 0, none⟩ = some (.int .i64 5) ∧ wr.cell? ⟨w.heap.size + 1 + 1, 1, none⟩ = some (.bool false) ∧ wr.cell? ⟨w.heap.size + 1 + 1, 2, none⟩ = some (.int .i64 0) ∧ wr.cell? ⟨w.heap.size + 1 + 1, 3, none⟩ = some (.string ⟨#[]⟩) ∧
     wr.cell? ⟨w.heap.size + 1 + 1, 4, none⟩ = some (.string ⟨#[]⟩) ∧ wr.cell? ⟨w.heap.size + 1 + 1, 5, none⟩ = some (.string ⟨#[]⟩) ∧ wr.cell? ⟨w.heap.size + 1 + 1, 6, none⟩ = some (.slice ao xs.length acap) ∧ wr.cell? ⟨w.heap.size + 1 + 1, 7, none⟩ = some (.slice none 0 0)) ∧ wr.frozen? ⟨w.heap.size + 1 + 1, 6, none⟩ = false ∧ wr.frozen? ⟨w.heap.size + 1 + 1, 7, none⟩ = false := ST.out.out.facts
    by_cases hlt : i < ps.length
    ·have z1 : (i : Int) < (ps.length : Int) := by omega
     have hip : i < ps.length := hlt
     obtain ⟨p, hp⟩ : ∃ p, p = ps[i] := ⟨_, rfl⟩
     obtain ⟨_, _, hlv, -, -, lbk⟩ := OwnR.shape ST.out.lrow
     simp only [Value.slice.injEq] at hlv
     obtain ⟨rfl, -, rfl⟩ := hlv
     rcases lbk with hl0 | ⟨gl, rfl, gl1, gl2⟩
     ·rw [hl0] at hip; simp at hip
     have HP := Lib.hid hp
     have HIP := Lib.hid hip
     have ABLK := Lib.hid ablk
     clear hp gl1 gl2 ablk
     go_wp2_with fail
     have hnx : ∀ (k : Nat), k ≤ xs.length → (∀ (h : k - 1 < xs.length), 0 < k → ord xs[k - 1].v p.v < 0) → (∀ y ∈ xs.drop k, 0 ≤ ord y.v p.v) →
       (if (xs.drop k).any (fun y => ord y.v p.v == 0) then xs else xs.take k ++ p :: xs.drop k).map (·.v) = uniq ord ((ps.take (i + 1)).map (·.v)) := fun k h1 h2 h3 => by
      rw [List.take_succ_eq_append_getElem hip, ← HP.out]
      exact set_next (fun q hq => CNP.out q (by exact (List.mem_append.1 hq).elim (fun h => List.mem_of_mem_take h) (fun h => by rw [List.mem_singleton.1 h, HP.out]; exact List.getElem_mem hip))) XU.out h1 h2 h3
     have NX := Lib.hid hnx
     clear hnx
     go_loopg [10, 11] xs.length (fun gk va vt wr2 => ∃ k : Nat, va = .int .i64 (k : Int) ∧ vt = .bool ((xs.drop k).any fun y => ord y.v p.v == 0) ∧ k ≤ xs.length ∧ k ≤ gk ∧ Hid (Low wr wr2) ∧ Hid (∀ y ∈ xs.drop k, 0 ≤ ord y.v p.v))
     case atStart => exact ⟨xs.length, rfl, by rw [List.drop_length]; rfl, Nat.le_refl _, Nat.le_refl _, Lib.hid (Low.refl _), Lib.hid (by rw [List.drop_length]; simp)⟩
     case round =>
      clear bk0 oc0 oc1 oc2 oc3 oc4 oc5 oc6 oc7 of6 of7
      obtain ⟨k, rfl, rfl, hk, hkg, LR, UP⟩ := hrel
      have ST2 := Lib.hid (ST.out.grow LR.out)
      have bk0 : wr.cell? ⟨w.heap.size, 0, none⟩ = some (.int .i64 5) := ST2.out.boxes.1
      have oc6 : wr.cell? ⟨w.heap.size + 1 + 1, 6, none⟩ = some (.slice ao xs.length acap) := ST2.out.out.facts.1.2.2.2.2.2.2.1
      have of6 : wr.frozen? ⟨w.heap.size + 1 + 1, 6, none⟩ = false := ST2.out.out.facts.2.1
      cases k with
      | zero =>
       have HNX := Lib.hid (NX.out 0 hk (fun _ h => absurd h (Nat.lt_irrefl _)) UP.out)
       generalize ((xs.drop 0).any fun y => ord y.v p.v == 0) = tw at HNX ⊢
       have SH := OwnR.shape2 ST.out.its
       rcases SH with ⟨hv, hx0⟩ | ⟨g, cap9, hv, hcap⟩
       ·simp only [Value.slice.injEq] at hv
        obtain ⟨rfl, -, rfl⟩ := hv
        have HX0 := Lib.hid hx0
        clear hx0
        have STW := ST2
        cases tw with
        | true =>
         go_wp2_with fail
         go_roundg (ps.length - (i + 1))
         case measure => omega
         case rel => exact ⟨i + 1, _, xs, by go_num, by omega, by omega, STW, HNX⟩
        | false =>
         have zk0 : (0 : Int) ≤ (0 : Int) := by omega
         have zl : (xs.take (0)).length = 0 := by rw [List.length_take]; omega
         have zl2 : (xs.drop (0)).length = xs.length - (0) := by rw [List.length_drop]
         have ZL := Lib.hid zl
         have ZL2 := Lib.hid zl2
         clear zl zl2
         obtain ⟨cb0, cb1, cb2, cb3, cb4, cb5, cb6, cb7⟩ := own_cells STW.out.lrow hip
         rw [← HP.out] at cb0 cb1 cb2 cb3 cb4 cb5 cb6 cb7
         go_wp2_with (first
          | (at_builtin; refine appR rfl _ _ _ rfl Tryz.underlying24 v_infov rfl (by decide) (by decide) encV_lenv encV_onev wr.heap.size (.slice none 0 0) [] rfl (OwnR.nil _ _ _ _ _) p ⟨wr.heap.size, 0, none⟩ 1 rfl (fun j u hj => newcell_at _ _ _ _ _ rfl hj) (by simp) (by simp) ?_; intro v2 w2 h2 b2 k2 n2; have H2 := Lib.hid h2; have Z2 := Lib.hid (Nat.le_trans (Nat.le_of_lt (by simp) : wr.heap.size ≤ _) b2.size); have L2 := Lib.hid ((Low.alloc (Low.refl wr) _).trans_below b2 (Nat.le_refl _)); clear h2 b2 k2 n2 cb0 cb1 cb2 cb3 cb4 cb5 cb6 cb7 bk0 oc6 of6; have bk0 : w2.cell? ⟨w.heap.size, 0, none⟩ = some (.int .i64 5) := (STW.out.grow L2.out).boxes.1; have oc6 : w2.cell? ⟨w.heap.size + 1 + 1, 6, none⟩ = some (.slice none xs.length 0) := (STW.out.grow L2.out).out.facts.1.2.2.2.2.2.2.1; have of6 : w2.frozen? ⟨w.heap.size + 1 + 1, 6, none⟩ = false := (STW.out.grow L2.out).out.facts.2.1)
          | (at_builtin; refine appRn rfl _ _ _ rfl Tryz.underlying24 v_infov rfl (by decide) (by decide) encV_lenv encV_onev wr.heap.size v2 ([] ++ [p]) rfl H2.out (xs.drop (0)) _ _ _ rfl (by simp [HX0.out]) (.inl (by rw [HX0.out]; try rfl)) (by have := ZL.out; have := ZL2.out; simp; omega) Z2.out ?_; intro v3 w3 h3 b3 k3; obtain ⟨ao3, cp3, hv3, -, -, -⟩ := OwnR.shape h3; obtain ⟨n3, hn3⟩ : ∃ n, n = ([] ++ [p] ++ xs.drop (0)).length := ⟨_, rfl⟩; rw [← hn3] at hv3; clear hn3; subst hv3; have L3 := Lib.hid (L2.out.trans_below b3 (Nat.le_refl _)); have ST5 := Lib.hid ((STW.out.grow L3.out).putItems (OwnR.base h3 (by have := STW.out.out.1.1; omega)) (sub_at0 STW.out.sub (by rw [HP.out]; exact List.getElem_mem hip))); clear h3 b3 k3 bk0 oc6 of6; have bk4 : (w3.setCell ⟨w.heap.size + 1 + 1, 6, none⟩ (.slice ao3 n3 cp3)).cell? ⟨w.heap.size, 0, none⟩ = some (.int .i64 5) := ST5.out.boxes.1; have bk0 : w3.cell? ⟨w.heap.size, 0, none⟩ = some (.int .i64 5) := (STW.out.grow L3.out).boxes.1; have oc6 : w3.cell? ⟨w.heap.size + 1 + 1, 6, none⟩ = some (.slice none xs.length 0) := (STW.out.grow L3.out).out.facts.1.2.2.2.2.2.2.1; have of6 : w3.frozen? ⟨w.heap.size + 1 + 1, 6, none⟩ = false := (STW.out.grow L3.out).out.facts.2.1))
         all_goals
          have hl4 : [] ++ [p] ++ xs.drop (0) = xs.take (0) ++ p :: xs.drop (0) := by simp
          have HL4 := Lib.hid hl4
          clear hl4
          go_wp2_with fail
          go_roundg (ps.length - (i + 1))
          case measure => omega
          case rel => exact ⟨i + 1, _, _, by go_num, by omega, by omega, ST5, Lib.hid (by rw [HL4.out]; exact HNX.out)⟩
       ·simp only [Value.slice.injEq] at hv
        obtain ⟨rfl, -, rfl⟩ := hv
        have STW := ST2
        cases tw with
        | true =>
         go_wp2_with fail
         go_roundg (ps.length - (i + 1))
         case measure => omega
         case rel => exact ⟨i + 1, _, xs, by go_num, by omega, by omega, STW, HNX⟩
        | false =>
         have zk0 : (0 : Int) ≤ (0 : Int) := by omega
         have zl : (xs.take (0)).length = 0 := by rw [List.length_take]; omega
         have zl2 : (xs.drop (0)).length = xs.length - (0) := by rw [List.length_drop]
         have ZL := Lib.hid zl
         have ZL2 := Lib.hid zl2
         clear zl zl2
         have zk1 : (0 : Int) ≤ (acap : Int) := by omega
         have zk2 : (0 : Int) ≤ (xs.length : Int) := by omega
         obtain ⟨cb0, cb1, cb2, cb3, cb4, cb5, cb6, cb7⟩ := own_cells STW.out.lrow hip
         rw [← HP.out] at cb0 cb1 cb2 cb3 cb4 cb5 cb6 cb7
         go_wp2_with (first
          | (at_builtin; refine appR rfl _ _ _ rfl Tryz.underlying24 v_infov rfl (by decide) (by decide) encV_lenv encV_onev wr.heap.size (.slice none 0 0) [] rfl (OwnR.nil _ _ _ _ _) p ⟨wr.heap.size, 0, none⟩ 1 rfl (fun j u hj => newcell_at _ _ _ _ _ rfl hj) (by simp) (by simp) ?_; intro v2 w2 h2 b2 k2 n2; have H2 := Lib.hid h2; have Z2 := Lib.hid (Nat.le_trans (Nat.le_of_lt (by simp) : wr.heap.size ≤ _) b2.size); have L2 := Lib.hid ((Low.alloc (Low.refl wr) _).trans_below b2 (Nat.le_refl _)); clear h2 b2 k2 n2 cb0 cb1 cb2 cb3 cb4 cb5 cb6 cb7 bk0 oc6 of6; have bk0 : w2.cell? ⟨w.heap.size, 0, none⟩ = some (.int .i64 5) := (STW.out.grow L2.out).boxes.1; have oc6 : w2.cell? ⟨w.heap.size + 1 + 1, 6, none⟩ = some (.slice (some ⟨g, 0, none⟩) xs.length acap) := (STW.out.grow L2.out).out.facts.1.2.2.2.2.2.2.1; have of6 : w2.frozen? ⟨w.heap.size + 1 + 1, 6, none⟩ = false := (STW.out.grow L2.out).out.facts.2.1)
          | (at_builtin; refine appRn rfl _ _ _ rfl Tryz.underlying24 v_infov rfl (by decide) (by decide) encV_lenv encV_onev wr.heap.size v2 ([] ++ [p]) rfl H2.out (xs.drop (0)) _ _ _ rfl (by rw [ZL2.out]; try simp) (src_drop encV_lenv (STW.out.grow L2.out).its (by omega) _ (by first | exact .inr rfl | simp; omega)) (by have := ZL.out; have := ZL2.out; simp; omega) Z2.out ?_; intro v3 w3 h3 b3 k3; obtain ⟨ao3, cp3, hv3, -, -, -⟩ := OwnR.shape h3; obtain ⟨n3, hn3⟩ : ∃ n, n = ([] ++ [p] ++ xs.drop (0)).length := ⟨_, rfl⟩; rw [← hn3] at hv3; clear hn3; subst hv3; have L3 := Lib.hid (L2.out.trans_below b3 (Nat.le_refl _)); have ST5 := Lib.hid ((STW.out.grow L3.out).putItems (OwnR.base h3 (by have := STW.out.out.1.1; omega)) (sub_at0 STW.out.sub (by rw [HP.out]; exact List.getElem_mem hip))); clear h3 b3 k3 bk0 oc6 of6; have bk4 : (w3.setCell ⟨w.heap.size + 1 + 1, 6, none⟩ (.slice ao3 n3 cp3)).cell? ⟨w.heap.size, 0, none⟩ = some (.int .i64 5) := ST5.out.boxes.1; have bk0 : w3.cell? ⟨w.heap.size, 0, none⟩ = some (.int .i64 5) := (STW.out.grow L3.out).boxes.1; have oc6 : w3.cell? ⟨w.heap.size + 1 + 1, 6, none⟩ = some (.slice (some ⟨g, 0, none⟩) xs.length acap) := (STW.out.grow L3.out).out.facts.1.2.2.2.2.2.2.1; have of6 : w3.frozen? ⟨w.heap.size + 1 + 1, 6, none⟩ = false := (STW.out.grow L3.out).out.facts.2.1))
         all_goals
          have hl4 : [] ++ [p] ++ xs.drop (0) = xs.take (0) ++ p :: xs.drop (0) := by simp
          have HL4 := Lib.hid hl4
          clear hl4
          go_wp2_with fail
          go_roundg (ps.length - (i + 1))
          case measure => omega
          case rel => exact ⟨i + 1, _, _, by go_num, by omega, by omega, ST5, Lib.hid (by rw [HL4.out]; exact HNX.out)⟩
      | succ j =>
       have hjx : j < xs.length := by omega
       rcases ABLK.out with h9 | ⟨g, rfl, -, -⟩
       ·rw [h9] at hjx; simp at hjx
       have hdp : xs.drop j = xs[j] :: xs.drop (j + 1) := drop_pred hjx
       have HDP := Lib.hid hdp
       obtain ⟨q, hq⟩ : ∃ q, q = xs[j] := ⟨_, rfl⟩
       have ca := own_cells ST2.out.its hjx
       have cb := own_cells ST2.out.lrow hip
       rw [← hq] at ca
       rw [← HP.out] at cb
       obtain ⟨ca0, ca1, ca2, ca3, ca4, ca5, ca6, ca7⟩ := ca
       obtain ⟨cb0, cb1, cb2, cb3, cb4, cb5, cb6, cb7⟩ := cb
       have up : ∀ {a : Addr} {u : Value}, wr.cell? a = some u → ∀ n os, (grow (wr.drewN n) os).cell? a = some u := fun h n os => (Gr.grow (Gr.refl wr) n os).cell h
       have uo6 := up oc6
       have uk0 := up bk0
       have ua0 := up ca0
       have ua1 := up ca1
       have ua2 := up ca2
       have ua3 := up ca3
       have ua4 := up ca4
       have ua5 := up ca5
       have ua6 := up ca6
       have ua7 := up ca7
       have ub0 := up cb0
       have ub1 := up cb1
       have ub2 := up cb2
       have ub3 := up cb3
       have ub4 := up cb4
       have ub5 := up cb5
       have ub6 := up cb6
       have ub7 := up cb7
       have hqp : q ∈ ps := by rw [hq]; exact ST2.out.sub _ (List.getElem_mem hjx)
       have hpp : p ∈ ps := by rw [HP.out]; exact List.getElem_mem hip
       have RQ : R wr q.v q.it q.nm := Rep.to (fun _ _ _ => ⟨trivial, rfl⟩) _ (ST2.out.lels q hqp)
       have RP : R wr p.v p.it p.nm := Rep.to (fun _ _ _ => ⟨trivial, rfl⟩) _ (ST2.out.lels p hpp)
       have hc := fun n os => calls_grown (rOrder_c q.v p.v (grow (wr.drewN n) os) _ _ _ _ (RQ.low (Gr.grow (Gr.refl wr) n os).low) (RP.low (Gr.grow (Gr.refl wr) n os).low))
       obtain ⟨o, ho⟩ : ∃ o, o = ord q.v p.v := ⟨_, rfl⟩
       rw [← ho] at hc
       rw [hq] at ho
       unfold avv El.it El.nm at hc
       have HC := Lib.hid hc
       have HO := Lib.hid ho
       have KH := Lib.hid (fun n os => (Gr.grow (Gr.refl wr) n os).low)
       have zj0 : IntKind.i64.wrap (j : Int) = (j : Int) := by rw [IntKind.wrap_i64]; omega
       have zj1 : (j : Int) < (xs.length : Int) := by omega
       have zj2 : (0 : Int) < (j : Int) + 1 := by omega
       have HQ := Lib.hid hq
       clear hq hc ho hdp RQ RP hqp hpp up ca0 ca1 ca2 ca3 ca4 ca5 ca6 ca7 cb0 cb1 cb2 cb3 cb4 cb5 cb6 cb7
       generalize htw : ((xs.drop (j + 1)).any fun y => ord y.v p.v == 0) = tw
       have HTW := Lib.hid htw
       clear htw
       go_wp2_with fail
       go_quiet_grown (with_reducible exact HC.out _ _)
       have lw := KH.out nq osq
       generalize grow (wr.drewN nq) osq = W4 at lw ⊢
       have LW := Lib.hid lw
       clear lw uo6 uk0 ua0 ua1 ua2 ua3 ua4 ua5 ua6 ua7 ub0 ub1 ub2 ub3 ub4 ub5 ub6 ub7 bk0 oc6 of6
       by_cases hneg : o < 0
       ·have STW := Lib.hid (ST.out.grow (LR.out.trans LW.out))
        have bk0 : W4.cell? ⟨w.heap.size, 0, none⟩ = some (.int .i64 5) := STW.out.boxes.1
        have oc6 : W4.cell? ⟨w.heap.size + 1 + 1, 6, none⟩ = some (.slice (some ⟨g, 0, none⟩) xs.length acap) := STW.out.out.facts.1.2.2.2.2.2.2.1
        have of6 : W4.frozen? ⟨w.heap.size + 1 + 1, 6, none⟩ = false := STW.out.out.facts.2.1
        have HNX := Lib.hid (NX.out (j + 1) hk (fun _ _ => by have h := HO.out; simp only [Nat.add_sub_cancel]; omega) UP.out)
        rw [HTW.out] at HNX
        cases tw with
        | true =>
         go_wp2_with fail
         go_roundg (ps.length - (i + 1))
         case measure => omega
         case rel => exact ⟨i + 1, _, xs, by go_num, by omega, by omega, STW, HNX⟩
        | false =>
         have zk0 : (0 : Int) ≤ (j + 1 : Int) := by omega
         have zl : (xs.take (j + 1)).length = j + 1 := by rw [List.length_take]; omega
         have zl2 : (xs.drop (j + 1)).length = xs.length - (j + 1) := by rw [List.length_drop]
         have ZL := Lib.hid zl
         have ZL2 := Lib.hid zl2
         clear zl zl2
         have zk1 : (j + 1 : Int) ≤ (acap : Int) := by omega
         have zk2 : (j + 1 : Int) ≤ (xs.length : Int) := by omega
         go_wp2_with (first
          | (at_builtin; refine appRn rfl _ _ _ rfl Tryz.underlying24 v_infov rfl (by decide) (by decide) encV_lenv encV_onev W4.heap.size (.slice none 0 0) [] rfl (OwnR.nil _ _ _ _ _) (xs.take (j + 1)) _ _ _ rfl (by rw [ZL.out]; try rfl; try simp) (src_take STW.out.its (j + 1)) (by rw [ZL.out]; simp; omega) (Nat.le_refl _) ?_; intro v1 w1 h1 b1 k1; have LA := Lib.hid (Low.trans_below (Low.refl W4) b1 (Nat.le_refl _)); have H1 := Lib.hid h1; have Z1 := Lib.hid b1.size; clear h1 b1 k1 bk0 oc6 of6; obtain ⟨cb0, cb1, cb2, cb3, cb4, cb5, cb6, cb7⟩ := own_cells (STW.out.grow LA.out).lrow hip; rw [← HP.out] at cb0 cb1 cb2 cb3 cb4 cb5 cb6 cb7)
          | (at_builtin; refine appR rfl _ _ _ rfl Tryz.underlying24 v_infov rfl (by decide) (by decide) encV_lenv encV_onev W4.heap.size v1 ([] ++ xs.take (j + 1)) rfl (OwnR.alloc H1.out _) p ⟨w1.heap.size, 0, none⟩ 1 rfl (fun j u hj => newcell_at _ _ _ _ _ rfl hj) (by have := ZL.out; simp; omega) (by have := Z1.out; simp; omega) ?_; intro v2 w2 h2 b2 k2 n2; have H2 := Lib.hid h2; have Z2 := Lib.hid (Nat.le_trans Z1.out (Nat.le_trans (Nat.le_of_lt (by simp) : w1.heap.size ≤ _) b2.size)); have L2 := Lib.hid ((Low.alloc LA.out _).trans_below b2 (Nat.le_refl _)); clear h2 b2 k2 n2 cb0 cb1 cb2 cb3 cb4 cb5 cb6 cb7; have bk0 : w2.cell? ⟨w.heap.size, 0, none⟩ = some (.int .i64 5) := (STW.out.grow L2.out).boxes.1; have oc6 : w2.cell? ⟨w.heap.size + 1 + 1, 6, none⟩ = some (.slice (some ⟨g, 0, none⟩) xs.length acap) := (STW.out.grow L2.out).out.facts.1.2.2.2.2.2.2.1; have of6 : w2.frozen? ⟨w.heap.size + 1 + 1, 6, none⟩ = false := (STW.out.grow L2.out).out.facts.2.1)
          | (at_builtin; refine appRn rfl _ _ _ rfl Tryz.underlying24 v_infov rfl (by decide) (by decide) encV_lenv encV_onev W4.heap.size v2 ([] ++ xs.take (j + 1) ++ [p]) rfl H2.out (xs.drop (j + 1)) _ _ _ rfl (by rw [ZL2.out]; try simp) (src_drop encV_lenv (STW.out.grow L2.out).its (by omega) _ (by first | exact .inr rfl | simp; omega)) (by have := ZL.out; have := ZL2.out; simp; omega) Z2.out ?_; intro v3 w3 h3 b3 k3; obtain ⟨ao3, cp3, hv3, -, -, -⟩ := OwnR.shape h3; obtain ⟨n3, hn3⟩ : ∃ n, n = ([] ++ xs.take (j + 1) ++ [p] ++ xs.drop (j + 1)).length := ⟨_, rfl⟩; rw [← hn3] at hv3; clear hn3; subst hv3; have L3 := Lib.hid (L2.out.trans_below b3 (Nat.le_refl _)); have ST5 := Lib.hid ((STW.out.grow L3.out).putItems (OwnR.base h3 (by have := STW.out.out.1.1; omega)) (sub_at STW.out.sub (by rw [HP.out]; exact List.getElem_mem hip) (j + 1))); clear h3 b3 k3 bk0 oc6 of6; have bk4 : (w3.setCell ⟨w.heap.size + 1 + 1, 6, none⟩ (.slice ao3 n3 cp3)).cell? ⟨w.heap.size, 0, none⟩ = some (.int .i64 5) := ST5.out.boxes.1; have bk0 : w3.cell? ⟨w.heap.size, 0, none⟩ = some (.int .i64 5) := (STW.out.grow L3.out).boxes.1; have oc6 : w3.cell? ⟨w.heap.size + 1 + 1, 6, none⟩ = some (.slice (some ⟨g, 0, none⟩) xs.length acap) := (STW.out.grow L3.out).out.facts.1.2.2.2.2.2.2.1; have of6 : w3.frozen? ⟨w.heap.size + 1 + 1, 6, none⟩ = false := (STW.out.grow L3.out).out.facts.2.1))
         all_goals
          have hl4 : [] ++ xs.take (j + 1) ++ [p] ++ xs.drop (j + 1) = xs.take (j + 1) ++ p :: xs.drop (j + 1) := by simp
          have HL4 := Lib.hid hl4
          clear hl4
          go_wp2_with fail
          go_roundg (ps.length - (i + 1))
          case measure => omega
          case rel => exact ⟨i + 1, _, _, by go_num, by omega, by omega, ST5, Lib.hid (by rw [HL4.out]; exact HNX.out)⟩
       ·have hup : ∀ y ∈ xs.drop j, 0 ≤ ord y.v p.v := fun y hy => by
         rw [HDP.out] at hy
         rcases List.mem_cons.1 hy with rfl | hy
         ·have := HO.out; omega
         ·exact UP.out y hy
        have hany : ((xs.drop j).any fun y => ord y.v p.v == 0) = ((o == 0) || tw) := by rw [HDP.out, List.any_cons, ← HO.out, HTW.out]
        have HUP := Lib.hid hup
        have HANY := Lib.hid hany
        clear hup hany
        cases tw with
        | true =>
         go_wp2_with fail
         go_roundg j
         case measure => omega
         case rel => exact ⟨j, by go_num, by rw [HANY.out]; simp, by omega, Nat.le_refl _, Lib.hid (LR.out.trans LW.out), HUP⟩
        | false =>
         go_wp2_with fail
         go_roundg j
         case measure => omega
         case rel => exact ⟨j, by go_num, by rw [HANY.out]; simp, by omega, Nat.le_refl _, Lib.hid (LR.out.trans LW.out), HUP⟩
    ·have z1 : ¬ (i : Int) < (ps.length : Int) := by omega
     have hie : ps.take i = ps := List.take_of_length_le (by omega)
     have hx : uniq ord (ps.map (·.v)) = xs.map (·.v) := by
      have h := XU.out
      rw [hie] at h
      exact h.symm
     have hcan2 : setS l = (0, .mk { hd0 with k := 5 } (xs.map (·.v)) []) := by rw [HCAN.out, hx]
     have hrow : RowAt (fun b => w.heap.size + 3 ≤ b) wr (xs.map (·.v)) (.slice ao xs.length acap) := ownV_row ST.out.its (A := fun b => w.heap.size + 3 ≤ b) (fun p hp => ST.out.lels p (ST.out.sub p hp)) (fun _ h => h) (fun g hg => (World.ownsRow.lt ST.out.its g hg).1)
     obtain ⟨⟨d0, d1, d2, d3, d4, d5, d6, d7⟩, g0, g1, g2, g3, g4, g5, g6, g7⟩ := ST.out.res.facts
     have HCAN2 := Lib.hid hcan2
     have HROW := Lib.hid hrow
     clear hie hx hcan2 hrow ablk
     go_wp2_with fail
     refine bodyPost_ret (v := .tuple #[.agg #[.int .i64 5, .bool false, .int .i64 0, .string ⟨#[]⟩, .string ⟨#[]⟩, .string ⟨#[]⟩, .slice ao xs.length acap, .slice none 0 0], .int .i64 0]) (by simp [results, Tryz.results89, go_sem, World.cell?_setCell_same', d0, d1, d2, d3, d4, d5, d6, d7]; try rfl) rfl ?_
     have K8 := kept8 wr (w.heap.size + 1) (.int .i64 5) (.bool false) (.int .i64 0) (.string ⟨#[]⟩) (.string ⟨#[]⟩) (.string ⟨#[]⟩) (.slice ao xs.length acap) (.slice none 0 0)
     rw [HCAN2.out]
     have hlm : (xs.map (·.v)).length = xs.length := List.length_map _
     refine ⟨ao, acap, none, 0, by simp [V.h, V.l, V.ns, hd0], ?_, ST.out.low.kept K8 fun g hg => by simp at hg; omega⟩
     show Rep _ _ _ (.slice ao (xs.map (·.v)).length acap) _
     rw [hlm]
     exact rep_v.2 ⟨⟨Nat.zero_le _, Nat.zero_le _, Nat.zero_le _⟩, names_nil _ _, RowAt.to (fun b hb hlt => ⟨by omega, K8.2.2.2 b hlt (by simp; omega)⟩) HROW.out⟩
end Go.Proofs.YtnchohglplobeaaGreat
