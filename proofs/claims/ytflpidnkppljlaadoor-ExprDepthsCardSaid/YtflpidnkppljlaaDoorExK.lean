/- What stands behind a word that must be there; a field's name. Condition: the words are no more than 70000; what an expression reads. An expression that is built up: its box, its kids and names in rows of the call's own. No condition. -/
import Derived.Test.YtflpidnkppljlaaDoorExpRow
import Derived.Test.YtflpidnkppljlaaDoorExU
import Derived.Deep.RegionLawGrows
set_option linter.unusedVariables false
set_option linter.unnecessarySimpa false
set_option linter.unusedSimpArgs false
namespace Go.Proofs.YtflpidnkppljlaaDoor
open Go.RowKit
section
variable {b : Nat} {ao : Option Addr} {cap : Nat} {l : List Wd}
set_option maxHeartbeats 3200000 in
theorem behind_c (hl : l.length ≤ 70000) {d f : Nat} {s : Rd Unit} (t : List UInt8) (w : World) (h : St b ao cap l (d : Int) s w) (ih : RuleC b ao cap l 18 0 f d) (hm : Ms l f 0 (mustS l s 1 t)) :
    Calls Tryd.prog 49 #[.pointer (some ⟨b, 0, none⟩), .string ⟨t.toArray⟩] w (RuleP b ao cap l (d : Int) ((mustS l s 1 t).then fun _ a => rdE l f 0 d a) w) := by
  have H := Lib.hid h
  have HBW := Lib.hid (st_lt h)
  have IH := Lib.hid ih
  have HM := Lib.hid hm
  clear h ih hm
  go_enter Tryd.func49, Tryd.ntmps49
  go_wp2_with fail
  refine (must_c hl 1 (by decide) t _ (H.out.new _)).mono ?_
  rintro e w1 ⟨rfl, s1, l1⟩
  have S1 := Lib.hid s1
  have L1 := Lib.hid l1
  clear s1 l1
  go_wp2_with fail
  refine (IH.out _ _ S1.out HM.out).mono ?_
  rintro e w2 ⟨x, p, rfl, x2, s2, l2, ok2⟩
  have X2 := Lib.hid x2
  have S2 := Lib.hid s2
  have L2 := Lib.hid (L1.out.trans l2)
  have OK := Lib.hid ok2
  have HSZ := Lib.hid (show w.heap.size + 1 ≤ w1.heap.size by have := L1.out.size; simpa using this)
  obtain ⟨⟨c0, c1, c2, c3, c4, c5, c6, c7, c8, c9, c10, c11⟩, fz⟩ := box12 L2.out HBW.out
  clear x2 s2 l2 ok2
  unfold exv
  go_wp2_with fail
  obtain ⟨E0, E1, E2, E3, E4, E5, E6, E7, E8, E9, E10, E11⟩ := put12 c0 c1 c2 c3 c4 c5 c6 c7 c8 c9 c10 c11
  refine bodyPost_ret (v := .agg #[.int .i64 x.op, .int .i64 x.v.k, .bool x.v.b, .int .i64 x.v.n, .string ⟨x.v.s.toArray⟩, .string ⟨x.v.t.toArray⟩, .string ⟨x.v.i.toArray⟩, .slice none 0 0, .slice none 0 0, .string ⟨x.nm.toArray⟩, .slice p.ka x.ks.length p.kc, .slice p.na x.ns.length p.nc]) (by simp [results, Tryd.results49, go_sem, E0, E1, E2, E3, E4, E5, E6, E7, E8, E9, E10, E11]) rfl ?_
  exact ⟨x, p, rfl, tow_x (B := w.heap.size + 1) (X2.out.lower HSZ.out) (by omega), tow_st S2.out HBW.out, tow_lx (((Lx.refl b w).alloc _).trans L2.out), OK.out⟩
set_option maxHeartbeats 3200000 in
theorem ofField_c (hl : l.length ≤ 70000) {d f : Nat} {s : Rd Unit} (w : World) (h : St b ao cap l (d : Int) s w) (ih : RuleC b ao cap l 18 0 f d) (hm : Ms l f 0 (mustS l s 5 [58])) :
    Calls Tryd.prog 93 #[.pointer (some ⟨b, 0, none⟩)] w (RuleP b ao cap l (d : Int) ((mustS l s 5 [58]).then fun _ a => rdE l f 0 d a) w) := by
  have H := Lib.hid h
  have HBW := Lib.hid (st_lt h)
  have IH := Lib.hid ih
  have HM := Lib.hid hm
  clear h ih hm
  go_enter Tryd.func93, Tryd.ntmps93
  go_wp2_with fail
  refine (must_c hl 5 (by decide) [58] _ (H.out.new _)).mono ?_
  rintro e w1 ⟨rfl, s1, l1⟩
  have S1 := Lib.hid s1
  have L1 := Lib.hid l1
  clear s1 l1
  go_wp2_with fail
  refine (IH.out _ _ S1.out HM.out).mono ?_
  rintro e w2 ⟨x, p, rfl, x2, s2, l2, ok2⟩
  have X2 := Lib.hid x2
  have S2 := Lib.hid s2
  have L2 := Lib.hid (L1.out.trans l2)
  have OK := Lib.hid ok2
  have HSZ := Lib.hid (show w.heap.size + 1 ≤ w1.heap.size by have := L1.out.size; simpa using this)
  obtain ⟨⟨c0, c1, c2, c3, c4, c5, c6, c7, c8, c9, c10, c11⟩, fz⟩ := box12 L2.out HBW.out
  clear x2 s2 l2 ok2
  unfold exv
  go_wp2_with fail
  obtain ⟨E0, E1, E2, E3, E4, E5, E6, E7, E8, E9, E10, E11⟩ := put12 c0 c1 c2 c3 c4 c5 c6 c7 c8 c9 c10 c11
  refine bodyPost_ret (v := .agg #[.int .i64 x.op, .int .i64 x.v.k, .bool x.v.b, .int .i64 x.v.n, .string ⟨x.v.s.toArray⟩, .string ⟨x.v.t.toArray⟩, .string ⟨x.v.i.toArray⟩, .slice none 0 0, .slice none 0 0, .string ⟨x.nm.toArray⟩, .slice p.ka x.ks.length p.kc, .slice p.na x.ns.length p.nc]) (by simp [results, Tryd.results93, go_sem, E0, E1, E2, E3, E4, E5, E6, E7, E8, E9, E10, E11]) rfl ?_
  exact ⟨x, p, rfl, tow_x (B := w.heap.size + 1) (X2.out.lower HSZ.out) (by omega), tow_st S2.out HBW.out, tow_lx (((Lx.refl b w).alloc _).trans L2.out), OK.out⟩
/-- A field's name, behind whatever. -/
def fldS (l : List Wd) (s : Rd Unit) : Rd (List UInt8) := s.then fun _ a => textW l (if (wdA l a).k = 3 then 3 else 1) a
theorem field_c (hl : l.length ≤ 70000) {d : Int} {s : Rd Unit} (w : World) (h : St b ao cap l d s w) :
    Calls Tryd.prog 92 #[.pointer (some ⟨b, 0, none⟩)] w fun e w' => e = .returned (.string ⟨(fldS l s).getL.toArray⟩) ∧ St b ao cap l d (fldS l s).unit w' ∧ Lx b w w' := by
  have H := Lib.hid h
  have HW := Lib.hid (word_c hl w h)
  obtain ⟨x, hx⟩ : ∃ x, wdK l s 0 = x := ⟨_, rfl⟩
  have HF : fldS l s = (s.then fun _ a => textW l (if x.k = 3 then 3 else 1) a) := by
    cases s with
    | bad e p => rfl
    | ok u a => rw [wdK_zero] at hx; unfold fldS; simp only [Rd.then]; rw [hx]
  rw [hx] at HW
  rw [HF]
  clear h hx HF
  have FLD := wd_field x
  unfold wv at HW
  by_cases h1 : x.k = 3
  · rw [if_pos h1]
    rw [h1] at FLD HW
    clear h1
    go_enter Tryd.func92, Tryd.ntmps92
    go_wp2_with fail
    refine HW.out.mono ?_
    rintro e w1 ⟨rfl, l1⟩
    have L1 := Lib.hid l1
    clear l1 HW
    go_wp2_with fail
    refine (text_c hl 3 (by decide) _ (H.out.low L1.out)).mono ?_
    rintro e w2 ⟨rfl, s2, l2⟩
    have S2 := Lib.hid s2
    have L2 := Lib.hid l2
    clear s2 l2
    go_wp2_with fail
    go_returns
    exact ⟨rfl, S2.out, (Lx.of_low L1.out).trans L2.out⟩
  · rw [if_neg h1]
    have z1 : (x.k == 3) = false := by simpa using h1
    clear h1
    go_enter Tryd.func92, Tryd.ntmps92
    go_wp2_with fail
    refine HW.out.mono ?_
    rintro e w1 ⟨rfl, l1⟩
    have L1 := Lib.hid l1
    clear l1 HW
    go_wp2_with fail
    refine (text_c hl 1 (by decide) _ (H.out.low L1.out)).mono ?_
    rintro e w2 ⟨rfl, s2, l2⟩
    have S2 := Lib.hid s2
    have L2 := Lib.hid l2
    clear s2 l2
    go_wp2_with fail
    go_returns
    exact ⟨rfl, S2.out, (Lx.of_low L1.out).trans L2.out⟩
end
end Go.Proofs.YtflpidnkppljlaaDoor
namespace Go.Proofs.YtflpidnkppljlaaDoor
open Go.RowKit
theorem ownR_stepK {α : Type} {e : TypeId} {k : Nat} {enc : α → List Value} {ops : Array Oper} {o : Oper} {a : Act} {w : World} {K : Act → World → Prop} {Q : Exit → Act → World → Prop} {E : Prop} (hgd : o.guard = none) (s x : Operand) (t : TypeId)
    (ho : o.op = .call { callee := .builtin .append, args := #[s, x], argTypes := #[t, t] }) (ht : Tryd.prog.underlying t = some (.slice e)) {z : Value} {bytes : Nat}
    (hinfo : (Tryd.prog.info? e).map (fun i => (i.zero, i.size, i.bytes)) = some (some z, k, bytes)) (hz : z.cells.size = k) (hk0 : 0 < k) (hby : bytes ≤ 1000)
    (hk : ∀ x, (enc x).length = k) (h1 : ∀ x, ∀ u ∈ enc x, u.oneCell' = true)
    (B : Nat) (v : Value) (l : List α) (hs : a.eval s = v) (hown : OwnR e k enc B w v l) (y : α) (ad : Addr) (c : Nat) (hx : a.eval x = .slice (some ad) 1 c)
    (hnews : ∀ j u, (enc y)[j]? = some u → w.cell? (ad.add j) = some u) (hlen : l.length ≤ 1000000) (hb : B ≤ w.heap.size)
    (h : ∀ v' w', OwnR e k enc B w' v' (l ++ [y]) → Below B w w' → (∀ b, b < w.heap.size → some b ≠ v.ownBlock → w'.heap[b]? = w.heap[b]?) → (v'.ownBlock = v.ownBlock ∨ ∀ g, v'.ownBlock = some g → w.heap.size ≤ g) → K (a.put o.dst v') w') : if Region.wanted o (yielded ops a.tmps) = true then Oper.wp Tryd.prog o a w K Q else E := by
  have hw : Region.wanted o (yielded ops a.tmps) = true := by simp [Region.wanted, hgd]
  obtain ⟨i0, hi, hz0, hz1, hz2⟩ := info_parts hinfo
  have hby2 : (l.length + 1) * bytes ≤ 140737488355328 := by
    have := Nat.mul_le_mul (show l.length + 1 ≤ 1000001 by omega) hby
    omega
  have hnl : (enc y).length = 1 * k := by rw [hk, Nat.one_mul]
  have happ : (l ++ [y]).flatMap enc = l.flatMap enc ++ enc y := by simp
  have hlt := World.ownsRow.lt hown
  rcases hown.2 with ⟨rfl, hn⟩ | ⟨g, cap, cur, rfl, hbg, hg, hnc, hcm, hcs, htake⟩
  · have hl : l = [] := List.eq_nil_of_length_eq_zero hn
    subst hl
    refine step_append_grows hgd s x t ho e i0 z k bytes ht hi hz0 hz1 hz2 hz hk0 none 0 0 [] hs (fun _ => ⟨rfl, rfl⟩) (by simp) (fun b hb => by simp at hb) ad 1 c (enc y) hx hnl hnews (h1 y) (by omega) (by unfold maxLen; omega) (by simpa using hby2) fun v' w' r1 r2 => ?_
    have r3 : OwnR e k enc w.heap.size w' v' ([] ++ [y]) := by unfold OwnR; rw [happ]; exact r1
    exact h v' w' (r3.base hb) ((Below.refl _ _).grown r2 hb (by simp)) (fun b hb _ => r2.block b hb (by simp)) (.inr fun g hg => (World.ownsRow.lt r3 g hg).1)
  · by_cases hroom : l.length + 1 ≤ cap
    · rw [if_pos hw]
      obtain ⟨w', hrun, r1, r2⟩ := run_append_fits (P := Tryd.prog) w B t o.type e i0 k ht hi hz1 g l.length cap (l.flatMap enc) hown ad 1 c (enc y) hnl hnews (h1 y) hroom
      unfold Oper.wp
      simp [execOp, ho, resolve, invoke, builtin, hs, hx, hrun, Result.andThen]
      refine h _ w' ?_ ((Below.refl _ _).grown r2 hb fun k hk => by simp at hk; subst hk; exact hbg) (fun b hb hne => r2.block b hb hne) (.inl rfl)
      unfold OwnR; rw [happ, List.length_append]; exact r1
    · have holds : ∀ b, some (⟨g, 0, none⟩ : Addr) = some b → ∀ j u, (l.flatMap enc)[j]? = some u → w.cell? (b.add j) = some u := fun b hb => by
        simp only [Option.some.injEq] at hb
        subst hb
        exact World.ownsRow.cells hown (g := g) rfl
      refine step_append_grows hgd s x t ho e i0 z k bytes ht hi hz0 hz1 hz2 hz hk0 (some ⟨g, 0, none⟩) l.length cap (l.flatMap enc) hs (fun h => by simp at h) hown.1 holds ad 1 c (enc y) hx hnl hnews (h1 y) (by omega) (by unfold maxLen; omega) hby2 fun v' w' r1 r2 => ?_
      have r3 : OwnR e k enc w.heap.size w' v' (l ++ [y]) := by unfold OwnR; rw [happ, List.length_append]; exact r1
      exact h v' w' (r3.base hb) ((Below.refl _ _).grown r2 hb (by simp)) (fun b hb _ => r2.block b hb (by simp)) (.inr fun g hg => (World.ownsRow.lt r3 g hg).1)
theorem OwnR.block {α : Type} {e : TypeId} {k : Nat} {enc : α → List Value} {B : Nat} {w : World} {v : Value} {l : List α} (h : OwnR e k enc B w v l) {g : Nat} (hg : v.ownBlock = some g) : ∃ cur, w.heap[g]? = some (.cells cur e) := by
  rcases h.2 with ⟨rfl, -⟩ | ⟨g', cap, cur, rfl, h1, h2, -⟩
  · simp [Value.ownBlock] at hg
  · have : g' = g := by simpa [Value.ownBlock] using hg
    subst this
    exact ⟨cur, h2⟩
/-- Rows of other types lie in other blocks. -/
theorem OwnR.apart {α β : Type} {e e' : TypeId} {k k' : Nat} {enc : α → List Value} {enc' : β → List Value} {B B' : Nat} {w : World} {v v' : Value} {l : List α} {l' : List β} (h : OwnR e k enc B w v l) (h' : OwnR e' k' enc' B' w v' l') (he : e ≠ e') {g : Nat} (hg : v.ownBlock = some g) : some g ≠ v'.ownBlock := fun e9 => by
  obtain ⟨c, hc⟩ := h.block hg
  obtain ⟨c', hc'⟩ := h'.block e9.symm
  rw [hc] at hc'
  simp only [Option.some.injEq, Obj.cells.injEq] at hc'
  exact he hc'.2.1
def encX (y : Ex × Pl) : List Value := excs y.1 y.2
theorem encX_len (y : Ex × Pl) : (encX y).length = 12 := rfl
theorem encX_one (y : Ex × Pl) : ∀ u ∈ encX y, u.oneCell' = true := by
  intro u hu
  simp only [encX, excs, List.mem_cons, List.not_mem_nil, or_false] at hu
  rcases hu with rfl | rfl | rfl | rfl | rfl | rfl | rfl | rfl | rfl | rfl | rfl | rfl <;> rfl
theorem ex_info : (Tryd.prog.info? 30).map (fun i => (i.zero, i.size, i.bytes)) = some (some (.agg #[.int .i64 0, .int .i64 0, .bool false, .int .i64 0, .string ⟨#[]⟩, .string ⟨#[]⟩, .string ⟨#[]⟩, .slice none 0 0, .slice none 0 0, .string ⟨#[]⟩, .slice none 0 0, .slice none 0 0]), 12, 192) := by kernel_rfl
abbrev OwnK (B : Nat) (w : World) (v : Value) (xs : List (Ex × Pl)) : Prop := OwnR 30 12 encX B w v xs
def xpZ : Ex × Pl := (ex0, pl0)
theorem own_put12 {B g cap n : Nat} {w : World} {xs : List (Ex × Pl)} {z : Ex × Pl} {x : Ex} {q : Pl} (hn : n = xs.length) (h : OwnK B w (.slice (some ⟨g, 0, none⟩) (n + 1) cap) (xs ++ [z])) :
    OwnK B ((((((((((((w.setCell ⟨g, n * 12, none⟩ (.int .i64 x.op)).setCell ⟨g, n * 12 + 1, none⟩ (.int .i64 x.v.k)).setCell ⟨g, n * 12 + 2, none⟩ (.bool x.v.b)).setCell ⟨g, n * 12 + 3, none⟩ (.int .i64 x.v.n)).setCell ⟨g, n * 12 + 4, none⟩ (.string ⟨x.v.s.toArray⟩)).setCell ⟨g, n * 12 + 5, none⟩ (.string ⟨x.v.t.toArray⟩)).setCell ⟨g, n * 12 + 6, none⟩ (.string ⟨x.v.i.toArray⟩)).setCell ⟨g, n * 12 + 7, none⟩ (.slice none 0 0)).setCell ⟨g, n * 12 + 8, none⟩ (.slice none 0 0)).setCell ⟨g, n * 12 + 9, none⟩ (.string ⟨x.nm.toArray⟩)).setCell ⟨g, n * 12 + 10, none⟩ (.slice q.ka x.ks.length q.kc)).setCell ⟨g, n * 12 + 11, none⟩ (.slice q.na x.ns.length q.nc)) (.slice (some ⟨g, 0, none⟩) (n + 1) cap) (xs ++ [(x, q)]) := by
  subst hn
  have hl : (xs ++ [z]).length = xs.length + 1 := by simp
  have hl2 : (xs ++ [(x, q)]).length = xs.length + 1 := by simp
  unfold OwnK OwnR at h ⊢
  rw [hl] at h
  rw [hl2]
  have h8 := ((((((((((((h.stored (xs.length * 12) (.int .i64 x.op)).1.stored (xs.length * 12 + 1) (.int .i64 x.v.k)).1.stored (xs.length * 12 + 2) (.bool x.v.b)).1.stored (xs.length * 12 + 3) (.int .i64 x.v.n)).1.stored (xs.length * 12 + 4) (.string ⟨x.v.s.toArray⟩)).1.stored (xs.length * 12 + 5) (.string ⟨x.v.t.toArray⟩)).1.stored (xs.length * 12 + 6) (.string ⟨x.v.i.toArray⟩)).1.stored (xs.length * 12 + 7) (.slice none 0 0)).1.stored (xs.length * 12 + 8) (.slice none 0 0)).1.stored (xs.length * 12 + 9) (.string ⟨x.nm.toArray⟩)).1.stored (xs.length * 12 + 10) (.slice q.ka x.ks.length q.kc)).1.stored (xs.length * 12 + 11) (.slice q.na x.ns.length q.nc)).1
  have hx : (xs.flatMap encX).length = xs.length * 12 := flat_len encX_len xs
  have e : ∀ q : Ex × Pl, (xs ++ [q]).flatMap encX = xs.flatMap encX ++ encX q := fun q => by simp
  rw [e, List.set_append_right _ _ (by omega), List.set_append_right _ _ (by omega), List.set_append_right _ _ (by omega), List.set_append_right _ _ (by omega), List.set_append_right _ _ (by omega), List.set_append_right _ _ (by omega), List.set_append_right _ _ (by omega), List.set_append_right _ _ (by omega), List.set_append_right _ _ (by omega), List.set_append_right _ _ (by omega), List.set_append_right _ _ (by omega), List.set_append_right _ _ (by omega), hx, show xs.length * 12 - xs.length * 12 = 0 by omega, show xs.length * 12 + 1 - xs.length * 12 = 1 by omega, show xs.length * 12 + 2 - xs.length * 12 = 2 by omega, show xs.length * 12 + 3 - xs.length * 12 = 3 by omega, show xs.length * 12 + 4 - xs.length * 12 = 4 by omega, show xs.length * 12 + 5 - xs.length * 12 = 5 by omega, show xs.length * 12 + 6 - xs.length * 12 = 6 by omega, show xs.length * 12 + 7 - xs.length * 12 = 7 by omega, show xs.length * 12 + 8 - xs.length * 12 = 8 by omega, show xs.length * 12 + 9 - xs.length * 12 = 9 by omega, show xs.length * 12 + 10 - xs.length * 12 = 10 by omega, show xs.length * 12 + 11 - xs.length * 12 = 11 by omega] at h8
  rw [e]
  exact h8
theorem own_last {B n : Nat} {w : World} {v : Value} {xs : List (Ex × Pl)} (hn : xs.length = n) (h : OwnK B w v (xs ++ [xpZ])) : ∃ g cap, v = .slice (some ⟨g, 0, none⟩) (n + 1) cap ∧ (B ≤ g ∧ g < w.heap.size) ∧
    (w.cell? ⟨g, n * 12, none⟩ = some (.int .i64 0) ∧ w.cell? ⟨g, n * 12 + 1, none⟩ = some (.int .i64 0) ∧ w.cell? ⟨g, n * 12 + 2, none⟩ = some (.bool false) ∧ w.cell? ⟨g, n * 12 + 3, none⟩ = some (.int .i64 0) ∧ w.cell? ⟨g, n * 12 + 4, none⟩ = some (.string ⟨#[]⟩) ∧ w.cell? ⟨g, n * 12 + 5, none⟩ = some (.string ⟨#[]⟩) ∧ w.cell? ⟨g, n * 12 + 6, none⟩ = some (.string ⟨#[]⟩) ∧ w.cell? ⟨g, n * 12 + 7, none⟩ = some (.slice none 0 0) ∧ w.cell? ⟨g, n * 12 + 8, none⟩ = some (.slice none 0 0) ∧ w.cell? ⟨g, n * 12 + 9, none⟩ = some (.string ⟨#[]⟩) ∧ w.cell? ⟨g, n * 12 + 10, none⟩ = some (.slice none 0 0) ∧ w.cell? ⟨g, n * 12 + 11, none⟩ = some (.slice none 0 0)) ∧ ∀ o, w.frozen? ⟨g, o, none⟩ = false := by
  subst hn
  have hl : (xs ++ [xpZ]).length = xs.length + 1 := by simp
  obtain ⟨ao, cap, rfl, -, -, h0⟩ := OwnR.shape h
  rw [hl] at h ⊢
  rcases h0 with h0 | ⟨g, rfl, h1, h2⟩
  · simp at h0
  have hc : ∀ c (hc : c < 12), w.cell? ⟨g, xs.length * 12 + c, none⟩ = some ((encX xpZ)[c]'hc) := fun c hc => by
    have := OwnR.cell encX_len h xs.length c (by simp) hc
    rw [this]
    simp only [List.getElem_append_right (Nat.le_refl _), Nat.sub_self, List.getElem_cons_zero]
    exact List.getElem?_eq_getElem hc
  exact ⟨g, cap, rfl, ⟨h1, h2⟩, ⟨hc 0 (by decide), hc 1 (by decide), hc 2 (by decide), hc 3 (by decide), hc 4 (by decide), hc 5 (by decide), hc 6 (by decide), hc 7 (by decide), hc 8 (by decide), hc 9 (by decide), hc 10 (by decide), hc 11 (by decide)⟩, fun o => OwnR.frozen h o⟩
theorem setCell_commE (w : World) (a b o o' : Nat) (u v : Value) (h : a ≠ b) : (w.setCell ⟨a, o, none⟩ u).setCell ⟨b, o', none⟩ v = (w.setCell ⟨b, o', none⟩ v).setCell ⟨a, o, none⟩ u := by
  simp only [World.setCell]
  congr 1
  apply Array.ext_getElem?
  intro i
  simp only [Array.getElem?_modify]
  by_cases h1 : a = i
  · have h2 : ¬ b = i := fun e => h (h1.trans e.symm)
    simp [h1, h2]
  · simp [h1]
theorem BoxE.put10 {k : Nat} {op : Int} {ks ks' : List Ex} {ns : List (List UInt8)} {ka ka' na : Option Addr} {kc kc' nc : Nat} {w : World} (h : BoxE k (.mk op li0 [] ks ns) ⟨ka, kc, na, nc⟩ w) {n : Nat} (hn : ks'.length = n) : BoxE k (.mk op li0 [] ks' ns) ⟨ka', kc', na, nc⟩ (w.setCell ⟨k, 10, none⟩ (.slice ka' n kc')) := by
  subst hn
  obtain ⟨⟨h0, h1, h2, h3, h4, h5, h6, h7, h8, h9, h10, h11⟩, hf⟩ := h
  exact ⟨⟨setC_other h0 (by decide), setC_other h1 (by decide), setC_other h2 (by decide), setC_other h3 (by decide), setC_other h4 (by decide), setC_other h5 (by decide), setC_other h6 (by decide), setC_other h7 (by decide), setC_other h8 (by decide), setC_other h9 (by decide), setC_same h10, setC_other h11 (by decide)⟩, fun j => by rw [World.frozen?_setCell]; exact hf j⟩
theorem BoxE.put11 {k : Nat} {op : Int} {ks : List Ex} {ns ns' : List (List UInt8)} {ka na na' : Option Addr} {kc nc nc' : Nat} {w : World} (h : BoxE k (.mk op li0 [] ks ns) ⟨ka, kc, na, nc⟩ w) {n : Nat} (hn : ns'.length = n) : BoxE k (.mk op li0 [] ks ns') ⟨ka, kc, na', nc'⟩ (w.setCell ⟨k, 11, none⟩ (.slice na' n nc')) := by
  subst hn
  obtain ⟨⟨h0, h1, h2, h3, h4, h5, h6, h7, h8, h9, h10, h11⟩, hf⟩ := h
  exact ⟨⟨setC_other h0 (by decide), setC_other h1 (by decide), setC_other h2 (by decide), setC_other h3 (by decide), setC_other h4 (by decide), setC_other h5 (by decide), setC_other h6 (by decide), setC_other h7 (by decide), setC_other h8 (by decide), setC_other h9 (by decide), setC_other h10 (by decide), setC_same h11⟩, fun j => by rw [World.frozen?_setCell]; exact hf j⟩
/-- Where elements may lie: behind the box, apart from both rows. -/
def Apt (W1 : World) (a nb : Value) : Nat → Prop := fun g => W1.heap.size < g ∧ some g ≠ a.ownBlock ∧ some g ≠ nb.ownBlock
/-- An expression that is built up in the box that lies where W1 ended. -/
structure ES (b : Nat) (op : Int) (W1 W : World) (p : Pl) (xs : List (Ex × Pl)) (ys : List (List UInt8)) : Prop where
  box : BoxE W1.heap.size (.mk op li0 [] (xs.map (·.1)) ys) p W
  its : OwnK (W1.heap.size + 1) W (.slice p.ka xs.length p.kc) xs
  nms : OwnR 9 1 encT (W1.heap.size + 1) W (.slice p.na ys.length p.nc) ys
  reps : ∀ y ∈ xs, XAt (Apt W1 (.slice p.ka xs.length p.kc) (.slice p.na ys.length p.nc)) W y.1 y.2
  lx : Lx b W1 W
  hb : b < W1.heap.size
theorem ES.move {b : Nat} {op : Int} {W1 W w6 : World} {p p' : Pl} {xs xs' : List (Ex × Pl)} {ys ys' : List (List UInt8)} (h : ES b op W1 W p xs ys) (os : w6.os = W.os) (out : w6.output = W.output) (size : W.heap.size ≤ w6.heap.size)
    (same : ∀ i, i < W.heap.size → some i ≠ (Value.slice p.ka xs.length p.kc).ownBlock → some i ≠ (Value.slice p.na ys.length p.nc).ownBlock → i ≠ W1.heap.size → w6.heap[i]? = W.heap[i]?)
    (box : BoxE W1.heap.size (.mk op li0 [] (xs'.map (·.1)) ys') p' w6) (its : OwnK (W1.heap.size + 1) w6 (.slice p'.ka xs'.length p'.kc) xs') (nms : OwnR 9 1 encT (W1.heap.size + 1) w6 (.slice p'.na ys'.length p'.nc) ys')
    (ha : (Value.slice p'.ka xs'.length p'.kc).ownBlock = (Value.slice p.ka xs.length p.kc).ownBlock ∨ ∀ g, (Value.slice p'.ka xs'.length p'.kc).ownBlock = some g → W.heap.size ≤ g)
    (hn : (Value.slice p'.na ys'.length p'.nc).ownBlock = (Value.slice p.na ys.length p.nc).ownBlock ∨ ∀ g, (Value.slice p'.na ys'.length p'.nc).ownBlock = some g → W.heap.size ≤ g)
    (reps : ∀ y ∈ xs', XAt (Apt W1 (.slice p.ka xs.length p.kc) (.slice p.na ys.length p.nc)) W y.1 y.2) : ES b op W1 w6 p' xs' ys' := by
  have hsz := h.box.lt
  have fa : ∀ g, (Value.slice p.ka xs.length p.kc).ownBlock = some g → W1.heap.size + 1 ≤ g := fun g hg => (World.ownsRow.lt h.its g hg).1
  have fn : ∀ g, (Value.slice p.na ys.length p.nc).ownBlock = some g → W1.heap.size + 1 ≤ g := fun g hg => (World.ownsRow.lt h.nms g hg).1
  refine ⟨box, its, nms, fun y hy => XAt.to (fun g hg hlt => ⟨⟨hg.1, fun e => ?_, fun e => ?_⟩, same g hlt hg.2.1 hg.2.2 (by have := hg.1; omega)⟩) y.1 (reps y hy), ⟨os.trans h.lx.os, out.trans h.lx.out, Nat.le_trans h.lx.size size, fun i hi hne => (same i (by omega) (fun e => by have := fa i e.symm; omega) (fun e => by have := fn i e.symm; omega) (by omega)).trans (h.lx.block i hi hne)⟩, h.hb⟩
  · rcases ha with ha | ha
    · rw [ha] at e; exact hg.2.1 e
    · have := ha g e.symm; omega
  · rcases hn with hn | hn
    · rw [hn] at e; exact hg.2.2 e
    · have := hn g e.symm; omega
/-- The reader's box may turn, and blocks be made. -/
theorem ES.lxw {b : Nat} {op : Int} {W1 W W' : World} {p : Pl} {xs : List (Ex × Pl)} {ys : List (List UInt8)} (h : ES b op W1 W p xs ys) (k : Lx b W W') : ES b op W1 W' p xs ys := by
  have hb := h.hb
  exact ⟨h.box.lx k (by omega), h.its.lx k (by omega), h.nms.lx k (by omega), fun y hy => (h.reps y hy).lx k (fun g hg => by have := hg.1; omega), h.lx.trans k, h.hb⟩
theorem ES.lww {b : Nat} {op : Int} {W1 W W' : World} {p : Pl} {xs : List (Ex × Pl)} {ys : List (List UInt8)} (h : ES b op W1 W p xs ys) (k : Low W W') : ES b op W1 W' p xs ys := h.lxw (Lx.of_low k)
/-- What is new lies apart. -/
theorem ES.fresh {b : Nat} {op : Int} {W1 W w3 : World} {p : Pl} {xs : List (Ex × Pl)} {ys : List (List UInt8)} (h : ES b op W1 W p xs ys) {x : Ex} {q : Pl} (hx : XAt (Nw W.heap.size) w3 x q) : XAt (Apt W1 (.slice p.ka xs.length p.kc) (.slice p.na ys.length p.nc)) w3 x q :=
  hx.base fun g hg => ⟨by have := h.box.lt; have : W.heap.size ≤ g := hg; omega, fun e => by have := (World.ownsRow.lt h.its g e.symm).2; have : W.heap.size ≤ g := hg; omega, fun e => by have := (World.ownsRow.lt h.nms g e.symm).2; have : W.heap.size ≤ g := hg; omega⟩
section
variable {b : Nat} {op : Int} {W1 W w2 : World} {p : Pl} {xs : List (Ex × Pl)} {ys : List (List UInt8)}
theorem heap12 {k i n : Nat} {w : World} {u0 u1 u2 u3 u4 u5 u6 u7 u8 u9 u10 u11 : Value} (h : i ≠ k) : ((((((((((((w.setCell ⟨k, n, none⟩ u0).setCell ⟨k, n + 1, none⟩ u1).setCell ⟨k, n + 2, none⟩ u2).setCell ⟨k, n + 3, none⟩ u3).setCell ⟨k, n + 4, none⟩ u4).setCell ⟨k, n + 5, none⟩ u5).setCell ⟨k, n + 6, none⟩ u6).setCell ⟨k, n + 7, none⟩ u7).setCell ⟨k, n + 8, none⟩ u8).setCell ⟨k, n + 9, none⟩ u9).setCell ⟨k, n + 10, none⟩ u10).setCell ⟨k, n + 11, none⟩ u11).heap[i]? = w.heap[i]? := by
  have e : ∀ (W : World) (o : Nat) (v : Value), (W.setCell ⟨k, o, none⟩ v).heap[i]? = W.heap[i]? := fun W o v => Below.heap_setCell _ _ _ _ h
  simp only [e]
theorem ES.putX5 {g cap n : Nat} {x : Ex} {q : Pl} {w5 : World} (h : ES b op W1 W p xs ys) (h3 : OwnK (W1.heap.size + 1) w5 (.slice (some ⟨g, 0, none⟩) (n + 1) cap) (xs ++ [(x, q)])) (os : w5.os = W.os) (out : w5.output = W.output) (hsz5 : W.heap.size ≤ w5.heap.size)
    (k2 : ∀ i, i < W.heap.size → i ≠ g → some i ≠ (Value.slice p.ka xs.length p.kc).ownBlock → w5.heap[i]? = W.heap[i]?) (n2 : (Value.slice (some ⟨g, 0, none⟩) (n + 1) cap).ownBlock = (Value.slice p.ka xs.length p.kc).ownBlock ∨ ∀ y, (Value.slice (some ⟨g, 0, none⟩) (n + 1) cap).ownBlock = some y → W.heap.size ≤ y)
    (hp : XAt (Apt W1 (.slice p.ka xs.length p.kc) (.slice p.na ys.length p.nc)) W x q) (hn : n = xs.length) :
    ES b op W1 (w5.setCell ⟨W1.heap.size, 10, none⟩ (.slice (some ⟨g, 0, none⟩) (n + 1) cap)) ⟨some ⟨g, 0, none⟩, cap, p.na, p.nc⟩ (xs ++ [(x, q)]) ys := by
  have hg : W1.heap.size + 1 ≤ g ∧ g < w5.heap.size := World.ownsRow.lt h3 g rfl
  have hl : (xs ++ [(x, q)]).length = n + 1 := by simp [hn]
  have hsz := h.box.lt
  have gne : ∀ i, i < W.heap.size → some i ≠ (Value.slice p.ka xs.length p.kc).ownBlock → i ≠ g := fun i hi hne e => by
    subst e
    rcases n2 with n2 | n2
    · exact hne n2
    · exact absurd (n2 i rfl) (by omega)
  have fa : some W1.heap.size ≠ (Value.slice p.ka xs.length p.kc).ownBlock := fun e => by have := (World.ownsRow.lt h.its _ e.symm).1; omega
  have same : ∀ i, i < W.heap.size → some i ≠ (Value.slice p.ka xs.length p.kc).ownBlock → i ≠ W1.heap.size → (w5.setCell ⟨W1.heap.size, 10, none⟩ (.slice (some ⟨g, 0, none⟩) (n + 1) cap)).heap[i]? = W.heap[i]? := fun i hi h1 h2 =>
    (Below.heap_setCell _ _ _ _ h2).trans (k2 i hi (gne i hi h1) h1)
  refine h.move ?_ ?_ ?_ (fun i hi h1 _ h3 => same i hi h1 h3) ?_ ?_ ?_ ?_ (.inl rfl) (fun y hy => ?_)
  · exact os
  · exact out
  · simp only [World.size_setCell]; exact hsz5
  · exact BoxE.put10 (ks' := (xs ++ [(x, q)]).map (·.1)) (n := n + 1) (h.box.to (k2 _ hsz (by omega) fa)) (by simp [hn])
  · show OwnK _ _ (.slice (some ⟨g, 0, none⟩) (xs ++ [(x, q)]).length cap) _
    rw [hl]
    exact h3.to fun i hi => Below.heap_setCell _ _ _ _ (by have := (World.ownsRow.lt h3 i hi).1; show i ≠ W1.heap.size; omega)
  · exact h.nms.to fun i hi => same i (World.ownsRow.lt h.nms i hi).2 (h.nms.apart h.its (by decide) hi) (by have := (World.ownsRow.lt h.nms i hi).1; omega)
  · show (Value.slice (some ⟨g, 0, none⟩) (xs ++ [(x, q)]).length cap).ownBlock = _ ∨ _
    exact n2
  · rcases List.mem_append.1 hy with hy | hy
    · exact h.reps y hy
    · simp only [List.mem_cons, List.not_mem_nil, or_false] at hy; subst hy; exact hp
theorem os12' {w : World} {k n : Nat} {u0 u1 u2 u3 u4 u5 u6 u7 u8 u9 u10 u11 : Value} : ((((((((((((w.setCell ⟨k, n, none⟩ u0).setCell ⟨k, n + 1, none⟩ u1).setCell ⟨k, n + 2, none⟩ u2).setCell ⟨k, n + 3, none⟩ u3).setCell ⟨k, n + 4, none⟩ u4).setCell ⟨k, n + 5, none⟩ u5).setCell ⟨k, n + 6, none⟩ u6).setCell ⟨k, n + 7, none⟩ u7).setCell ⟨k, n + 8, none⟩ u8).setCell ⟨k, n + 9, none⟩ u9).setCell ⟨k, n + 10, none⟩ u10).setCell ⟨k, n + 11, none⟩ u11).os = w.os ∧ ((((((((((((w.setCell ⟨k, n, none⟩ u0).setCell ⟨k, n + 1, none⟩ u1).setCell ⟨k, n + 2, none⟩ u2).setCell ⟨k, n + 3, none⟩ u3).setCell ⟨k, n + 4, none⟩ u4).setCell ⟨k, n + 5, none⟩ u5).setCell ⟨k, n + 6, none⟩ u6).setCell ⟨k, n + 7, none⟩ u7).setCell ⟨k, n + 8, none⟩ u8).setCell ⟨k, n + 9, none⟩ u9).setCell ⟨k, n + 10, none⟩ u10).setCell ⟨k, n + 11, none⟩ u11).output = w.output ∧ ((((((((((((w.setCell ⟨k, n, none⟩ u0).setCell ⟨k, n + 1, none⟩ u1).setCell ⟨k, n + 2, none⟩ u2).setCell ⟨k, n + 3, none⟩ u3).setCell ⟨k, n + 4, none⟩ u4).setCell ⟨k, n + 5, none⟩ u5).setCell ⟨k, n + 6, none⟩ u6).setCell ⟨k, n + 7, none⟩ u7).setCell ⟨k, n + 8, none⟩ u8).setCell ⟨k, n + 9, none⟩ u9).setCell ⟨k, n + 10, none⟩ u10).setCell ⟨k, n + 11, none⟩ u11).heap.size = w.heap.size := by
  have e : ∀ (W : World) (a : Addr) (v : Value), (W.setCell a v).os = W.os := fun _ _ _ => rfl
  have e2 : ∀ (W : World) (a : Addr) (v : Value), (W.setCell a v).output = W.output := fun _ _ _ => rfl
  simp only [e, e2, World.size_setCell, and_self]
theorem ES.putX {g cap n : Nat} {x : Ex} {q : Pl} (h : ES b op W1 W p xs ys) (h2 : OwnK (W1.heap.size + 1) w2 (.slice (some ⟨g, 0, none⟩) (n + 1) cap) (xs ++ [xpZ])) (bl : RowKit.Below (W1.heap.size + 1) W w2)
    (k2 : ∀ i, i < W.heap.size → some i ≠ (Value.slice p.ka xs.length p.kc).ownBlock → w2.heap[i]? = W.heap[i]?) (n2 : (Value.slice (some ⟨g, 0, none⟩) (n + 1) cap).ownBlock = (Value.slice p.ka xs.length p.kc).ownBlock ∨ ∀ y, (Value.slice (some ⟨g, 0, none⟩) (n + 1) cap).ownBlock = some y → W.heap.size ≤ y)
    (hp : XAt (Apt W1 (.slice p.ka xs.length p.kc) (.slice p.na ys.length p.nc)) W x q) (hn : n = xs.length) :
    ES b op W1 (((((((((((((w2.setCell ⟨g, n * 12, none⟩ (.int .i64 x.op)).setCell ⟨g, n * 12 + 1, none⟩ (.int .i64 x.v.k)).setCell ⟨g, n * 12 + 2, none⟩ (.bool x.v.b)).setCell ⟨g, n * 12 + 3, none⟩ (.int .i64 x.v.n)).setCell ⟨g, n * 12 + 4, none⟩ (.string ⟨x.v.s.toArray⟩)).setCell ⟨g, n * 12 + 5, none⟩ (.string ⟨x.v.t.toArray⟩)).setCell ⟨g, n * 12 + 6, none⟩ (.string ⟨x.v.i.toArray⟩)).setCell ⟨g, n * 12 + 7, none⟩ (.slice none 0 0)).setCell ⟨g, n * 12 + 8, none⟩ (.slice none 0 0)).setCell ⟨g, n * 12 + 9, none⟩ (.string ⟨x.nm.toArray⟩)).setCell ⟨g, n * 12 + 10, none⟩ (.slice q.ka x.ks.length q.kc)).setCell ⟨g, n * 12 + 11, none⟩ (.slice q.na x.ns.length q.nc)).setCell ⟨W1.heap.size, 10, none⟩ (.slice (some ⟨g, 0, none⟩) (n + 1) cap)) ⟨some ⟨g, 0, none⟩, cap, p.na, p.nc⟩ (xs ++ [(x, q)]) ys := by
  obtain ⟨o1, o2, o3⟩ := os12' (w := w2) (k := g) (n := n * 12) (u0 := .int .i64 x.op) (u1 := .int .i64 x.v.k) (u2 := .bool x.v.b) (u3 := .int .i64 x.v.n) (u4 := .string ⟨x.v.s.toArray⟩) (u5 := .string ⟨x.v.t.toArray⟩) (u6 := .string ⟨x.v.i.toArray⟩) (u7 := .slice none 0 0) (u8 := .slice none 0 0) (u9 := .string ⟨x.nm.toArray⟩) (u10 := .slice q.ka x.ks.length q.kc) (u11 := .slice q.na x.ns.length q.nc)
  exact h.putX5 (own_put12 (x := x) (q := q) hn h2) (o1.trans bl.os) (o2.trans bl.output) (Nat.le_trans bl.size (Nat.le_of_eq o3.symm)) (fun i hi hne h1 => (heap12 hne).trans (k2 i hi h1)) n2 hp hn
theorem ES.putXb {g cap n : Nat} {x : Ex} {q : Pl} (h : ES b op W1 W p xs ys) (h2 : OwnK (W1.heap.size + 1) w2 (.slice (some ⟨g, 0, none⟩) (n + 1) cap) (xs ++ [xpZ])) (bl : RowKit.Below (W1.heap.size + 1) W w2)
    (k2 : ∀ i, i < W.heap.size → some i ≠ (Value.slice p.ka xs.length p.kc).ownBlock → w2.heap[i]? = W.heap[i]?) (n2 : (Value.slice (some ⟨g, 0, none⟩) (n + 1) cap).ownBlock = (Value.slice p.ka xs.length p.kc).ownBlock ∨ ∀ y, (Value.slice (some ⟨g, 0, none⟩) (n + 1) cap).ownBlock = some y → W.heap.size ≤ y)
    (hp : XAt (Apt W1 (.slice p.ka xs.length p.kc) (.slice p.na ys.length p.nc)) W x q) (hn : n = xs.length) :
    ES b op W1 (((((((((((((w2.setCell ⟨W1.heap.size, 10, none⟩ (.slice (some ⟨g, 0, none⟩) (n + 1) cap)).setCell ⟨g, n * 12, none⟩ (.int .i64 x.op)).setCell ⟨g, n * 12 + 1, none⟩ (.int .i64 x.v.k)).setCell ⟨g, n * 12 + 2, none⟩ (.bool x.v.b)).setCell ⟨g, n * 12 + 3, none⟩ (.int .i64 x.v.n)).setCell ⟨g, n * 12 + 4, none⟩ (.string ⟨x.v.s.toArray⟩)).setCell ⟨g, n * 12 + 5, none⟩ (.string ⟨x.v.t.toArray⟩)).setCell ⟨g, n * 12 + 6, none⟩ (.string ⟨x.v.i.toArray⟩)).setCell ⟨g, n * 12 + 7, none⟩ (.slice none 0 0)).setCell ⟨g, n * 12 + 8, none⟩ (.slice none 0 0)).setCell ⟨g, n * 12 + 9, none⟩ (.string ⟨x.nm.toArray⟩)).setCell ⟨g, n * 12 + 10, none⟩ (.slice q.ka x.ks.length q.kc)).setCell ⟨g, n * 12 + 11, none⟩ (.slice q.na x.ns.length q.nc)) ⟨some ⟨g, 0, none⟩, cap, p.na, p.nc⟩ (xs ++ [(x, q)]) ys := by
  have hg : W1.heap.size + 1 ≤ g ∧ g < w2.heap.size := World.ownsRow.lt h2 g rfl
  have hne : W1.heap.size ≠ g := by omega
  have h9 := h.putX h2 bl k2 n2 hp hn
  repeat rw [setCell_commE _ W1.heap.size g 10 _ _ _ hne]
  exact h9
theorem ES.putN {na' : Option Addr} {n nc' : Nat} {t : List UInt8} (h : ES b op W1 W p xs ys) (h2 : OwnR 9 1 encT (W1.heap.size + 1) w2 (.slice na' n nc') (ys ++ [t])) (bl : RowKit.Below (W1.heap.size + 1) W w2)
    (k2 : ∀ i, i < W.heap.size → some i ≠ (Value.slice p.na ys.length p.nc).ownBlock → w2.heap[i]? = W.heap[i]?) (n2 : (Value.slice na' n nc').ownBlock = (Value.slice p.na ys.length p.nc).ownBlock ∨ ∀ y, (Value.slice na' n nc').ownBlock = some y → W.heap.size ≤ y) (hn : n = (ys ++ [t]).length) :
    ES b op W1 (w2.setCell ⟨W1.heap.size, 11, none⟩ (.slice na' n nc')) ⟨p.ka, p.kc, na', nc'⟩ xs (ys ++ [t]) := by
  subst hn
  have hsz := h.box.lt
  have fa : some W1.heap.size ≠ (Value.slice p.na ys.length p.nc).ownBlock := fun e => by have := (World.ownsRow.lt h.nms _ e.symm).1; omega
  have same : ∀ i, i < W.heap.size → some i ≠ (Value.slice p.na ys.length p.nc).ownBlock → i ≠ W1.heap.size → (w2.setCell ⟨W1.heap.size, 11, none⟩ (.slice na' (ys ++ [t]).length nc')).heap[i]? = W.heap[i]? := fun i hi h1 h2 =>
    (Below.heap_setCell _ _ _ _ h2).trans (k2 i hi h1)
  refine h.move ?_ ?_ ?_ (fun i hi _ h1 h3 => same i hi h1 h3) ?_ ?_ ?_ (.inl rfl) n2 h.reps
  · exact bl.os
  · exact bl.output
  · simp only [World.size_setCell]; exact bl.size
  · exact BoxE.put11 (h.box.to (k2 _ hsz fa)) rfl
  · exact h.its.to fun i hi => same i (World.ownsRow.lt h.its i hi).2 (h.its.apart h.nms (by decide) hi) (by have := (World.ownsRow.lt h.its i hi).1; omega)
  · exact h2.to fun i hi => Below.heap_setCell _ _ _ _ (by have := (World.ownsRow.lt h2 i hi).1; show i ≠ W1.heap.size; omega)
/-- What was built up. -/
theorem ES.rep (h : ES b op W1 W p xs ys) : XAt (Nw W1.heap.size) W (.mk op li0 [] (xs.map (·.1)) ys) p := by
  obtain ⟨ao, c, e, k1, k2, k3⟩ := h.its.shape
  obtain ⟨bo, c', e', m1, m2, m3⟩ := h.nms.shape
  simp only [Value.slice.injEq, true_and] at e e'
  obtain ⟨e1, e2⟩ := e
  obtain ⟨e1', e2'⟩ := e'
  refine xAt_v.2 ⟨⟨⟨by rw [e2']; exact m1, by rw [e2']; exact m2⟩, ?_⟩, ⟨by show (xs.map _).length ≤ _; rw [List.length_map, e2]; exact k1, by rw [e2]; exact k2⟩, ?_⟩
  · rcases m3 with m3 | ⟨g, m3, m4, -⟩
    · exact .inl m3
    · refine .inr ⟨g, by rw [e1', m3], by show W1.heap.size ≤ g; omega, fun j hj => ?_⟩
      have hn := h.nms
      rw [e1', m3] at hn
      have := hn.cell encT_len j 0 hj (by decide)
      rw [Nat.mul_one, Nat.add_zero] at this
      exact this
  · rcases k3 with k3 | ⟨g, k3, k4, -⟩
    · exact .inl (by subst k3; rfl)
    · refine .inr ⟨g, by rw [e1, k3], by show W1.heap.size ≤ g; omega, xRow_of fun j hj => ?_⟩
      have hj' : j < xs.length := by simpa [Ex.ks] using hj
      have hi := h.its
      rw [e1, k3] at hi
      have e : (Ex.mk op li0 [] (xs.map (·.1)) ys).ks[j] = (xs[j]).1 := by simp [Ex.ks]
      rw [e]
      refine ⟨(xs[j]).2, fun c' u hu => ?_, (h.reps _ (List.getElem_mem hj')).base fun g hg => by have := hg.1; show W1.heap.size ≤ g; omega⟩
      have hc : c' < 12 := by have := (List.getElem?_eq_some_iff.1 hu).1; simpa [excs] using this
      rw [Nat.zero_add, hi.cell encX_len j c' hj' hc]
      exact hu
end
end Go.Proofs.YtflpidnkppljlaaDoor
