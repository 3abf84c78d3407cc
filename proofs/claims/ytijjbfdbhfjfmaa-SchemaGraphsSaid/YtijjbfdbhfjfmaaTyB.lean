/- The reference's Check, Below, Same. Condition: as said. -/
import Derived.Test.YtijjbfdbhfjfmaaTyY
import Derived.Test.YtijjbfdbhfjfmaaTyA
import Derived.Deep.DeepCutAuto
namespace Go.Proofs.Ytijjbfdbhfjfmaa
open Go.RowKit
def chkE (n : Nat) (t : T) : Int := if 50 < dpt n t then 11 else if mayB n t then 0 else 1
theorem chkE_ok {n : Nat} {t : T} : chkE n t = 0 ↔ dpt n t ≤ 50 ∧ mayB n t = true := by
  unfold chkE
  by_cases h : 50 < dpt n t
  · rw [if_pos h]; constructor
    · intro h; simp at h
    · rintro ⟨h2, -⟩; omega
  · rw [if_neg h]
    by_cases h2 : mayB n t = true
    · rw [if_pos h2]; exact ⟨fun _ => ⟨by omega, h2⟩, fun _ => rfl⟩
    · rw [if_neg h2]; constructor
      · intro h; simp at h
      · rintro ⟨-, h3⟩; exact absurd h3 h2
set_option maxHeartbeats 1600000 in
theorem rCheck_c {A : Nat → Prop} {n : Nat} (hn : n ≤ 1000000) (t : T) (w : World) (e v : Value) (h : RT A w n t e v) : Calls Try.prog 48 #[tv t e v] w fun e w' => e = .returned (.int .i64 (chkE n t)) ∧ Low w w' := by
  obtain ⟨pe, ce, pv, cv, rfl, rfl, z1, z2, z3, z4⟩ := h.sl
  obtain ⟨U, hU⟩ : ∃ U, U = w.alloc (box4 t pe ce pv cv) := ⟨_, rfl⟩
  have LU := Lib.hid (show Low w U by rw [hU]; exact low_new (Low.refl w) _)
  have hd := depth_n n hn A t U _ _ (h.low LU.out)
  have HM := Lib.hid fun W (l : Low U W) => may_c n A t W _ _ (h.low (LU.out.trans l))
  obtain ⟨r, hr⟩ : ∃ r, r = chkE n t := ⟨_, rfl⟩
  have HR := Lib.hid hr
  have FU := Lib.hid (show U.cell? ⟨w.heap.size, 0, none⟩ = some (.int .i64 t.k) ∧ U.cell? ⟨w.heap.size, 1, none⟩ = some (.string t.n) ∧ U.cell? ⟨w.heap.size, 2, none⟩ = some (.slice pe t.l.length ce) ∧ U.cell? ⟨w.heap.size, 3, none⟩ = some (.slice pv t.ats.length cv) from low_box (show Low (w.alloc (box4 t pe ce pv cv)) U by rw [← hU]; exact Low.refl U))
  rw [← hr]
  obtain ⟨d, hd'⟩ : ∃ d, d = dpt n t := ⟨_, rfl⟩
  rw [← hd'] at hd
  have HD' := Lib.hid hd'
  have HU := Lib.hid hU
  have hd9 : d ≤ 1000000 := by have := dpt_le n t; omega
  unfold tv at *
  have HD := Lib.hid hd
  clear h hr hd' hU hd
  go_enter Try.func48, Try.ntmps48
  go_upto_region 1 with fail
  rw [show w.alloc (.cells #[.int .i64 t.k, .string t.n, .slice pe t.l.length ce, .slice pv t.ats.length cv] 55) = U from HU.out.symm]
  obtain ⟨f0, f1, f2, f3⟩ := FU.out
  clear FU
  by_cases h50 : 50 < d
  · have z : (50 : Int) < (d : Int) := by omega
    have HQ := Lib.hid (show 11 = r by rw [HR.out, chkE, if_pos (by rw [← HD'.out]; exact h50)])
    go_wp2_with fail
    refine HD.out.mono ?_
    rintro e w1 ⟨rfl, l1⟩
    have L1 := Lib.hid l1
    clear l1
    go_wp2_with fail
    go_ret
    exact ⟨retI HQ.out, LU.out.trans L1.out⟩
  · have z : ¬ (50 : Int) < (d : Int) := by omega
    obtain ⟨b, hb⟩ : ∃ b, b = mayB n t := ⟨_, rfl⟩
    have HQ := Lib.hid (show (if b then 0 else 1) = r by rw [HR.out, chkE, if_neg (show ¬ 50 < dpt n t by rw [← HD'.out]; exact h50), hb])
    go_wp2_with fail
    refine HD.out.mono ?_
    rintro e w1 ⟨rfl, l1⟩
    have L1 := Lib.hid l1
    have hm := HM.out w1 l1
    rw [← hb] at hm
    have HM2 := Lib.hid hm
    have f0 := l1.keep f0
    have f1 := l1.keep f1
    have f2 := l1.keep f2
    have f3 := l1.keep f3
    clear l1 hb hm
    go_wp2_with fail
    refine HM2.out.mono ?_
    rintro e w2 ⟨rfl, l2⟩
    have L2 := Lib.hid l2
    clear l2
    cases b with
    | true =>
      go_wp2_with fail
      go_ret
      exact ⟨retI HQ.out, (LU.out.trans L1.out).trans L2.out⟩
    | false =>
      go_wp2_with fail
      go_ret
      exact ⟨retI HQ.out, (LU.out.trans L1.out).trans L2.out⟩
def BelC (F : Nat) (n : Nat) : Prop := ∀ (A A' : Nat → Prop) (a b : T) (w : World) (e v e' v' : Value), RT A w n a e v → RT A' w n b e' v' → mayB n a = true → mayB n b = true → Calls Try.prog F #[tv a e v, tv b e' v'] w (fun e w' => e = .returned (.bool (belB n a b)) ∧ Low w w')
theorem low_box2 {w wr : World} {c0 c1 c2 c3 d0 d1 d2 d3 : Value} {t t' : TypeId} (h : Low ((w.alloc (.cells #[c0, c1, c2, c3] t)).alloc (.cells #[d0, d1, d2, d3] t')) wr) :
    (wr.cell? ⟨w.heap.size, 0, none⟩ = some c0 ∧ wr.cell? ⟨w.heap.size, 1, none⟩ = some c1 ∧ wr.cell? ⟨w.heap.size, 2, none⟩ = some c2 ∧ wr.cell? ⟨w.heap.size, 3, none⟩ = some c3) ∧
    (wr.cell? ⟨w.heap.size + 1, 0, none⟩ = some d0 ∧ wr.cell? ⟨w.heap.size + 1, 1, none⟩ = some d1 ∧ wr.cell? ⟨w.heap.size + 1, 2, none⟩ = some d2 ∧ wr.cell? ⟨w.heap.size + 1, 3, none⟩ = some d3) := by
  refine ⟨low_box ((low_new (Low.refl _) _).trans h), ?_⟩
  have := low_box h
  rwa [show (w.alloc (.cells #[c0, c1, c2, c3] t)).heap.size = w.heap.size + 1 by simp] at this
theorem beq_t {a b : Int} (h : a = b) : (a == b) = true := by simpa using h
theorem beq_f {a b : Int} (h : ¬ a = b) : (a == b) = false := by simpa using h
end Go.Proofs.Ytijjbfdbhfjfmaa
