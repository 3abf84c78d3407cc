/- The program's deeper, rise, mayBe, Check. Condition: short rows. -/
import Derived.Test.YtijjbfdbhfjfmaaTyK
import Derived.Test.YtijjbfdbhfjfmaaTyW
import Derived.Test.YtijjbfdbhfjfmaaTyB
import Derived.Laws.Cover1
namespace Go.Proofs.Ytijjbfdbhfjfmaa
open Go.RowKit
def DeepC (n : Nat) : Prop := ∀ (A : Nat → Prop) (t : T) (L : Nat) (w : World) (e v : Value), L ≤ 1000 → Sm n t → RT A w n t e v → Calls Try.prog 65 #[tv t e v, .int .i64 (L : Int)] w (fun e w' => e = .returned (.bool (dG L t)) ∧ Low w w')
set_option maxHeartbeats 1600000 in
theorem deepf_c {n : Nat} (hd : DeepC n) {A : Nat → Prop} (x : T) (L : Nat) (bx : Nat) (w : World) (e v : Value) (hL : L + 1 ≤ 1000) (hs : Sm n x) (h : RT A w n x e v) (hb : w.cell? ⟨bx, 0, none⟩ = some (.int .i64 ((L + 1 : Nat) : Int))) :
    Calls Try.prog 74 #[tv x e v, .pointer (some ⟨bx, 0, none⟩)] w fun e w' => e = .returned (.bool (dG L x)) ∧ Low w w' := by
  obtain ⟨pe, ce, pv, cv, rfl, rfl, z1, z2, z3, z4⟩ := h.sl
  have hb2 := (low_new (Low.refl w) (box4 x pe ce pv cv)).keep hb
  have HC := Lib.hid (hd A x L (w.alloc (box4 x pe ce pv cv)) _ _ (by omega) hs (h.low (low_new (Low.refl w) _)))
  have zz : ((L + 1 : Nat) : Int) - 1 = (L : Int) := by omega
  unfold tv at *
  unfold box4 at *
  clear h hs hd hb
  go_enter Try.func74, Try.ntmps74
  go_wp2_with fail
  refine HC.out.mono ?_
  rintro e w1 ⟨rfl, l1⟩
  have L1 := Lib.hid ((low_new (Low.refl w) _).trans l1)
  clear l1 HC hb2
  go_wp2_with fail
  go_ret
  exact ⟨rfl, L1.out⟩
set_option maxHeartbeats 3200000 in
set_option maxRecDepth 100000 in
theorem deep_n (n : Nat) : DeepC n := by
  induction n with
  | zero => intro A t L w e v _ h; exact h.elim
  | succ n ih =>
    intro A t L w e v hL hs h
    obtain ⟨pe, ce, pv, cv, rfl, rfl, z1, z2, z3, z4⟩ := h.sl
    unfold tv
    cases L with
    | zero =>
      clear ih hs h
      go_enter Try.func65, Try.ntmps65
      go_wp2_with fail
      go_ret
      exact ⟨rfl, low_new (low_new (Low.refl w) _) _⟩
    | succ L =>
      obtain ⟨U, hU⟩ : ∃ U, U = (w.alloc (.cells #[.int .i64 t.k, .string t.n, .slice pe t.l.length ce, .slice pv t.ats.length cv] 55)).alloc (.cells #[.int .i64 ((L + 1 : Nat) : Int)] 3) := ⟨_, rfl⟩
      have LU := Lib.hid (show Low w U by rw [hU]; exact low_new (low_new (Low.refl w) _) _)
      have FU := Lib.hid (show U.cell? ⟨w.heap.size, 0, none⟩ = some (.int .i64 t.k) ∧ U.cell? ⟨w.heap.size, 1, none⟩ = some (.string t.n) ∧ U.cell? ⟨w.heap.size, 2, none⟩ = some (.slice pe t.l.length ce) ∧ U.cell? ⟨w.heap.size, 3, none⟩ = some (.slice pv t.ats.length cv) from low_box (show Low (w.alloc (.cells #[.int .i64 t.k, .string t.n, .slice pe t.l.length ce, .slice pv t.ats.length cv] 55)) U by rw [hU]; exact low_new (Low.refl _) _))
      have FB := Lib.hid (show U.cell? ⟨w.heap.size + 1, 0, none⟩ = some (.int .i64 ((L + 1 : Nat) : Int)) by
        rw [hU, show w.heap.size + 1 = (w.alloc (.cells #[.int .i64 t.k, .string t.n, .slice pe t.l.length ce, .slice pv t.ats.length cv] 55)).heap.size by simp, World.cell?_alloc_mark]; rfl)
      have HU := Lib.hid hU
      have HW := Lib.hid (within_c t U _ _ (h.low LU.out) hs.len)
      have HS := Lib.hid hs.2.2
      have IH := Lib.hid ih
      have zL : L + 1 ≤ 1000 := hL
      obtain ⟨m, hm⟩ : ∃ m, m = L + 1 := ⟨_, rfl⟩
      have hm0 : ((m : Int) == 0) = false := beq_f (by omega)
      have HM := Lib.hid hm
      rw [show dG (L + 1) t = t.ins.any (dG L) from rfl]
      rw [← hm] at HU FB hL ⊢
      unfold tv at HW
      clear hU h hs ih hm
      go_enter Try.func65, Try.ntmps65
      go_upto_region 1 with fail
      rw [← HU.out]
      obtain ⟨f0, f1, f2, f3⟩ := FU.out
      have fb := FB.out
      go_wp2_with fail
      refine HW.out.mono ?_
      rintro e w1 ⟨p, c, rfl, hr, l1⟩
      have HB1 := Lib.hid (l1.keep fb)
      have HC := Lib.hid (hasD_c t.ins n (dG L) (w.heap.size + 1) w1 _ hr fun j hj W e u l hx => deepf_c IH.out _ L _ W _ _ zL (HS.out _ (List.getElem_mem hj)) hx (by rw [← HM.out]; exact l.keep HB1.out))
      have L1 := Lib.hid l1
      clear f0 f1 f2 f3 fb l1 hr HW HU FU FB
      go_wp2_with fail
      refine HC.out.mono ?_
      rintro e w2 ⟨rfl, l2⟩
      have L2 := Lib.hid l2
      clear l2 HC
      go_wp2_with fail
      go_ret
      exact ⟨rfl, (LU.out.trans L1.out).trans L2.out⟩
theorem deep_c (n : Nat) : DeepC n := deep_n n
theorem less_iff : ∀ l m : List UInt8, Op.bytesLess l m = decide (Lib.compareBytes l m < 0)
  | [], [] => rfl
  | [], _ :: _ => rfl
  | _ :: _, [] => rfl
  | x :: l, y :: m => by
    have e : Op.bytesLess (x :: l) (y :: m) = (x < y || (x == y && Op.bytesLess l m)) := by rw [Op.bytesLess]
    rw [e, cb_cons, less_iff l m]
    rcases Nat.lt_trichotomy x.toNat y.toNat with h | h | h
    · have h1 : x < y := by rw [UInt8.lt_iff_toNat_lt]; exact h
      simp [h1]
    · have : x = y := UInt8.toNat_inj.1 h
      subst this
      have h1 : ¬ x < x := UInt8.lt_irrefl _
      simp [h1]
    · have h1 : ¬ x < y := by rw [UInt8.lt_iff_toNat_lt]; omega
      have h2 : y < x := by rw [UInt8.lt_iff_toNat_lt]; exact h
      have h3 : (x == y) = false := by rw [beq_eq_false_iff_ne]; intro e; subst e; omega
      simp [h1, h2, h3]
theorem less_cmp (s t : ByteArray) : Op.bytesLess s.toList t.toList = decide (cmpB s t < 0) := by
  rw [less_iff, ByteArray.toList_eq, ByteArray.toList_eq]; rfl
theorem geq_cmp (T : TypeId) (s t : ByteArray) : binOp .geq T (.string s) (.string t) = pure (.bool !(decide (cmpB s t < 0))) := by
  rw [binOp_string_geq, less_cmp]
set_option maxHeartbeats 1600000 in
theorem rise_c {A : Nat → Prop} {n : Nat} (l : List At) (w : World) (v : Value) (h : RAs A w n l v) : Calls Try.prog 75 #[v] w fun e w' => e = .returned (.bool (rises (l.map an))) ∧ Low w w' := by
  obtain ⟨p, c, rfl, z1, z2⟩ := RowR.sl h
  have HA := Lib.hid h
  obtain ⟨r, hr⟩ : ∃ r, r = rises (l.map an) := ⟨_, rfl⟩
  have CN := Lib.hid (show ∀ j (hj : j + 1 < l.length), ¬ cmpB (an (l[j]'(by omega))) (an l[j + 1]) < 0 → false = r from fun j hj h2 => by
    rw [hr]; symm; rw [Bool.eq_false_iff]; intro k
    have := (rises_iff _).1 k j (by simpa using hj)
    simp only [List.getElem_map] at this
    exact h2 this)
  have CY := Lib.hid (show (∀ j (hj : j + 1 < l.length), cmpB (an (l[j]'(by omega))) (an l[j + 1]) < 0) → true = r from fun h2 => by
    rw [hr]; symm; refine (rises_iff _).2 fun i hi => ?_
    simp only [List.getElem_map]; exact h2 i (by simpa using hi))
  rw [← hr]
  clear h hr
  go_enter Try.func75, Try.ntmps75
  go_wp2_with fail
  go_loopg [3, 7] l.length (fun gk vx vi wr => ∃ i : Nat, vi = .int .i64 (i : Int) ∧ (i + 1 ≤ l.length ∨ (i = 0 ∧ l.length = 0)) ∧ l.length - i ≤ gk ∧ Hid (Low w wr) ∧ Hid (∀ j (hj : j + 1 < l.length), j < i → cmpB (an (l[j]'(by omega))) (an l[j + 1]) < 0))
  case atStart => exact ⟨0, rfl, by omega, Nat.le_refl _, Lib.hid (Low.refl _), Lib.hid fun j hj h => absurd h (Nat.not_lt_zero _)⟩
  case round =>
    obtain ⟨i, rfl, hi, hg, G, K⟩ := hrel
    by_cases hlt : i + 1 < l.length
    · have zl : (i : Int) < (l.length : Int) - 1 := by omega
      have zi : (i : Int) + 1 < (l.length : Int) := by omega
      have zj : (i : Int) < (l.length : Int) := by omega
      have zk : (0 : Int) ≤ (i : Int) + 1 := by omega
      have HA2 := Lib.hid (RAs.low HA.out G.out)
      obtain ⟨b, o, qe, de, qv, dv, rfl, -, e0, -, -, -, -, -, -, -⟩ := RAs.at HA2.out (show i < l.length by omega)
      obtain ⟨b', o', -, -, -, -, hbo, -, d0, -, -, -, -, -, -, -⟩ := RAs.at HA2.out hlt
      simp only [Option.some.injEq, Addr.mk.injEq, and_true] at hbo
      obtain ⟨rfl, rfl⟩ := hbo
      have hgeq : ∀ TT, binOp .geq TT (.string (an l[i])) (.string (an l[i + 1])) = pure (.bool !(decide (cmpB (an l[i]) (an l[i + 1]) < 0))) := fun TT => geq_cmp TT _ _
      obtain ⟨q, hq⟩ : ∃ q, q = decide (cmpB (an l[i]) (an l[i + 1]) < 0) := ⟨_, rfl⟩
      rw [← hq] at hgeq
      have HQ := Lib.hid hq
      clear hq
      cases q with
      | true =>
        go_wp2_with fail
        go_quiet (fail)
        go_wp2_with fail
        go_roundg (l.length - (i + 1))
        case measure => omega
        case rel =>
          refine ⟨i + 1, by go_num, by omega, by omega, Lib.hid (low_drewN G.out _), Lib.hid fun j hj hji => ?_⟩
          rcases Nat.lt_succ_iff_lt_or_eq.1 hji with h | rfl
          · exact K.out j hj h
          · exact of_decide_eq_true HQ.out.symm
      | false =>
        have HF := Lib.hid (CN.out i hlt (by have := of_decide_eq_false HQ.out.symm; omega))
        go_wp2_with fail
        go_quiet (fail)
        go_wp2_with fail
        go_ret
        exact ⟨retB HF.out, low_drewN G.out _⟩
    · have zl : ¬ (i : Int) < (l.length : Int) - 1 := by omega
      have HF := Lib.hid (CY.out fun j hj => K.out j hj (by omega))
      go_wp2_with fail
      go_ret
      exact ⟨retB HF.out, G.out⟩
end Go.Proofs.Ytijjbfdbhfjfmaa
