/- The reference's lists: where a type or an action stands, what lies one step above, what is reached, whether all names are types. Condition: not too many names. -/
import Derived.Test.YtijjbfdbhfjfmaaScT
import Derived.Test.YtijjbfdbhfjfmaaAppR
namespace Go.Proofs.Ytijjbfdbhfjfmaa
open Go.RowKit
set_option linter.unusedVariables false
theorem eqN_iff {x y : Nm} : eqN x.s y = true ↔ y = x := by
  unfold eqN
  rw [decide_eq_true_iff]
  exact ⟨fun h => Nm.ext' h, fun h => by rw [h]⟩
theorem first_look {α : Type} (l : List α) (nm : α → Nm) (r : α → Nm × List Nm) (hr : ∀ a, (r a).1 = nm a) (x : Nm) : look (l.map r) x = (match l.findIdx? (fun t => eqN x.s (nm t)) with | some i => (l[i]?).map fun a => (r a).2 | none => none) := by
  induction l with
  | nil => rfl
  | cons a l ih =>
    rw [List.findIdx?_cons]
    unfold look
    rw [List.map_cons, List.find?_cons]
    by_cases e : nm a = x
    · have h1 : eqN x.s (nm a) = true := eqN_iff.2 e
      rw [h1, hr, decide_eq_true e]
      simp
    · have h1 : eqN x.s (nm a) = false := by
        rw [Bool.eq_false_iff]; exact fun h => e (eqN_iff.1 h)
      rw [h1, hr, decide_eq_false e]
      simp only [Bool.false_eq_true, if_false]
      show look (l.map r) x = _
      rw [ih]
      cases h : l.findIdx? fun t => eqN x.s (nm t) <;> simp
theorem first_nxt {α : Type} {l : List α} {nm : α → Nm} {r : α → Nm × List Nm} (hr : ∀ a, (r a).1 = nm a) {x : Nm} {i : Nat} (hi : i < l.length) (h : firstI l (fun t => eqN x.s (nm t)) = (i : Int)) : nxt (l.map r) x = (r l[i]).2 := by
  unfold nxt
  rw [first_look l nm r hr]
  unfold firstI at h
  cases e : l.findIdx? fun t => eqN x.s (nm t) with
  | none => rw [e] at h; simp at h
  | some j =>
    rw [e] at h
    have : j = i := by
      have h2 : (j : Int) = (i : Int) := h
      omega
    subst this
    simp [hi]
theorem first_none {α : Type} {l : List α} {nm : α → Nm} {r : α → Nm × List Nm} (hr : ∀ a, (r a).1 = nm a) {x : Nm} (h : firstI l (fun t => eqN x.s (nm t)) = -1) : nxt (l.map r) x = [] := by
  unfold nxt
  rw [first_look l nm r hr]
  unfold firstI at h
  cases e : l.findIdx? fun t => eqN x.s (nm t) with
  | none => rfl
  | some j => rw [e] at h; simp at h
theorem first_knows {α : Type} (l : List α) (nm : α → Nm) (r : α → Nm × List Nm) (hr : ∀ a, (r a).1 = nm a) (x : Nm) : (look (l.map r) x).isSome = decide (0 ≤ firstI l (fun t => eqN x.s (nm t))) := by
  rw [first_look l nm r hr]
  unfold firstI
  cases e : l.findIdx? fun t => eqN x.s (nm t) with
  | none => rfl
  | some j =>
    obtain ⟨hj, -⟩ := List.findIdx?_eq_some_iff_getElem.1 e
    simp [hj]
set_option maxHeartbeats 1600000 in
theorem rtype_c (n : Nat) (l : List Et) (x : ByteArray) (w : World) (vt va : Value) (h : EtsAt n w l vt) : Calls Try.prog 14 #[.agg #[vt, va], .string x] w fun e w' => e = .returned (.int .i64 (firstI l fun t => eqN x t.nm)) ∧ Low w w' := by
  obtain ⟨p, c, rfl, z1, z2⟩ := RowB.sl h
  obtain ⟨U, hU⟩ : ∃ U, U = w.alloc (.cells #[.slice p l.length c, va] 25) := ⟨_, rfl⟩
  have LU := Lib.hid (show Low w U by rw [hU]; exact low_new (Low.refl w) _)
  have HB := Lib.hid (show U.cell? ⟨w.heap.size, 0, none⟩ = some (.slice p l.length c) by rw [hU, World.cell?_alloc_mark]; rfl)
  have HA := Lib.hid h
  have HU := Lib.hid hU
  obtain ⟨r, hr⟩ : ∃ r, r = firstI l (fun t => eqN x t.nm) := ⟨_, rfl⟩
  have CS := Lib.hid (show ∀ i (hi : i < l.length), eqN x l[i].nm = true → (∀ j (hj : j < l.length), j < i → eqN x l[j].nm = false) → (i : Int) = r from fun i hi h1 h2 => by rw [hr, firstI_some (f := fun t : Et => eqN x t.nm) hi h1 h2])
  have CN := Lib.hid (show (∀ j (hj : j < l.length), eqN x l[j].nm = false) → -1 = r from fun h2 => by rw [hr, firstI_none (f := fun t : Et => eqN x t.nm) h2])
  rw [← hr]
  clear h hr hU
  go_enter Try.func14, Try.ntmps14
  go_upto_region 1 with fail
  rw [← HU.out]
  go_wp2_with fail
  go_loopg [5] l.length (fun gk vi wr => ∃ i : Nat, vi = .int .i64 (i : Int) ∧ i ≤ l.length ∧ l.length - i ≤ gk ∧ Hid (Low U wr) ∧ Hid (∀ j (hj : j < l.length), j < i → eqN x l[j].nm = false))
  case atStart => exact ⟨0, rfl, Nat.zero_le _, Nat.le_refl _, Lib.hid (Low.refl _), Lib.hid fun j hj h => absurd h (Nat.not_lt_zero _)⟩
  case round =>
    obtain ⟨i, rfl, hi, hg, G, K⟩ := hrel
    have b0 := G.out.keep HB.out
    by_cases hlt : i < l.length
    · have zl : (i : Int) < (l.length : Int) := by omega
      obtain ⟨b, o, pi, ci, pa, ca, rfl, e0, -, -, -, -, -, -, -, -⟩ := EtsAt.at (EtsAt.low HA.out (LU.out.trans G.out)) hlt
      obtain ⟨y, hy⟩ : ∃ y, y = l[i].nm := ⟨_, rfl⟩
      rw [← hy] at e0
      by_cases he : y.s = x
      · have HQ2 := Lib.hid (CS.out i hlt (by rw [← hy]; exact decide_eq_true he) K.out)
        rw [he] at e0
        clear hy
        go_wp2_with fail
        go_ret
        exact ⟨retI HQ2.out, LU.out.trans G.out⟩
      · have HQ := Lib.hid (show eqN x l[i].nm = false by rw [← hy]; exact decide_eq_false he)
        have he2 : ¬ y.s.toList = x.toList := fun h => he (tl_inj.1 h)
        have he3 : (y.s.toList == x.toList) = false := by simpa using he2
        clear hy he
        go_wp2_with fail
        go_roundg (l.length - (i + 1))
        case measure => omega
        case rel =>
          refine ⟨i + 1, by go_num, by omega, by omega, G, Lib.hid fun j hj hji => ?_⟩
          rcases Nat.lt_succ_iff_lt_or_eq.1 hji with h | rfl
          · exact K.out j hj h
          · exact HQ.out
    · have zl : ¬ (i : Int) < (l.length : Int) := by omega
      have HQ2 := Lib.hid (CN.out fun j hj => K.out j hj (by omega))
      go_wp2_with fail
      go_ret
      exact ⟨retI HQ2.out, LU.out.trans G.out⟩
set_option maxHeartbeats 1600000 in
theorem ract_c (n : Nat) (l : List Ac) (x : ByteArray) (w : World) (vt va : Value) (h : AcsAt n w l va) : Calls Try.prog 15 #[.agg #[vt, va], .string x] w fun e w' => e = .returned (.int .i64 (firstI l fun t => eqN x t.nm)) ∧ Low w w' := by
  obtain ⟨p, c, rfl, z1, z2⟩ := RowB.sl h
  obtain ⟨U, hU⟩ : ∃ U, U = w.alloc (.cells #[vt, .slice p l.length c] 25) := ⟨_, rfl⟩
  have LU := Lib.hid (show Low w U by rw [hU]; exact low_new (Low.refl w) _)
  have HB := Lib.hid (show U.cell? ⟨w.heap.size, 1, none⟩ = some (.slice p l.length c) by rw [hU, World.cell?_alloc_mark]; rfl)
  have HA := Lib.hid h
  have HU := Lib.hid hU
  obtain ⟨r, hr⟩ : ∃ r, r = firstI l (fun t => eqN x t.nm) := ⟨_, rfl⟩
  have CS := Lib.hid (show ∀ i (hi : i < l.length), eqN x l[i].nm = true → (∀ j (hj : j < l.length), j < i → eqN x l[j].nm = false) → (i : Int) = r from fun i hi h1 h2 => by rw [hr, firstI_some (f := fun t : Ac => eqN x t.nm) hi h1 h2])
  have CN := Lib.hid (show (∀ j (hj : j < l.length), eqN x l[j].nm = false) → -1 = r from fun h2 => by rw [hr, firstI_none (f := fun t : Ac => eqN x t.nm) h2])
  rw [← hr]
  clear h hr hU
  go_enter Try.func15, Try.ntmps15
  go_upto_region 1 with fail
  rw [← HU.out]
  go_wp2_with fail
  go_loopg [5] l.length (fun gk vi wr => ∃ i : Nat, vi = .int .i64 (i : Int) ∧ i ≤ l.length ∧ l.length - i ≤ gk ∧ Hid (Low U wr) ∧ Hid (∀ j (hj : j < l.length), j < i → eqN x l[j].nm = false))
  case atStart => exact ⟨0, rfl, Nat.zero_le _, Nat.le_refl _, Lib.hid (Low.refl _), Lib.hid fun j hj h => absurd h (Nat.not_lt_zero _)⟩
  case round =>
    obtain ⟨i, rfl, hi, hg, G, K⟩ := hrel
    have b0 := G.out.keep HB.out
    by_cases hlt : i < l.length
    · have zl : (i : Int) < (l.length : Int) := by omega
      obtain ⟨b, o, pi, ci, pp, cp, pr, cr, pa, ca, rfl, e0, -, -, -, -, -, -, -, -, -, -, -, -⟩ := AcsAt.at (AcsAt.low HA.out (LU.out.trans G.out)) hlt
      obtain ⟨y, hy⟩ : ∃ y, y = l[i].nm := ⟨_, rfl⟩
      rw [← hy] at e0
      by_cases he : y.s = x
      · have HQ2 := Lib.hid (CS.out i hlt (by rw [← hy]; exact decide_eq_true he) K.out)
        rw [he] at e0
        clear hy
        go_wp2_with fail
        go_ret
        exact ⟨retI HQ2.out, LU.out.trans G.out⟩
      · have HQ := Lib.hid (show eqN x l[i].nm = false by rw [← hy]; exact decide_eq_false he)
        have he2 : ¬ y.s.toList = x.toList := fun h => he (tl_inj.1 h)
        have he3 : (y.s.toList == x.toList) = false := by simpa using he2
        clear hy he
        go_wp2_with fail
        go_roundg (l.length - (i + 1))
        case measure => omega
        case rel =>
          refine ⟨i + 1, by go_num, by omega, by omega, G, Lib.hid fun j hj hji => ?_⟩
          rcases Nat.lt_succ_iff_lt_or_eq.1 hji with h | rfl
          · exact K.out j hj h
          · exact HQ.out
    · have zl : ¬ (i : Int) < (l.length : Int) := by omega
      have HQ2 := Lib.hid (CN.out fun j hj => K.out j hj (by omega))
      go_wp2_with fail
      go_ret
      exact ⟨retI HQ2.out, LU.out.trans G.out⟩
set_option maxHeartbeats 1600000 in
theorem rhas_c (l : List Nm) (x : Nm) (w : World) (v : Value) (h : NsAt w l v) : Calls Try.prog 41 #[v, .string x.s] w fun e w' => e = .returned (.bool (decide (x ∈ l))) ∧ Low w w' := by
  obtain ⟨p, c, rfl, z1, z2⟩ := RowB.sl h
  have HA := Lib.hid h
  obtain ⟨r, hr⟩ : ∃ r, r = decide (x ∈ l) := ⟨_, rfl⟩
  have CS := Lib.hid (show ∀ i (hi : i < l.length), l[i] = x → true = r from fun i hi h1 => by rw [hr, decide_eq_true (h1 ▸ List.getElem_mem hi)])
  have CN := Lib.hid (show (∀ j (hj : j < l.length), l[j] ≠ x) → false = r from fun h2 => by
    rw [hr, decide_eq_false]
    intro hm
    obtain ⟨j, hj, e⟩ := List.getElem_of_mem hm
    exact h2 j hj e)
  rw [← hr]
  clear h hr
  go_enter Try.func41, Try.ntmps41
  go_wp2_with fail
  go_loopg [5] l.length (fun gk vi wr => ∃ i : Nat, vi = .int .i64 (i : Int) ∧ i ≤ l.length ∧ l.length - i ≤ gk ∧ Hid (Low w wr) ∧ Hid (∀ j (hj : j < l.length), j < i → l[j] ≠ x))
  case atStart => exact ⟨0, rfl, Nat.zero_le _, Nat.le_refl _, Lib.hid (Low.refl _), Lib.hid fun j hj h => absurd h (Nat.not_lt_zero _)⟩
  case round =>
    obtain ⟨i, rfl, hi, hg, G, K⟩ := hrel
    by_cases hlt : i < l.length
    · have zl : (i : Int) < (l.length : Int) := by omega
      obtain ⟨b, o, rfl, e0⟩ := (HA.out.low G.out).at hlt
      obtain ⟨y, hy⟩ : ∃ y, y = l[i] := ⟨_, rfl⟩
      rw [← hy] at e0
      by_cases he : y = x
      · have HQ2 := Lib.hid (CS.out i hlt (by rw [← hy]; exact he))
        rw [he] at e0
        clear hy
        go_wp2_with fail
        go_ret
        exact ⟨retB HQ2.out, G.out⟩
      · have HQ := Lib.hid (show l[i] ≠ x by rw [← hy]; exact he)
        have he2 : ¬ y.s.toList = x.s.toList := fun h => he (Nm.ext' (tl_inj.1 h))
        have he3 : (y.s.toList == x.s.toList) = false := by simpa using he2
        clear hy he
        go_wp2_with fail
        go_roundg (l.length - (i + 1))
        case measure => omega
        case rel =>
          refine ⟨i + 1, by go_num, by omega, by omega, G, Lib.hid fun j hj hji => ?_⟩
          rcases Nat.lt_succ_iff_lt_or_eq.1 hji with h | rfl
          · exact K.out j hj h
          · exact HQ.out
    · have zl : ¬ (i : Int) < (l.length : Int) := by omega
      have HQ2 := Lib.hid (CN.out fun j hj => K.out j hj (by omega))
      go_wp2_with fail
      go_ret
      exact ⟨retB HQ2.out, G.out⟩
/-- What a call of next tells, in each later world the same. -/
structure NextC (w : World) (g : Gra) (s : Value) (q : Bool) (x : Nm) (p : Option Addr) (c : Nat) : Prop where
  row : NsAt w (nxt g x) (.slice p (nxt g x).length c)
  le : (nxt g x).length ≤ c ∧ c ≤ 9223372036854775807
  run : ∀ V, Low w V → Calls Try.prog 40 #[s, .bool q, .string x.s] V fun e w' => e = .returned (.slice p (nxt g x).length c) ∧ Low V w'
set_option maxHeartbeats 1600000 in
theorem rnextT (n : Nat) (l : List Et) (x : Nm) (w : World) (vt va : Value) (h : EtsAt n w l vt) : ∃ p c, NextC w (l.map Et.r) (.agg #[vt, va]) false x p c := by
  obtain ⟨p, c, rfl, z1, z2⟩ := RowB.sl h
  rcases firstI_cases l (fun t => eqN x.s t.nm) with ⟨i, hi, ha, -, -⟩ | ⟨ha, -⟩
  · have hnx : nxt (l.map Et.r) x = l[i].ins := first_nxt (nm := Et.nm) (r := Et.r) (fun _ => rfl) hi ha
    obtain ⟨b, o, pi, ci, pa, ca, rfl, e0, e1, e2, hns, -, y1, y2, -, -⟩ := EtsAt.at h hi
    refine ⟨pi, ci, by rw [hnx]; exact hns, by rw [hnx]; exact ⟨y1, y2⟩, fun V hl => ?_⟩
    rw [hnx]
    obtain ⟨U, hU⟩ : ∃ U, U = V.alloc (.cells #[.slice (some ⟨b, o, none⟩) l.length c, va] 25) := ⟨_, rfl⟩
    have LU := Lib.hid (show Low V U by rw [hU]; exact low_new (Low.refl V) _)
    have HC := Lib.hid (rtype_c n l x.s U _ va (h.low (hl.trans LU.out)))
    rw [ha] at HC
    have HB := Lib.hid fun (W : World) (l2 : Low U W) => box2 (w := V) (wr := W) (c0 := .slice (some ⟨b, o, none⟩) l.length c) (c1 := va) (t := 25) (by rw [← hU]; exact l2)
    have HU := Lib.hid hU
    have HE := Lib.hid e1
    have HL := Lib.hid hl
    obtain ⟨b0, b1⟩ := HB.out U (Low.refl U)
    have zl : (i : Int) < (l.length : Int) := by omega
    have zn : ¬ (i : Int) < 0 := by omega
    clear hU h ha hnx e1 hns hl
    go_enter Try.func40, Try.ntmps40
    go_upto_region 1 with fail
    rw [← HU.out]
    go_wp2_with fail
    refine HC.out.mono ?_
    rintro e w1 ⟨rfl, l1⟩
    clear b0 b1
    obtain ⟨b0, b1⟩ := HB.out w1 l1
    have f1 := (HL.out.trans (LU.out.trans l1)).keep HE.out
    have L1 := Lib.hid (LU.out.trans l1)
    clear l1
    go_wp2_with fail
    go_ret
    exact ⟨rfl, L1.out⟩
  · have hnx : nxt (l.map Et.r) x = [] := first_none (nm := Et.nm) (r := Et.r) (fun _ => rfl) ha
    refine ⟨none, 0, by rw [hnx]; exact NsAt.nil w, by rw [hnx]; simp, fun V hl => ?_⟩
    rw [hnx]
    obtain ⟨U, hU⟩ : ∃ U, U = V.alloc (.cells #[.slice p l.length c, va] 25) := ⟨_, rfl⟩
    have LU := Lib.hid (show Low V U by rw [hU]; exact low_new (Low.refl V) _)
    have HC := Lib.hid (rtype_c n l x.s U _ va (h.low (hl.trans LU.out)))
    rw [ha] at HC
    have HB := Lib.hid fun (W : World) (l2 : Low U W) => box2 (w := V) (wr := W) (c0 := .slice p l.length c) (c1 := va) (t := 25) (by rw [← hU]; exact l2)
    have HU := Lib.hid hU
    obtain ⟨b0, b1⟩ := HB.out U (Low.refl U)
    clear hU h ha hnx hl
    go_enter Try.func40, Try.ntmps40
    go_upto_region 1 with fail
    rw [← HU.out]
    go_wp2_with fail
    refine HC.out.mono ?_
    rintro e w1 ⟨rfl, l1⟩
    have L1 := Lib.hid (LU.out.trans l1)
    clear l1
    go_wp2_with fail
    go_ret
    exact ⟨rfl, L1.out⟩
set_option maxHeartbeats 1600000 in
theorem rnextA (n : Nat) (l : List Ac) (x : Nm) (w : World) (vt va : Value) (h : AcsAt n w l va) : ∃ p c, NextC w (l.map Ac.r) (.agg #[vt, va]) true x p c := by
  obtain ⟨p, c, rfl, z1, z2⟩ := RowB.sl h
  rcases firstI_cases l (fun t => eqN x.s t.nm) with ⟨i, hi, ha, -, -⟩ | ⟨ha, -⟩
  · have hnx : nxt (l.map Ac.r) x = l[i].ins := first_nxt (nm := Ac.nm) (r := Ac.r) (fun _ => rfl) hi ha
    obtain ⟨b, o, pi, ci, pp, cp, pr, cr, pa, ca, rfl, e0, e1, e2, e3, e4, hns, -, -, -, hle, -, -, -⟩ := AcsAt.at h hi
    refine ⟨pi, ci, by rw [hnx]; exact hns, by rw [hnx]; exact hle, fun V hl => ?_⟩
    rw [hnx]
    obtain ⟨U, hU⟩ : ∃ U, U = V.alloc (.cells #[vt, .slice (some ⟨b, o, none⟩) l.length c] 25) := ⟨_, rfl⟩
    have LU := Lib.hid (show Low V U by rw [hU]; exact low_new (Low.refl V) _)
    have HC := Lib.hid (ract_c n l x.s U vt _ (h.low (hl.trans LU.out)))
    rw [ha] at HC
    have HB := Lib.hid fun (W : World) (l2 : Low U W) => box2 (w := V) (wr := W) (c0 := vt) (c1 := .slice (some ⟨b, o, none⟩) l.length c) (t := 25) (by rw [← hU]; exact l2)
    have HU := Lib.hid hU
    have HE := Lib.hid e1
    have HL := Lib.hid hl
    obtain ⟨b0, b1⟩ := HB.out U (Low.refl U)
    have zl : (i : Int) < (l.length : Int) := by omega
    have zn : ¬ (i : Int) < 0 := by omega
    clear hU h ha hnx e1 hns hl
    go_enter Try.func40, Try.ntmps40
    go_upto_region 1 with fail
    rw [← HU.out]
    go_wp2_with fail
    refine HC.out.mono ?_
    rintro e w1 ⟨rfl, l1⟩
    clear b0 b1
    obtain ⟨b0, b1⟩ := HB.out w1 l1
    have f1 := (HL.out.trans (LU.out.trans l1)).keep HE.out
    have L1 := Lib.hid (LU.out.trans l1)
    clear l1
    go_wp2_with fail
    go_ret
    exact ⟨rfl, L1.out⟩
  · have hnx : nxt (l.map Ac.r) x = [] := first_none (nm := Ac.nm) (r := Ac.r) (fun _ => rfl) ha
    refine ⟨none, 0, by rw [hnx]; exact NsAt.nil w, by rw [hnx]; simp, fun V hl => ?_⟩
    rw [hnx]
    obtain ⟨U, hU⟩ : ∃ U, U = V.alloc (.cells #[vt, .slice p l.length c] 25) := ⟨_, rfl⟩
    have LU := Lib.hid (show Low V U by rw [hU]; exact low_new (Low.refl V) _)
    have HC := Lib.hid (ract_c n l x.s U vt _ (h.low (hl.trans LU.out)))
    rw [ha] at HC
    have HB := Lib.hid fun (W : World) (l2 : Low U W) => box2 (w := V) (wr := W) (c0 := vt) (c1 := .slice p l.length c) (t := 25) (by rw [← hU]; exact l2)
    have HU := Lib.hid hU
    obtain ⟨b0, b1⟩ := HB.out U (Low.refl U)
    clear hU h ha hnx hl
    go_enter Try.func40, Try.ntmps40
    go_upto_region 1 with fail
    rw [← HU.out]
    go_wp2_with fail
    refine HC.out.mono ?_
    rintro e w1 ⟨rfl, l1⟩
    have L1 := Lib.hid (LU.out.trans l1)
    clear l1
    go_wp2_with fail
    go_ret
    exact ⟨rfl, L1.out⟩
end Go.Proofs.Ytijjbfdbhfjfmaa
