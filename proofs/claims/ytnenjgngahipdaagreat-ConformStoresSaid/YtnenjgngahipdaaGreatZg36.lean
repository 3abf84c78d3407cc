/- A row of values gone on with by another one; the members of a set of two sets' members. No condition. The reference's lists: where a type or an action stands, what lies one step above, what is reached, whether all names are types. Condition: not too many names. The reference's Leads, ActionIn. Condition: not too many names. The reference's ActionIn, types, known, row. Conditions: not too many names; small types. -/
import Derived.Test.YtnenjgngahipdaaGreatZg00
import Derived.Laws.OwnMore
import Derived.Test.YtnenjgngahipdaaGreatZg11
import Derived.BigQuiet
import Derived.Test.YtnenjgngahipdaaGreatZg15
import Derived.Test.YtnenjgngahipdaaGreatZTyB
set_option linter.unusedVariables false
set_option linter.unusedSimpArgs false
set_option linter.unnecessarySimpa false
namespace Go.Proofs.YtnenjgngahipdaaGreat
open Go.RowKit
theorem run_append_zero {P : Program} {w : World} (base : Nat) (t ty e : TypeId) (i : TypeInfo) (size : Nat) (ht : P.underlying t = some (.slice e)) (hi : P.info? e = some i)
    (v : Value) (n : Nat) (xs : List Value) (hown : w.ownsRow base e size v n xs) (ao : Option Addr) (c : Nat) :
    (Builtin.append_ #[t, t] ty #[v, .slice ao 0 c]).run P w = .ok v w := by
  cases ao with
  | none =>
    rcases hown.2 with ⟨rfl, rfl⟩ | ⟨g, cap, cur, rfl, _, _, hnc, _⟩
    · simp [Builtin.append_, run_underlying ht, sizeOf, typeInfo, hi, Builtin.lenOf, Builtin.firstCells]
    · simp [Builtin.append_, run_underlying ht, sizeOf, typeInfo, hi, Builtin.lenOf, Builtin.firstCells, hnc, storeCells]
  | some ad =>
    have hfc := run_firstCells_some (P := P) w i.size 0 ad 0 c [] (by simp) (by simp)
    rcases hown.2 with ⟨rfl, rfl⟩ | ⟨g, cap, cur, rfl, _, _, hnc, _⟩
    · simp [Builtin.append_, run_underlying ht, sizeOf, typeInfo, hi, Builtin.lenOf, hfc]
    · simp [Builtin.append_, run_underlying ht, sizeOf, typeInfo, hi, Builtin.lenOf, hfc, hnc, storeCells]
section
variable {α : Type}
/-- append of a row: the row as it was and the other's; in the same block, or in a new one. -/
theorem appRs {e : TypeId} {k : Nat} {enc : α → List Value} {ops : Array Oper} {rest : List Oper} {o : Oper} {a : Act} {w : World} {Q : Exit → Act → World → Prop} (hgd : o.guard = none) (s x : Operand) (t : TypeId)
    (ho : o.op = .call { callee := .builtin .append, args := #[s, x], argTypes := #[t, t] }) (ht : Tryz.prog.underlying t = some (.slice e)) {z : Value} {bytes : Nat}
    (hinfo : (Tryz.prog.info? e).map (fun i => (i.zero, i.size, i.bytes)) = some (some z, k, bytes)) (hz : z.cells.size = k) (hk0 : 0 < k) (hby : bytes ≤ 1000)
    (hk : ∀ x, (enc x).length = k) (h1 : ∀ x, ∀ u ∈ enc x, u.oneCell' = true)
    (B : Nat) (v : Value) (l : List α) (hs : a.eval s = v) (hown : OwnR e k enc B w v l) (ys : List α) (ao : Option Addr) (c : Nat) (hx : a.eval x = .slice ao ys.length c)
    (hsrc : ys = [] ∨ ∃ ad, ao = some ad ∧ ∀ j u, (ys.flatMap enc)[j]? = some u → w.cell? (ad.add j) = some u) (hlen : l.length + ys.length ≤ 1000000) (hb : B ≤ w.heap.size)
    (h : ∀ v' w', OwnR e k enc B w' v' (l ++ ys) → Below B w w' → (∀ b, b < w.heap.size → some b ≠ v.ownBlock → w'.heap[b]? = w.heap[b]?) → wpList Tryz.prog ops Q rest (a.put o.dst v') w') :
    wpList Tryz.prog ops Q (o :: rest) a w := by
  obtain ⟨i0, hi, hz0, hz1, hz2⟩ := info_parts hinfo
  by_cases hys : ys = []
  · subst hys
    refine wpList_plain hgd fun K hK => ?_
    have hrun := run_append_zero (P := Tryz.prog) (w := w) B t o.type e i0 k ht hi v l.length (l.flatMap enc) hown ao c
    rw [List.length_nil] at hx
    unfold Oper.wp
    simp [execOp, ho, resolve, invoke, builtin, hs, hx, hrun, Result.andThen]
    exact hK _ _ (h v w (by rw [List.append_nil]; exact hown) (Below.refl _ _) fun _ _ _ => rfl)
  obtain ⟨ad, rfl, hnews⟩ := hsrc.resolve_left hys
  have hpos : 0 < ys.length := List.length_pos_iff.2 hys
  have hby2 : (l.length + ys.length) * bytes ≤ 140737488355328 := by
    have := Nat.mul_le_mul hlen hby
    omega
  have hnl : (ys.flatMap enc).length = ys.length * k := flat_len hk ys
  have h1s : ∀ u ∈ ys.flatMap enc, u.oneCell' = true := fun u hu => by
    obtain ⟨y, -, hy⟩ := List.mem_flatMap.1 hu
    exact h1 y u hy
  have happ : (l ++ ys).flatMap enc = l.flatMap enc ++ ys.flatMap enc := List.flatMap_append
  rcases hown.2 with ⟨rfl, hn⟩ | ⟨g, cap, cur, rfl, hbg, hg, hnc, hcm, hcs, htake⟩
  · have hl : l = [] := List.eq_nil_of_length_eq_zero hn
    subst hl
    refine wpList_append_grows w hgd s x t ho e i0 z k bytes ht hi hz0 hz1 hz2 hz hk0 none 0 0 [] hs (fun _ => ⟨rfl, rfl⟩) (by simp) (fun b hb => by simp at hb) ad ys.length c (ys.flatMap enc) hx hnl hnews h1s (by omega) (by unfold maxLen; simp only [List.length_nil] at hlen; omega) (by simpa using hby2) fun v' w' r1 r2 => ?_
    have r3 : OwnR e k enc w.heap.size w' v' ([] ++ ys) := by unfold OwnR; rw [happ, List.length_append]; exact r1
    exact h v' w' (r3.base hb) ((Below.refl _ _).grown r2 hb (by simp)) (fun b hb _ => r2.block b hb (by simp))
  · by_cases hroom : l.length + ys.length ≤ cap
    · refine wpList_append_fits w hgd s x t ho B e i0 k ht hi hz1 g l.length cap (l.flatMap enc) hs hown ad ys.length c (ys.flatMap enc) hx hnl hnews h1s hroom fun w' r1 r2 => ?_
      refine h _ w' ?_ ((Below.refl _ _).grown r2 hb fun k hk => by simp at hk; subst hk; exact hbg) (fun b hb hne => r2.block b hb hne)
      unfold OwnR; rw [happ, List.length_append]; exact r1
    · have holds : ∀ b, some (⟨g, 0, none⟩ : Addr) = some b → ∀ j u, (l.flatMap enc)[j]? = some u → w.cell? (b.add j) = some u := fun b hb => by
        simp only [Option.some.injEq] at hb
        subst hb
        exact World.ownsRow.cells hown (g := g) rfl
      refine wpList_append_grows w hgd s x t ho e i0 z k bytes ht hi hz0 hz1 hz2 hz hk0 (some ⟨g, 0, none⟩) l.length cap (l.flatMap enc) hs (fun h => by simp at h) hown.1 holds ad ys.length c (ys.flatMap enc) hx hnl hnews h1s (by omega) (by unfold maxLen; omega) hby2 fun v' w' r1 r2 => ?_
      have r3 : OwnR e k enc w.heap.size w' v' (l ++ ys) := by unfold OwnR; rw [happ, List.length_append]; exact r1
      exact h v' w' (r3.base hb) ((Below.refl _ _).grown r2 hb (by simp)) (fun b hb _ => r2.block b hb (by simp))
end
end Go.Proofs.YtnenjgngahipdaaGreat
namespace Go.Proofs.YtnenjgngahipdaaGreat
open Go.RowKit
set_option linter.unusedVariables false
theorem eqN_iff {x y : Nm} : eqN x.s y = true ↔ y = x := by
  unfold eqN
  rw [decide_eq_true_iff]
  exact ⟨fun h => Nm.ext' h, fun h => by rw [h]⟩
theorem first_look {α : Type} (l : List α) (nm : α → Nm) (r : α → Nm × List Nm) (hr : ∀ a, (r a).1 = nm a) (x : Nm) : look (l.map r) x = (match l.findIdx? (fun t => eqN x.s (nm t)) with | some i => (l[i]?).map fun a => (r a).2 | none => none) := by
  induction l with
  | nil => rfl
  | cons a l ih =>
    rw [List.findIdx?_cons]
    unfold look
    rw [List.map_cons, List.find?_cons]
    by_cases e : nm a = x
    · have h1 : eqN x.s (nm a) = true := eqN_iff.2 e
      rw [h1, hr, decide_eq_true e]
      simp
    · have h1 : eqN x.s (nm a) = false := by
        rw [Bool.eq_false_iff]; exact fun h => e (eqN_iff.1 h)
      rw [h1, hr, decide_eq_false e]
      simp only [Bool.false_eq_true, if_false]
      show look (l.map r) x = _
      rw [ih]
      cases h : l.findIdx? fun t => eqN x.s (nm t) <;> simp
theorem first_nxt {α : Type} {l : List α} {nm : α → Nm} {r : α → Nm × List Nm} (hr : ∀ a, (r a).1 = nm a) {x : Nm} {i : Nat} (hi : i < l.length) (h : firstI l (fun t => eqN x.s (nm t)) = (i : Int)) : nxt (l.map r) x = (r l[i]).2 := by
  unfold nxt
  rw [first_look l nm r hr]
  unfold firstI at h
  cases e : l.findIdx? fun t => eqN x.s (nm t) with
  | none => rw [e] at h; simp at h
  | some j =>
    rw [e] at h
    have : j = i := by
      have h2 : (j : Int) = (i : Int) := h
      omega
    subst this
    simp [hi]
theorem first_none {α : Type} {l : List α} {nm : α → Nm} {r : α → Nm × List Nm} (hr : ∀ a, (r a).1 = nm a) {x : Nm} (h : firstI l (fun t => eqN x.s (nm t)) = -1) : nxt (l.map r) x = [] := by
  unfold nxt
  rw [first_look l nm r hr]
  unfold firstI at h
  cases e : l.findIdx? fun t => eqN x.s (nm t) with
  | none => rfl
  | some j => rw [e] at h; simp at h
theorem first_knows {α : Type} (l : List α) (nm : α → Nm) (r : α → Nm × List Nm) (hr : ∀ a, (r a).1 = nm a) (x : Nm) : (look (l.map r) x).isSome = decide (0 ≤ firstI l (fun t => eqN x.s (nm t))) := by
  rw [first_look l nm r hr]
  unfold firstI
  cases e : l.findIdx? fun t => eqN x.s (nm t) with
  | none => rfl
  | some j =>
    obtain ⟨hj, -⟩ := List.findIdx?_eq_some_iff_getElem.1 e
    simp [hj]
set_option maxHeartbeats 1600000 in
theorem rtype_c (n : Nat) (l : List Et) (x : ByteArray) (w : World) (vt va : Value) (h : EtsAt n w l vt) : Calls Tryz.prog 36 #[.agg #[vt, va], .string x] w fun e w' => e = .returned (.int .i64 (firstI l fun t => eqN x t.nm)) ∧ Low w w' := by
  obtain ⟨p, c, rfl, z1, z2⟩ := RowB.sl h
  obtain ⟨U, hU⟩ : ∃ U, U = w.alloc (.cells #[.slice p l.length c, va] 46) := ⟨_, rfl⟩
  have LU := Lib.hid (show Low w U by rw [hU]; exact low_new (Low.refl w) _)
  have HB := Lib.hid (show U.cell? ⟨w.heap.size, 0, none⟩ = some (.slice p l.length c) by rw [hU, World.cell?_alloc_mark]; rfl)
  have HA := Lib.hid h
  have HU := Lib.hid hU
  obtain ⟨r, hr⟩ : ∃ r, r = firstI l (fun t => eqN x t.nm) := ⟨_, rfl⟩
  have CS := Lib.hid (show ∀ i (hi : i < l.length), eqN x l[i].nm = true → (∀ j (hj : j < l.length), j < i → eqN x l[j].nm = false) → (i : Int) = r from fun i hi h1 h2 => by rw [hr, firstI_some (f := fun t : Et => eqN x t.nm) hi h1 h2])
  have CN := Lib.hid (show (∀ j (hj : j < l.length), eqN x l[j].nm = false) → -1 = r from fun h2 => by rw [hr, firstI_none (f := fun t : Et => eqN x t.nm) h2])
  rw [← hr]
  clear h hr hU
  go_enter Tryz.func36, Tryz.ntmps36
  go_upto_region 1 with fail
  rw [← HU.out]
  go_wp2_with fail
  go_loopg [5] l.length (fun gk vi wr => ∃ i : Nat, vi = .int .i64 (i : Int) ∧ i ≤ l.length ∧ l.length - i ≤ gk ∧ Hid (Low U wr) ∧ Hid (∀ j (hj : j < l.length), j < i → eqN x l[j].nm = false))
  case atStart => exact ⟨0, rfl, Nat.zero_le _, Nat.le_refl _, Lib.hid (Low.refl _), Lib.hid fun j hj h => absurd h (Nat.not_lt_zero _)⟩
  case round =>
    obtain ⟨i, rfl, hi, hg, G, K⟩ := hrel
    have b0 := G.out.keep HB.out
    by_cases hlt : i < l.length
    · have zl : (i : Int) < (l.length : Int) := by omega
      obtain ⟨b, o, pi, ci, pa, ca, rfl, e0, -, -, -, -, -, -, -, -⟩ := EtsAt.at (EtsAt.low HA.out (LU.out.trans G.out)) hlt
      obtain ⟨y, hy⟩ : ∃ y, y = l[i].nm := ⟨_, rfl⟩
      rw [← hy] at e0
      by_cases he : y.s = x
      · have HQ2 := Lib.hid (CS.out i hlt (by rw [← hy]; exact decide_eq_true he) K.out)
        rw [he] at e0
        clear hy
        go_wp2_with fail
        go_ret
        exact ⟨retI HQ2.out, LU.out.trans G.out⟩
      · have HQ := Lib.hid (show eqN x l[i].nm = false by rw [← hy]; exact decide_eq_false he)
        have he2 : ¬ y.s.toList = x.toList := fun h => he (tl_inj.1 h)
        have he3 : (y.s.toList == x.toList) = false := by simpa using he2
        clear hy he
        go_wp2_with fail
        go_roundg (l.length - (i + 1))
        case measure => omega
        case rel =>
          refine ⟨i + 1, by go_num, by omega, by omega, G, Lib.hid fun j hj hji => ?_⟩
          rcases Nat.lt_succ_iff_lt_or_eq.1 hji with h | rfl
          · exact K.out j hj h
          · exact HQ.out
    · have zl : ¬ (i : Int) < (l.length : Int) := by omega
      have HQ2 := Lib.hid (CN.out fun j hj => K.out j hj (by omega))
      go_wp2_with fail
      go_ret
      exact ⟨retI HQ2.out, LU.out.trans G.out⟩
set_option maxHeartbeats 1600000 in
theorem ract_c (n : Nat) (l : List Ac) (x : ByteArray) (w : World) (vt va : Value) (h : AcsAt n w l va) : Calls Tryz.prog 37 #[.agg #[vt, va], .string x] w fun e w' => e = .returned (.int .i64 (firstI l fun t => eqN x t.nm)) ∧ Low w w' := by
  obtain ⟨p, c, rfl, z1, z2⟩ := RowB.sl h
  obtain ⟨U, hU⟩ : ∃ U, U = w.alloc (.cells #[vt, .slice p l.length c] 46) := ⟨_, rfl⟩
  have LU := Lib.hid (show Low w U by rw [hU]; exact low_new (Low.refl w) _)
  have HB := Lib.hid (show U.cell? ⟨w.heap.size, 1, none⟩ = some (.slice p l.length c) by rw [hU, World.cell?_alloc_mark]; rfl)
  have HA := Lib.hid h
  have HU := Lib.hid hU
  obtain ⟨r, hr⟩ : ∃ r, r = firstI l (fun t => eqN x t.nm) := ⟨_, rfl⟩
  have CS := Lib.hid (show ∀ i (hi : i < l.length), eqN x l[i].nm = true → (∀ j (hj : j < l.length), j < i → eqN x l[j].nm = false) → (i : Int) = r from fun i hi h1 h2 => by rw [hr, firstI_some (f := fun t : Ac => eqN x t.nm) hi h1 h2])
  have CN := Lib.hid (show (∀ j (hj : j < l.length), eqN x l[j].nm = false) → -1 = r from fun h2 => by rw [hr, firstI_none (f := fun t : Ac => eqN x t.nm) h2])
  rw [← hr]
  clear h hr hU
  go_enter Tryz.func37, Tryz.ntmps37
  go_upto_region 1 with fail
  rw [← HU.out]
  go_wp2_with fail
  go_loopg [5] l.length (fun gk vi wr => ∃ i : Nat, vi = .int .i64 (i : Int) ∧ i ≤ l.length ∧ l.length - i ≤ gk ∧ Hid (Low U wr) ∧ Hid (∀ j (hj : j < l.length), j < i → eqN x l[j].nm = false))
  case atStart => exact ⟨0, rfl, Nat.zero_le _, Nat.le_refl _, Lib.hid (Low.refl _), Lib.hid fun j hj h => absurd h (Nat.not_lt_zero _)⟩
  case round =>
    obtain ⟨i, rfl, hi, hg, G, K⟩ := hrel
    have b0 := G.out.keep HB.out
    by_cases hlt : i < l.length
    · have zl : (i : Int) < (l.length : Int) := by omega
      obtain ⟨b, o, pi, ci, pp, cp, pr, cr, pa, ca, rfl, e0, -, -, -, -, -, -, -, -, -, -, -, -⟩ := AcsAt.at (AcsAt.low HA.out (LU.out.trans G.out)) hlt
      obtain ⟨y, hy⟩ : ∃ y, y = l[i].nm := ⟨_, rfl⟩
      rw [← hy] at e0
      by_cases he : y.s = x
      · have HQ2 := Lib.hid (CS.out i hlt (by rw [← hy]; exact decide_eq_true he) K.out)
        rw [he] at e0
        clear hy
        go_wp2_with fail
        go_ret
        exact ⟨retI HQ2.out, LU.out.trans G.out⟩
      · have HQ := Lib.hid (show eqN x l[i].nm = false by rw [← hy]; exact decide_eq_false he)
        have he2 : ¬ y.s.toList = x.toList := fun h => he (tl_inj.1 h)
        have he3 : (y.s.toList == x.toList) = false := by simpa using he2
        clear hy he
        go_wp2_with fail
        go_roundg (l.length - (i + 1))
        case measure => omega
        case rel =>
          refine ⟨i + 1, by go_num, by omega, by omega, G, Lib.hid fun j hj hji => ?_⟩
          rcases Nat.lt_succ_iff_lt_or_eq.1 hji with h | rfl
          · exact K.out j hj h
          · exact HQ.out
    · have zl : ¬ (i : Int) < (l.length : Int) := by omega
      have HQ2 := Lib.hid (CN.out fun j hj => K.out j hj (by omega))
      go_wp2_with fail
      go_ret
      exact ⟨retI HQ2.out, LU.out.trans G.out⟩
set_option maxHeartbeats 1600000 in
theorem rhas_c (l : List Nm) (x : Nm) (w : World) (v : Value) (h : NsAt w l v) : Calls Tryz.prog 68 #[v, .string x.s] w fun e w' => e = .returned (.bool (decide (x ∈ l))) ∧ Low w w' := by
  obtain ⟨p, c, rfl, z1, z2⟩ := RowB.sl h
  have HA := Lib.hid h
  obtain ⟨r, hr⟩ : ∃ r, r = decide (x ∈ l) := ⟨_, rfl⟩
  have CS := Lib.hid (show ∀ i (hi : i < l.length), l[i] = x → true = r from fun i hi h1 => by rw [hr, decide_eq_true (h1 ▸ List.getElem_mem hi)])
  have CN := Lib.hid (show (∀ j (hj : j < l.length), l[j] ≠ x) → false = r from fun h2 => by
    rw [hr, decide_eq_false]
    intro hm
    obtain ⟨j, hj, e⟩ := List.getElem_of_mem hm
    exact h2 j hj e)
  rw [← hr]
  clear h hr
  go_enter Tryz.func68, Tryz.ntmps68
  go_wp2_with fail
  go_loopg [5] l.length (fun gk vi wr => ∃ i : Nat, vi = .int .i64 (i : Int) ∧ i ≤ l.length ∧ l.length - i ≤ gk ∧ Hid (Low w wr) ∧ Hid (∀ j (hj : j < l.length), j < i → l[j] ≠ x))
  case atStart => exact ⟨0, rfl, Nat.zero_le _, Nat.le_refl _, Lib.hid (Low.refl _), Lib.hid fun j hj h => absurd h (Nat.not_lt_zero _)⟩
  case round =>
    obtain ⟨i, rfl, hi, hg, G, K⟩ := hrel
    by_cases hlt : i < l.length
    · have zl : (i : Int) < (l.length : Int) := by omega
      obtain ⟨b, o, rfl, e0⟩ := (HA.out.low G.out).at hlt
      obtain ⟨y, hy⟩ : ∃ y, y = l[i] := ⟨_, rfl⟩
      rw [← hy] at e0
      by_cases he : y = x
      · have HQ2 := Lib.hid (CS.out i hlt (by rw [← hy]; exact he))
        rw [he] at e0
        clear hy
        go_wp2_with fail
        go_ret
        exact ⟨retB HQ2.out, G.out⟩
      · have HQ := Lib.hid (show l[i] ≠ x by rw [← hy]; exact he)
        have he2 : ¬ y.s.toList = x.s.toList := fun h => he (Nm.ext' (tl_inj.1 h))
        have he3 : (y.s.toList == x.s.toList) = false := by simpa using he2
        clear hy he
        go_wp2_with fail
        go_roundg (l.length - (i + 1))
        case measure => omega
        case rel =>
          refine ⟨i + 1, by go_num, by omega, by omega, G, Lib.hid fun j hj hji => ?_⟩
          rcases Nat.lt_succ_iff_lt_or_eq.1 hji with h | rfl
          · exact K.out j hj h
          · exact HQ.out
    · have zl : ¬ (i : Int) < (l.length : Int) := by omega
      have HQ2 := Lib.hid (CN.out fun j hj => K.out j hj (by omega))
      go_wp2_with fail
      go_ret
      exact ⟨retB HQ2.out, G.out⟩
/-- What a call of next tells, in each later world the same. -/
structure NextC (w : World) (g : Gra) (s : Value) (q : Bool) (x : Nm) (p : Option Addr) (c : Nat) : Prop where
  row : NsAt w (nxt g x) (.slice p (nxt g x).length c)
  le : (nxt g x).length ≤ c ∧ c ≤ 9223372036854775807
  run : ∀ V, Low w V → Calls Tryz.prog 67 #[s, .bool q, .string x.s] V fun e w' => e = .returned (.slice p (nxt g x).length c) ∧ Low V w'
set_option maxHeartbeats 1600000 in
theorem rnextA (n : Nat) (l : List Ac) (x : Nm) (w : World) (vt va : Value) (h : AcsAt n w l va) : ∃ p c, NextC w (l.map Ac.r) (.agg #[vt, va]) true x p c := by
  obtain ⟨p, c, rfl, z1, z2⟩ := RowB.sl h
  rcases firstI_cases l (fun t => eqN x.s t.nm) with ⟨i, hi, ha, -, -⟩ | ⟨ha, -⟩
  · have hnx : nxt (l.map Ac.r) x = l[i].ins := first_nxt (nm := Ac.nm) (r := Ac.r) (fun _ => rfl) hi ha
    obtain ⟨b, o, pi, ci, pp, cp, pr, cr, pa, ca, rfl, e0, e1, e2, e3, e4, hns, -, -, -, hle, -, -, -⟩ := AcsAt.at h hi
    refine ⟨pi, ci, by rw [hnx]; exact hns, by rw [hnx]; exact hle, fun V hl => ?_⟩
    rw [hnx]
    obtain ⟨U, hU⟩ : ∃ U, U = V.alloc (.cells #[vt, .slice (some ⟨b, o, none⟩) l.length c] 46) := ⟨_, rfl⟩
    have LU := Lib.hid (show Low V U by rw [hU]; exact low_new (Low.refl V) _)
    have HC := Lib.hid (ract_c n l x.s U vt _ (h.low (hl.trans LU.out)))
    rw [ha] at HC
    have HB := Lib.hid fun (W : World) (l2 : Low U W) => box2 (w := V) (wr := W) (c0 := vt) (c1 := .slice (some ⟨b, o, none⟩) l.length c) (t := 46) (by rw [← hU]; exact l2)
    have HU := Lib.hid hU
    have HE := Lib.hid e1
    have HL := Lib.hid hl
    obtain ⟨b0, b1⟩ := HB.out U (Low.refl U)
    have zl : (i : Int) < (l.length : Int) := by omega
    have zn : ¬ (i : Int) < 0 := by omega
    clear hU h ha hnx e1 hns hl
    go_enter Tryz.func67, Tryz.ntmps67
    go_upto_region 1 with fail
    rw [← HU.out]
    go_wp2_with fail
    refine HC.out.mono ?_
    rintro e w1 ⟨rfl, l1⟩
    clear b0 b1
    obtain ⟨b0, b1⟩ := HB.out w1 l1
    have f1 := (HL.out.trans (LU.out.trans l1)).keep HE.out
    have L1 := Lib.hid (LU.out.trans l1)
    clear l1
    go_wp2_with fail
    go_ret
    exact ⟨rfl, L1.out⟩
  · have hnx : nxt (l.map Ac.r) x = [] := first_none (nm := Ac.nm) (r := Ac.r) (fun _ => rfl) ha
    refine ⟨none, 0, by rw [hnx]; exact NsAt.nil w, by rw [hnx]; simp, fun V hl => ?_⟩
    rw [hnx]
    obtain ⟨U, hU⟩ : ∃ U, U = V.alloc (.cells #[vt, .slice p l.length c] 46) := ⟨_, rfl⟩
    have LU := Lib.hid (show Low V U by rw [hU]; exact low_new (Low.refl V) _)
    have HC := Lib.hid (ract_c n l x.s U vt _ (h.low (hl.trans LU.out)))
    rw [ha] at HC
    have HB := Lib.hid fun (W : World) (l2 : Low U W) => box2 (w := V) (wr := W) (c0 := vt) (c1 := .slice p l.length c) (t := 46) (by rw [← hU]; exact l2)
    have HU := Lib.hid hU
    obtain ⟨b0, b1⟩ := HB.out U (Low.refl U)
    clear hU h ha hnx hl
    go_enter Tryz.func67, Tryz.ntmps67
    go_upto_region 1 with fail
    rw [← HU.out]
    go_wp2_with fail
    refine HC.out.mono ?_
    rintro e w1 ⟨rfl, l1⟩
    have L1 := Lib.hid (LU.out.trans l1)
    clear l1
    go_wp2_with fail
    go_ret
    exact ⟨rfl, L1.out⟩
end Go.Proofs.YtnenjgngahipdaaGreat
namespace Go.Proofs.YtnenjgngahipdaaGreat
open Go.RowKit
set_option linter.unusedVariables false
theorem own_ns {B : Nat} {w : World} {v : Value} {L : List Nm} (h : OwnN B w v L) : NsAt w L v := by
  obtain ⟨ao, cap, rfl, h1, h2, hx⟩ := h.shape
  refine ⟨ao, cap, rfl, ⟨h1, h2⟩, fun j hj => ?_⟩
  rcases hx with h0 | ⟨g3, rfl, -, -⟩
  · rw [h0] at hj; exact absurd hj (Nat.not_lt_zero _)
  · refine ⟨g3, 0, (), rfl, fun c u hu => ?_, trivial⟩
    have hc : c = 0 := by
      cases c with
      | zero => rfl
      | succ c => simp [encNm] at hu
    subst hc
    have := h.cell encS_len j 0 hj (by omega)
    rw [Nat.zero_add, Nat.add_zero]
    exact this.trans hu
theorem ns_src {w : World} {ys : List Nm} {p : Option Addr} {m c : Nat} (h : NsAt w ys (.slice p m c)) : ys = [] ∨ ∃ ad, p = some ad ∧ ∀ j u, (ys.flatMap encS)[j]? = some u → w.cell? (ad.add j) = some u := by
  cases ys with
  | nil => exact .inl rfl
  | cons y ys =>
    obtain ⟨b, o, rfl, -⟩ := h.at (j := 0) (by simp)
    refine .inr ⟨_, rfl, fun j u hu => ?_⟩
    have hj : j < (y :: ys).length := by
      have := (List.getElem?_eq_some_iff.1 hu).1
      rwa [flat_len encS_len, Nat.mul_one] at this
    obtain ⟨b2, o2, hb, hc⟩ := h.at hj
    simp only [Option.some.injEq, Addr.mk.injEq] at hb
    obtain ⟨rfl, rfl, -⟩ := hb
    have hf := flat_at encS_len (y :: ys) j 0 hj (by omega)
    rw [Nat.mul_one, Nat.add_zero, hu] at hf
    have hu2 : u = .string ((y :: ys)[j]).s := by simpa [encS] using hf
    rw [hu2, Addr.add_lit]
    exact hc
set_option maxRecDepth 100000 in
set_option maxHeartbeats 3200000 in
theorem rleads_c (g : Gra) (q : Bool) (low high : Nm) (w : World) (vt va : Value) (hg : FewG g) (HN : ∀ x, ∃ p c, NextC w g (.agg #[vt, va]) q x p c) : Calls Tryz.prog 41 #[.agg #[vt, va], .bool q, .string low.s, .string high.s] w fun e w' => e = .returned (.bool (ways g low high)) ∧ Low w w' := by
  obtain ⟨U, hU⟩ : ∃ U, U = w.alloc (.cells #[vt, va] 46) := ⟨_, rfl⟩
  have LU := Lib.hid (show Low w U by rw [hU]; exact low_new (Low.refl w) _)
  have HB := Lib.hid fun (W : World) (l2 : Low U W) => box2 (w := w) (wr := W) (c0 := vt) (c1 := va) (t := 46) (by rw [← hU]; exact l2)
  have hUs : w.heap.size + 1 = U.heap.size := by rw [hU]; simp
  have HU := Lib.hid hU
  have HNX := Lib.hid HN
  have HG := Lib.hid hg
  obtain ⟨p0, c0, N0⟩ := HN low
  have HN0 := Lib.hid N0
  have HR0 := Lib.hid (N0.run U LU.out)
  obtain ⟨y1, y2⟩ := N0.le
  clear HN hg hU N0
  obtain ⟨b0, b1⟩ := HB.out U (Low.refl U)
  go_enter Tryz.func41, Tryz.ntmps41
  go_upto_region 1 with fail
  rw [← HU.out]
  have hnl := nxt_len HG.out low
  go_wp2_with (first
    | (go_at_call 67; refine HR0.out.mono ?_; rintro e w1 ⟨rfl, l1⟩; have L1 := Lib.hid l1; clear l1)
    | (at_builtin; go_loud (refine appRs rfl _ _ _ rfl Tryz.underlying25 s_info rfl (by decide) (by decide) encS_len encS_one U.heap.size _ [] rfl (OwnR.nil _ _ _ _ _) (nxt g low) p0 c0 rfl (ns_src (HN0.out.row.low (LU.out.trans L1.out))) (by simp; omega) L1.out.size ?_); intro v5 w5 O5 B5 K5))
  have HO5 := Lib.hid (show OwnN U.heap.size w5 v5 (nxt g low) from O5)
  have HL5 := Lib.hid (low_setN L1.out B5 (Nat.le_refl _))
  have hs5 : U.heap.size ≤ w5.heap.size := HL5.out.size
  have HB5 := Lib.hid (show Bf g low (nxt g low) (nxt g low) 0 from ⟨fun r hr => .one hr, fun x hx => .inr hx, fun r hr => hr, by intro k x hk; omega⟩)
  clear O5 B5 K5 b0 b1
  go_loopg [9, 10] 20002 (fun gk vl vi wr => ∃ (i : Nat) (R' : List Nm), vi = .int .i64 (i : Int) ∧ i ≤ (nxt g low).length + R'.length ∧ 20002 - i ≤ gk ∧ Hid R'.Nodup ∧ Hid (Low U wr) ∧ Hid (OwnN U.heap.size wr vl (nxt g low ++ R')) ∧ Hid (Bf g low (nxt g low ++ R') (nxt g low ++ R') i))
  case atStart => exact ⟨0, [], rfl, by omega, by omega, Lib.hid List.nodup_nil, HL5, Lib.hid (by rw [List.append_nil]; exact HO5.out), Lib.hid (by rw [List.append_nil]; exact HB5.out)⟩
  case round =>
    clear HO5 HL5 hs5 HB5
    obtain ⟨i, R', rfl, hi, hgk, HN, LL, OO, BB⟩ := hrel
    have hRl : R'.length ≤ 10000 := Nat.le_trans (len_sub R' (tot g) HN.out fun r hr => BB.out.len r (List.mem_append.2 (.inr hr))) (tot_len HG.out)
    obtain ⟨ao, cap, rfl, hc1, hc2, hx⟩ := OO.out.shape
    have HLN := Lib.hid (show (nxt g low ++ R').length = (nxt g low).length + R'.length from List.length_append)
    rw [HLN.out] at hc1 OO ⊢
    by_cases hlt : i < (nxt g low).length + R'.length
    · have zl : (i : Int) < ((nxt g low).length : Int) + (R'.length : Int) := by omega
      rcases hx with h0 | ⟨g3, rfl, hg3, hg4⟩
      · rw [h0] at HLN
        have := HLN.out
        simp at this
        omega
      obtain ⟨x, hx⟩ : ∃ x, x = (nxt g low ++ R')[i]'(by rw [HLN.out]; exact hlt) := ⟨_, rfl⟩
      have d0 := OO.out.cell encS_len i 0 (by rw [HLN.out]; exact hlt) (by omega)
      rw [← hx] at d0
      replace d0 : wr.cell? ⟨g3, i, none⟩ = some (.string x.s) := by
        have e : (encS x)[0]? = some (.string x.s) := rfl
        rw [e, Nat.mul_one, Nat.add_zero] at d0
        exact d0
      have HT := Lib.hid (BB.out.take (x := x) (by rw [List.getElem?_eq_getElem (by rw [HLN.out]; exact hlt), hx]))
      obtain ⟨p1, c1, N1⟩ := HNX.out x
      obtain ⟨y3, y4⟩ := N1.le
      have HNS := Lib.hid N1.row
      have HC := Lib.hid fun (W : World) (hl : Low wr W) => N1.run W (LU.out.trans (LL.out.trans hl))
      obtain ⟨b0, b1⟩ := HB.out wr LL.out
      clear hx N1
      go_upto_region 6 with fail
      have d0 := fun z : InL wr => z.cell d0
      have b0 := fun z : InL wr => z.cell b0
      have b1 := fun z : InL wr => z.cell b1
      have HCQ := Lib.hid fun z : InL wr => Calls.low z (HC.out z.w z.ok)
      haveI := InL.some wr
      refine wp_region_low mixedT (by kernel_rfl) ?_
      repeat (go_big_quiet_step (with_reducible exact HCQ.out _))
      refine wpQuiet_nil ?_
      rintro W8 ⟨p8, hW8⟩
      have l8 : Low wr W8 := by rw [hW8]; exact p8.ok
      have L8 := Lib.hid (LL.out.trans l8)
      have O8 := Lib.hid (OwnR.low OO.out l8)
      clear hW8 p8 HC HCQ d0 b0 b1 this l8 LL OO
      go_wp2_with fail
      rename World => wo
      go_loopg [9, 12] (nxt g x).length (fun gj vl vj wi => ∃ (j : Nat) (R2 : List Nm), vj = .int .i64 (j : Int) ∧ j ≤ (nxt g x).length ∧ (nxt g x).length - j ≤ gj ∧ Hid R2.Nodup ∧ Hid (Low U wi) ∧ Hid (OwnN U.heap.size wi vl (nxt g low ++ R2)) ∧ Hid (Bi g low (nxt g low ++ R2) (nxt g low ++ R2) i x j))
      case atStart => exact ⟨0, R', rfl, by omega, by omega, HN, L8, O8, HT⟩
      case round =>
        clear HN L8 O8 HT BB hRl HLN hi hlt zl hc1 hc2
        obtain ⟨j, R2, rfl, hj, hgj, HN, LL, OO, BB⟩ := hrel
        have hlR : R2.length ≤ 10000 := Nat.le_trans (len_sub R2 (tot g) HN.out fun r hr => BB.out.b.len r (List.mem_append.2 (.inr hr))) (tot_len HG.out)
        have HLN := Lib.hid (show (nxt g low ++ R2).length = (nxt g low).length + R2.length from List.length_append)
        have hiR : i < (nxt g low).length + R2.length := by have := (List.getElem?_eq_some_iff.1 BB.out.atx).1; rwa [HLN.out] at this
        obtain ⟨ao4, cap4, rfl, -, -, -⟩ := OO.out.shape
        rw [HLN.out] at OO ⊢
        by_cases hlt : j < (nxt g x).length
        · have zl : (j : Int) < ((nxt g x).length : Int) := by omega
          obtain ⟨yb, yo, rfl, e0⟩ := (HNS.out.low (LU.out.trans LL.out)).at hlt
          obtain ⟨y, hy⟩ : ∃ y, y = (nxt g x)[j] := ⟨_, rfl⟩
          rw [← hy] at e0
          have HY := Lib.hid hy.symm
          clear hy
          have HH := Lib.hid (rhas_c (nxt g low ++ R2) y wr _ (own_ns OO.out))
          by_cases hq : y ∈ nxt g low ++ R2
          · rw [decide_eq_true hq] at HH
            have HBN := Lib.hid (BB.out.old hlt HY.out hq)
            clear hq
            go_wp2_with fail
            refine HH.out.mono ?_
            rintro e w2 ⟨rfl, l2⟩
            have L2 := Lib.hid (LL.out.trans l2)
            have O2 := Lib.hid (OwnR.low OO.out l2)
            clear l2
            go_wp2_with fail
            go_roundg ((nxt g x).length - (j + 1))
            case measure => omega
            case rel => exact ⟨j + 1, R2, by go_num, by omega, by omega, HN, L2, O2, HBN⟩
          · rw [decide_eq_false hq] at HH
            have HBN := Lib.hid (BB.out.new hlt HY.out)
            have HNN := Lib.hid (show (R2 ++ [y]).Nodup by
              rw [List.nodup_append]
              refine ⟨HN.out, by simp, fun a ha d hd => ?_⟩
              simp at hd
              rw [hd]
              exact fun e => hq (List.mem_append.2 (.inr (e ▸ ha))))
            clear hq
            go_wp2_with fail
            refine HH.out.mono ?_
            rintro e w2 ⟨rfl, l2⟩
            have L2 := Lib.hid (LL.out.trans l2)
            have O2 := Lib.hid (OwnR.low OO.out l2)
            have e0 := l2.keep e0
            have hu2 : U.heap.size ≤ w2.heap.size := L2.out.size
            clear l2
            go_wp2_with (at_builtin; go_loud (refine appR rfl _ _ _ rfl Tryz.underlying25 s_info rfl (by decide) (by decide) encS_len encS_one U.heap.size _ (nxt g low ++ R2) rfl (OwnR.alloc O2.out _) y ⟨w2.heap.size, 0, none⟩ 1 rfl (fun j u hj => newcell_at _ _ _ _ _ rfl hj) (by rw [HLN.out]; omega) (by simp; omega) ?_); intro v5 w5 O5 B5 K5 N5)
            have HO5 := Lib.hid (show OwnN U.heap.size w5 v5 (nxt g low ++ (R2 ++ [y])) by rw [← List.append_assoc]; exact O5)
            have HL5 := Lib.hid (low_setN (low_new L2.out (.cells #[.string y.s] 9)) B5 (Nat.le_refl _))
            clear O5 B5 K5 N5
            go_roundg ((nxt g x).length - (j + 1))
            case measure => omega
            case rel => exact ⟨j + 1, R2 ++ [y], by go_num, by omega, by omega, HNN, HL5, HO5, Lib.hid (by rw [← List.append_assoc]; exact HBN.out)⟩
        · have zl : ¬ (j : Int) < ((nxt g x).length : Int) := by omega
          have HD := Lib.hid (BB.out.done (by omega))
          go_wp2_with fail
          go_roundg (20002 - (i + 1))
          case measure => omega
          case rel => exact ⟨i + 1, R2, by go_num, by omega, by omega, HN, LL, OO, HD⟩
    · have zl : ¬ (i : Int) < ((nxt g low).length : Int) + (R'.length : Int) := by omega
      have HF := Lib.hid (BB.out.fin (high := high) (by rw [HLN.out]; omega) (fun y hy => List.mem_append.2 (.inl hy)))
      have HH := Lib.hid (rhas_c (nxt g low ++ R') high wr _ (own_ns OO.out))
      obtain ⟨qq, hqq⟩ : ∃ qq, qq = ways g low high := ⟨_, rfl⟩
      have HQ := Lib.hid (show decide (high ∈ nxt g low ++ R') = qq by
        rw [hqq]
        exact ways_of (by rw [decide_eq_true_iff]; exact HF.out))
      rw [HQ.out] at HH
      have HQQ := Lib.hid hqq
      clear hqq
      go_wp2_with fail
      refine HH.out.mono ?_
      rintro e w2 ⟨rfl, l2⟩
      go_wp2_with fail
      go_ret
      exact ⟨retB HQQ.out, LU.out.trans (LL.out.trans l2)⟩
end Go.Proofs.YtnenjgngahipdaaGreat
namespace Go.Proofs.YtnenjgngahipdaaGreat
open Go.RowKit
set_option linter.unusedVariables false
theorem knowsT (l : List Et) (x : Nm) : knows (l.map Et.r) x = decide (0 ≤ firstI l fun t => eqN x.s t.nm) := first_knows l Et.nm Et.r (fun _ => rfl) x
theorem knowsA (l : List Ac) (x : Nm) : knows (l.map Ac.r) x = decide (0 ≤ firstI l fun t => eqN x.s t.nm) := first_knows l Ac.nm Ac.r (fun _ => rfl) x
set_option maxHeartbeats 1600000 in
theorem rtypes_c (n : Nat) (ts : List Et) (l : List Nm) (w : World) (vt va v : Value) (h : EtsAt n w ts vt) (hv : NsAt w l v) : Calls Tryz.prog 39 #[.agg #[vt, va], v] w fun e w' => e = .returned (.bool (l.all (knows (ts.map Et.r)))) ∧ Low w w' := by
  obtain ⟨p, c, rfl, z1, z2⟩ := RowB.sl hv
  obtain ⟨U, hU⟩ : ∃ U, U = w.alloc (.cells #[vt, va] 46) := ⟨_, rfl⟩
  have LU := Lib.hid (show Low w U by rw [hU]; exact low_new (Low.refl w) _)
  have HB := Lib.hid fun (W : World) (l2 : Low U W) => box2 (w := w) (wr := W) (c0 := vt) (c1 := va) (t := 46) (by rw [← hU]; exact l2)
  have HA := Lib.hid h
  have HV := Lib.hid hv
  have HU := Lib.hid hU
  obtain ⟨r, hr⟩ : ∃ r, r = l.all (knows (ts.map Et.r)) := ⟨_, rfl⟩
  have CS := Lib.hid (show ∀ i (hi : i < l.length), knows (ts.map Et.r) l[i] = false → false = r from fun i hi h1 => by
    rw [hr]; symm; rw [Bool.eq_false_iff]; intro h2
    have := List.all_eq_true.1 h2 _ (List.getElem_mem hi)
    rw [h1] at this; simp at this)
  have CN := Lib.hid (show (∀ j (hj : j < l.length), knows (ts.map Et.r) l[j] = true) → true = r from fun h2 => by
    rw [hr]; symm; rw [List.all_eq_true]
    intro x hx
    obtain ⟨j, hj, rfl⟩ := List.getElem_of_mem hx
    exact h2 j hj)
  rw [← hr]
  clear h hv hr hU
  go_enter Tryz.func39, Tryz.ntmps39
  go_upto_region 1 with fail
  rw [← HU.out]
  go_wp2_with fail
  go_loopg [5] l.length (fun gk vi wr => ∃ i : Nat, vi = .int .i64 (i : Int) ∧ i ≤ l.length ∧ l.length - i ≤ gk ∧ Hid (Low U wr) ∧ Hid (∀ j (hj : j < l.length), j < i → knows (ts.map Et.r) l[j] = true))
  case atStart => exact ⟨0, rfl, Nat.zero_le _, Nat.le_refl _, Lib.hid (Low.refl _), Lib.hid fun j hj h => absurd h (Nat.not_lt_zero _)⟩
  case round =>
    obtain ⟨i, rfl, hi, hg, G, K⟩ := hrel
    by_cases hlt : i < l.length
    · have zl : (i : Int) < (l.length : Int) := by omega
      obtain ⟨b0, b1⟩ := HB.out wr G.out
      obtain ⟨b, o, rfl, e0⟩ := (HV.out.low (LU.out.trans G.out)).at hlt
      obtain ⟨y, hy⟩ : ∃ y, y = l[i] := ⟨_, rfl⟩
      rw [← hy] at e0
      obtain ⟨z, hz⟩ : ∃ z, z = firstI ts (fun t => eqN y.s t.nm) := ⟨_, rfl⟩
      have HC := Lib.hid fun (V : World) (hl : Low wr V) => rtype_c n ts y.s V vt va (HA.out.low (LU.out.trans (G.out.trans hl)))
      rw [← hz] at HC
      have HK := Lib.hid (show knows (ts.map Et.r) l[i] = decide (0 ≤ z) by rw [← hy, knowsT, hz])
      have d0 := fun q : InL wr => q.cell e0
      have b0 := fun q : InL wr => q.cell b0
      have b1 := fun q : InL wr => q.cell b1
      have HCQ := Lib.hid fun q : InL wr => Calls.low q (HC.out q.w q.ok)
      haveI := InL.some wr
      clear hy hz HC e0
      by_cases h0 : z < 0
      · have HQ := Lib.hid (CS.out i hlt (by rw [HK.out, decide_eq_false (by omega)]))
        go_upto_region 4 with fail
        refine wp_region_low mixedT (by kernel_rfl) ?_
        repeat (go_big_quiet_step (with_reducible exact HCQ.out _))
        refine wpQuiet_nil ?_
        rintro W8 ⟨p8, hW8⟩
        have L8 := Lib.hid (show Low U W8 by rw [hW8]; exact G.out.trans p8.ok)
        clear hW8 p8 HCQ d0 b0 b1 this
        go_wp2_with fail
        go_ret
        exact ⟨retB HQ.out, LU.out.trans L8.out⟩
      · have HQ := Lib.hid (show knows (ts.map Et.r) l[i] = true by rw [HK.out, decide_eq_true (by omega)])
        go_upto_region 4 with fail
        refine wp_region_low mixedT (by kernel_rfl) ?_
        repeat (go_big_quiet_step (with_reducible exact HCQ.out _))
        refine wpQuiet_nil ?_
        rintro W8 ⟨p8, hW8⟩
        have L8 := Lib.hid (show Low U W8 by rw [hW8]; exact G.out.trans p8.ok)
        clear hW8 p8 HCQ d0 b0 b1 this
        go_wp2_with fail
        go_roundg (l.length - (i + 1))
        case measure => omega
        case rel =>
          refine ⟨i + 1, by go_num, by omega, by omega, L8, Lib.hid fun j hj hji => ?_⟩
          rcases Nat.lt_succ_iff_lt_or_eq.1 hji with h | rfl
          · exact K.out j hj h
          · exact HQ.out
    · have zl : ¬ (i : Int) < (l.length : Int) := by omega
      have HQ2 := Lib.hid (CN.out fun j hj => K.out j hj (by omega))
      go_wp2_with fail
      go_ret
      exact ⟨retB HQ2.out, LU.out.trans G.out⟩
/-- What known tells. -/
def knB (h : ByteArray → Bool) : Nat → T → Bool
  | 0, _ => false
  | n + 1, t => !(decide (t.k < 3)) && !(decide (t.k = 6) && !h t.n) && (t.l.all (knB h n) && t.ats.all fun a => knB h n (aty a))
def KnC (m : Nat) (ts : List Et) (n : Nat) : Prop := ∀ (t : T) (w : World) (vt va e v : Value), EtsAt m w ts vt → RT (fun _ => True) w n t e v → Calls Tryz.prog 66 #[.agg #[vt, va], tv t e v] w fun r w' => r = .returned (.bool (knB (nmB (ts.map Et.r)) n t)) ∧ Low w w'
theorem nmB_first (ts : List Et) (s : ByteArray) (hs : s.size ≤ 9223372036854775807) : nmB (ts.map Et.r) s = decide (0 ≤ firstI ts fun t => eqN s t.nm) := by
  have h1 := knowsT ts ⟨s, hs⟩
  have h2 := nmB_of (ts.map Et.r) ⟨s, hs⟩
  exact h2.trans h1
set_option maxRecDepth 100000 in
set_option maxHeartbeats 3200000 in
theorem known_n (m : Nat) (ts : List Et) (n : Nat) : KnC m ts n := by
  induction n with
  | zero => intro t w vt va e v _ h; exact h.elim
  | succ n ih =>
    intro t w vt va e v h hr
    obtain ⟨pe, ce, pv, cv, rfl, rfl, z1, z2, z3, z4⟩ := hr.sl
    obtain ⟨hs, hl, ha⟩ := rt_succ.1 hr
    obtain ⟨U0, hU0⟩ : ∃ U, U = w.alloc (.cells #[vt, va] 46) := ⟨_, rfl⟩
    obtain ⟨U, hU⟩ : ∃ U, U = U0.alloc (.cells #[.int .i64 t.k, .string t.n, .slice pe t.l.length ce, .slice pv t.ats.length cv] 31) := ⟨_, rfl⟩
    have s0 : U0.heap.size = w.heap.size + 1 := by rw [hU0]; simp
    have l0 : Low U0 U := by rw [hU]; exact low_new (Low.refl _) _
    have LU := Lib.hid (show Low w U from (by rw [hU0]; exact low_new (Low.refl w) _ : Low w U0).trans l0)
    have HB := Lib.hid fun (W : World) (l2 : Low U W) => box2 (w := w) (wr := W) (c0 := vt) (c1 := va) (t := 46) (by rw [← hU0]; exact l0.trans l2)
    have HT := Lib.hid fun (W : World) (l2 : Low U W) => (by rw [← s0]; exact low_box (w := U0) (wr := W) (c0 := .int .i64 t.k) (c1 := .string t.n) (c2 := .slice pe t.l.length ce) (c3 := .slice pv t.ats.length cv) (t := 31) (by rw [← hU]; exact l2) : W.cell? ⟨w.heap.size + 1, 0, none⟩ = some (.int .i64 t.k) ∧ W.cell? ⟨w.heap.size + 1, 1, none⟩ = some (.string t.n) ∧ W.cell? ⟨w.heap.size + 1, 2, none⟩ = some (.slice pe t.l.length ce) ∧ W.cell? ⟨w.heap.size + 1, 3, none⟩ = some (.slice pv t.ats.length cv))
    rw [hU0] at hU
    have HU := Lib.hid hU
    have HL := Lib.hid hl
    have HA := Lib.hid ha
    have IH := Lib.hid fun (t : T) (V : World) (e v : Value) (l2 : Low U V) (h1 : RT (fun _ => True) V n t e v) => ih t V vt va e v (h.low (LU.out.trans l2)) h1
    obtain ⟨z, hz⟩ : ∃ z, z = firstI ts (fun x => eqN t.n x.nm) := ⟨_, rfl⟩
    have HC := Lib.hid (rtype_c m ts t.n U vt va (h.low LU.out))
    rw [← hz] at HC
    obtain ⟨R, hR⟩ : ∃ R, R = knB (nmB (ts.map Et.r)) (n + 1) t := ⟨_, rfl⟩
    have HR := Lib.hid (show R = (!(decide (t.k < 3)) && !(decide (t.k = 6) && !(decide (0 ≤ z))) && (t.l.all (knB (nmB (ts.map Et.r)) n) && t.ats.all fun a => knB (nmB (ts.map Et.r)) n (aty a))) by rw [hR, knB, nmB_first ts t.n hs, hz])
    rw [← hR]
    obtain ⟨f, hf⟩ : ∃ f, f = knB (nmB (ts.map Et.r)) n := ⟨_, rfl⟩
    rw [← hf] at HR IH
    clear hf hr h hl ha hU hU0 s0 l0 ih hs hz hR
    unfold tv
    obtain ⟨b0, b1⟩ := HB.out U (Low.refl U)
    obtain ⟨t0, t1, t2, t3⟩ := HT.out U (Low.refl U)
    go_enter Tryz.func66, Tryz.ntmps66
    go_upto_region 1 with fail
    rw [← HU.out]
    by_cases k3 : t.k < 3
    · have HF := Lib.hid (show false = R by rw [HR.out, decide_eq_true k3]; rfl)
      clear HR
      go_wp2_with fail
      go_ret
      exact ⟨retB HF.out, LU.out⟩
    by_cases hbad : t.k = 6 ∧ z < 0
    · obtain ⟨k6, hz⟩ := hbad
      have HF := Lib.hid (show false = R by rw [HR.out, decide_eq_true k6, decide_eq_false (show ¬ 0 ≤ z by omega)]; simp)
      clear HR
      go_wp2_with fail
      refine HC.out.mono ?_
      rintro e w1 ⟨rfl, l1⟩
      go_wp2_with fail
      go_ret
      exact ⟨retB HF.out, LU.out.trans l1⟩
    · have HF := Lib.hid (show R = (t.l.all f && t.ats.all fun a => f (aty a)) by
        rw [HR.out, decide_eq_false k3]
        by_cases k6 : t.k = 6
        · rw [decide_eq_true k6, decide_eq_true (show 0 ≤ z by omega)]
          rfl
        · rw [decide_eq_false k6]; rfl)
      clear HR
      go_cut [2, 3, 4, 23] from 1 to 22 (fun s2 s3 s4 s23 wx => s2 = .pointer (some ⟨w.heap.size, 0, none⟩) ∧ s3 = .pointer (some ⟨w.heap.size + 1, 0, none⟩) ∧ s4 = .bool false ∧ s23 = .bool false ∧ Hid (Low U wx))
      case first =>
        by_cases k6 : t.k = 6
        · have hz : ¬ z < 0 := fun h => hbad ⟨k6, h⟩
          clear hbad
          go_wp2_with fail
          refine HC.out.mono ?_
          rintro e w1 ⟨rfl, l1⟩
          go_wp2_with fail
          go_meet
          exact ⟨rfl, rfl, rfl, by first | rfl | rw [decide_eq_false (by omega)], Lib.hid l1⟩
        · clear hbad
          go_wp2_with fail
          go_meet
          exact ⟨rfl, rfl, rfl, rfl, Lib.hid (Low.refl U)⟩
      case rest =>
        obtain ⟨rfl, rfl, rfl, rfl, L1⟩ := hcut
        clear HC b0 b1 t0 t1 t2 t3 k3 hbad HU
        obtain ⟨b0, b1⟩ := HB.out wc L1.out
        obtain ⟨t0, t1, t2, t3⟩ := HT.out wc L1.out
        have CS := Lib.hid (show ∀ i (hi : i < t.l.length), f t.l[i] = false → false = R from fun i hi h1 => by
          rw [HF.out]; symm; rw [Bool.and_eq_false_iff]; left
          rw [List.all_eq_false]
          exact ⟨_, List.getElem_mem hi, by rw [h1]; simp⟩)
        have CA := Lib.hid (show ∀ i (hi : i < t.ats.length), f (aty t.ats[i]) = false → false = R from fun i hi h1 => by
          rw [HF.out]; symm; rw [Bool.and_eq_false_iff]; right
          rw [List.all_eq_false]
          exact ⟨_, List.getElem_mem hi, by rw [h1]; simp⟩)
        have CN := Lib.hid (show (∀ j (hj : j < t.l.length), f t.l[j] = true) → (∀ j (hj : j < t.ats.length), f (aty t.ats[j]) = true) → true = R from fun h1 h2 => by
          rw [HF.out]; symm; rw [Bool.and_eq_true, List.all_eq_true, List.all_eq_true]
          refine ⟨fun x hx => ?_, fun x hx => ?_⟩
          · obtain ⟨j, hj, rfl⟩ := List.getElem_of_mem hx
            exact h1 j hj
          · obtain ⟨j, hj, rfl⟩ := List.getElem_of_mem hx
            exact h2 j hj)
        clear HF
        go_wp2_with fail
        go_loopg [5] t.l.length (fun gk vi wr => ∃ i : Nat, vi = .int .i64 (i : Int) ∧ i ≤ t.l.length ∧ t.l.length - i ≤ gk ∧ Hid (Low U wr) ∧ Hid (∀ j (hj : j < t.l.length), j < i → f t.l[j] = true))
        case atStart => exact ⟨0, rfl, Nat.zero_le _, Nat.le_refl _, L1, Lib.hid fun j hj h => absurd h (Nat.not_lt_zero _)⟩
        case round =>
          clear b0 b1 t0 t1 t2 t3 L1
          obtain ⟨i, rfl, hi, hg, G, K⟩ := hrel
          obtain ⟨b0, b1⟩ := HB.out wr G.out
          obtain ⟨t0, t1, t2, t3⟩ := HT.out wr G.out
          by_cases hlt : i < t.l.length
          · have zl : (i : Int) < (t.l.length : Int) := by omega
            obtain ⟨b, o, qe, de, qv, dv, rfl, -, e0, e1, e2, e3, hx⟩ := RL.at (RL.low HL.out (LU.out.trans G.out)) hlt
            have HC := Lib.hid fun (V : World) (l2 : Low wr V) => IH.out t.l[i] V _ _ (G.out.trans l2) (hx.low l2)
            unfold tv at HC
            obtain ⟨q, hq⟩ : ∃ q, q = f t.l[i] := ⟨_, rfl⟩
            rw [← hq] at HC
            have HQ := Lib.hid hq
            go_upto_region 6 with fail
            have b0 := fun q : InL wr => q.cell b0
            have b1 := fun q : InL wr => q.cell b1
            have t2 := fun q : InL wr => q.cell t2
            have e0 := fun q : InL wr => q.cell e0
            have e1 := fun q : InL wr => q.cell e1
            have e2 := fun q : InL wr => q.cell e2
            have e3 := fun q : InL wr => q.cell e3
            have HCQ := Lib.hid fun q : InL wr => Calls.low q (HC.out q.w q.ok)
            haveI := InL.some wr
            clear hx hq HC
            refine wp_region_low mixedT (by kernel_rfl) ?_
            repeat (go_big_quiet_step (with_reducible exact HCQ.out _))
            refine wpQuiet_nil ?_
            rintro W8 ⟨p8, hW8⟩
            have L8 := Lib.hid (show Low U W8 by rw [hW8]; exact G.out.trans p8.ok)
            clear hW8 p8 HCQ b0 b1 t0 t1 t2 t3 e0 e1 e2 e3 this
            cases q with
            | false =>
              have HF := Lib.hid (CS.out i hlt HQ.out.symm)
              go_wp2_with fail
              go_ret
              exact ⟨retB HF.out, LU.out.trans L8.out⟩
            | true =>
              go_wp2_with fail
              go_roundg (t.l.length - (i + 1))
              case measure => omega
              case rel =>
                refine ⟨i + 1, by go_num, by omega, by omega, L8, Lib.hid fun j hj hji => ?_⟩
                rcases Nat.lt_succ_iff_lt_or_eq.1 hji with h | rfl
                · exact K.out j hj h
                · exact HQ.out.symm
          · have zl : ¬ (i : Int) < (t.l.length : Int) := by omega
            have KL := Lib.hid (show ∀ j (hj : j < t.l.length), f t.l[j] = true from fun j hj => K.out j hj (by omega))
            clear K
            go_wp2_with fail
            go_loopg [7] t.ats.length (fun gk vi wr => ∃ i : Nat, vi = .int .i64 (i : Int) ∧ i ≤ t.ats.length ∧ t.ats.length - i ≤ gk ∧ Hid (Low U wr) ∧ Hid (∀ j (hj : j < t.ats.length), j < i → f (aty t.ats[j]) = true))
            case atStart => exact ⟨0, rfl, Nat.zero_le _, Nat.le_refl _, G, Lib.hid fun j hj h => absurd h (Nat.not_lt_zero _)⟩
            case round =>
              clear b0 b1 t0 t1 t2 t3 G hi hg zl hlt
              obtain ⟨i, rfl, hi, hg, G, K⟩ := hrel
              obtain ⟨b0, b1⟩ := HB.out wr G.out
              obtain ⟨t0, t1, t2, t3⟩ := HT.out wr G.out
              by_cases hlt : i < t.ats.length
              · have zl : (i : Int) < (t.ats.length : Int) := by omega
                obtain ⟨b, o, qe, de, qv, dv, rfl, -, d0, e0, e1, e2, e3, d5, -, hx⟩ := RAs.at (RAs.low HA.out (LU.out.trans G.out)) hlt
                have HC := Lib.hid fun (V : World) (l2 : Low wr V) => IH.out (aty t.ats[i]) V _ _ (G.out.trans l2) (hx.low l2)
                unfold tv at HC
                obtain ⟨q, hq⟩ : ∃ q, q = f (aty t.ats[i]) := ⟨_, rfl⟩
                rw [← hq] at HC
                have HQ := Lib.hid hq
                go_upto_region 12 with fail
                have b0 := fun q : InL wr => q.cell b0
                have b1 := fun q : InL wr => q.cell b1
                have t3 := fun q : InL wr => q.cell t3
                have e0 := fun q : InL wr => q.cell e0
                have e1 := fun q : InL wr => q.cell e1
                have e2 := fun q : InL wr => q.cell e2
                have e3 := fun q : InL wr => q.cell e3
                have HCQ := Lib.hid fun q : InL wr => Calls.low q (HC.out q.w q.ok)
                haveI := InL.some wr
                clear hx hq HC d0 d5
                refine wp_region_low mixedT (by kernel_rfl) ?_
                repeat (go_big_quiet_step (with_reducible exact HCQ.out _))
                refine wpQuiet_nil ?_
                rintro W8 ⟨p8, hW8⟩
                have L8 := Lib.hid (show Low U W8 by rw [hW8]; exact G.out.trans p8.ok)
                clear hW8 p8 HCQ b0 b1 t0 t1 t2 t3 e0 e1 e2 e3 this
                cases q with
                | false =>
                  have HF := Lib.hid (CA.out i hlt HQ.out.symm)
                  go_wp2_with fail
                  go_ret
                  exact ⟨retB HF.out, LU.out.trans L8.out⟩
                | true =>
                  go_wp2_with fail
                  go_roundg (t.ats.length - (i + 1))
                  case measure => omega
                  case rel =>
                    refine ⟨i + 1, by go_num, by omega, by omega, L8, Lib.hid fun j hj hji => ?_⟩
                    rcases Nat.lt_succ_iff_lt_or_eq.1 hji with h | rfl
                    · exact K.out j hj h
                    · exact HQ.out.symm
              · have zl : ¬ (i : Int) < (t.ats.length : Int) := by omega
                have HF := Lib.hid (CN.out KL.out fun j hj => K.out j hj (by omega))
                go_wp2_with fail
                go_ret
                exact ⟨retB HF.out, LU.out.trans G.out⟩
end Go.Proofs.YtnenjgngahipdaaGreat
