/- schema.hasAll, stands, attrsStand, rowMayBe. Conditions: each asked type is small (few's yes). -/
import Derived.Test.YtijjbfdbhfjfmaaScF
import Derived.Test.YtijjbfdbhfjfmaaTyH
namespace Go.Proofs.Ytijjbfdbhfjfmaa
open Go.RowKit
set_option linter.unusedVariables false
/-- Is a text a name of the rows? -/
def nmB (g : Gra) (s : ByteArray) : Bool := if h : s.size ≤ 9223372036854775807 then (look g ⟨s, h⟩).isSome else false
theorem nmB_of (g : Gra) (x : Nm) : nmB g x.s = (look g x).isSome := by unfold nmB; rw [dif_pos x.hs]
/-- What stands tells. -/
def stB (h : ByteArray → Bool) : Nat → T → Bool
  | 0, _ => false
  | n + 1, t => !(decide (t.k = 0) || decide (t.k = 1) || decide (t.k = 2)) && !(decide (t.k = 6) && !h t.n) && (t.l.all (stB h n) && t.ats.all fun a => stB h n (aty a))
def knows (g : Gra) (x : Nm) : Bool := (look g x).isSome
theorem not_any {α : Type} (l : List α) (f : α → Bool) : (!(l.any fun x => !f x)) = l.all f := by
  induction l with
  | nil => rfl
  | cons x l ih => rw [List.any_cons, List.all_cons, ← ih]; cases f x <;> simp
theorem allf_c (g : Gra) (w : World) (b n x0 : Nat) (x : Nm) (h : InsAt w b n g) (hc : w.cell? ⟨x0, 0, none⟩ = some (.map (some b))) : Calls Try.prog 54 #[.string x.s, .pointer (some ⟨x0, 0, none⟩)] w fun e w' => e = .returned (.bool (!knows g x)) ∧ Low w w' := by
  have HC := Lib.hid (has_c w b n g x h)
  unfold knows
  obtain ⟨q, hq⟩ : ∃ q, q = (look g x).isSome := ⟨_, rfl⟩
  rw [← hq] at HC ⊢
  clear h hq
  go_enter Try.func54, Try.ntmps54
  go_wp2_with fail
  refine HC.out.mono ?_
  rintro e w' ⟨rfl, rfl⟩
  go_wp2_with fail
  go_ret
  exact ⟨rfl, Low.refl _⟩
theorem hasAll_c (g : Gra) (l : List Nm) (w : World) (b n : Nat) (v : Value) (h : InsAt w b n g) (hv : NsAt w l v) : Calls Try.prog 44 #[.map (some b), v] w fun e w' => e = .returned (.bool (l.all (knows g))) ∧ Low w w' := by
  obtain ⟨W, hW⟩ : ∃ W, W = w.alloc (.cells #[.map (some b)] 59) := ⟨_, rfl⟩
  have LW := Lib.hid (show Low w W by rw [hW]; exact low_new (Low.refl w) _)
  have hb : W.cell? ⟨w.heap.size, 0, none⟩ = some (.map (some b)) := by rw [hW, World.cell?_alloc_mark]; rfl
  have HC := Lib.hid (conN_c l (fun x => !knows g x) w.heap.size W v (hv.low LW.out) fun j hj V hl => allf_c g V b n w.heap.size l[j] (h.low (LW.out.trans hl)) (hl.keep hb))
  obtain ⟨p, c, rfl, z1, z2⟩ := RowB.sl hv
  have HQ := Lib.hid (not_any l (knows g))
  have HW := Lib.hid hW
  clear h hv hb hW
  go_enter Try.func44, Try.ntmps44
  go_upto_region 1 with fail
  rw [← HW.out]
  go_wp2_with fail
  refine HC.out.mono ?_
  rintro e w' ⟨rfl, l1⟩
  go_wp2_with fail
  go_ret
  exact ⟨retB HQ.out, LW.out.trans l1⟩
/-- What stands answers of types of so much fuel. -/
def StdC (n : Nat) : Prop := ∀ (g : Gra) (t : T) (w : World) (b m : Nat) (e v : Value), RT (fun _ => True) w n t e v → InsAt w b m g → Calls Try.prog 69 #[tv t e v, .map (some b)] w fun r w' => r = .returned (.bool (stB (nmB g) n t)) ∧ Low w w'
theorem attrf12_c (n : Nat) (ih : StdC n) (g : Gra) (x : At) (w : World) (b m x0 : Nat) (qe qv : Option Addr) (de dv : Nat) (hr : RT (fun _ => True) w n (aty x) (.slice qe (aty x).l.length de) (.slice qv (aty x).ats.length dv)) (h : InsAt w b m g) (hc : w.cell? ⟨x0, 0, none⟩ = some (.map (some b))) :
    Calls Try.prog 68 #[.agg #[.string (an x), .int .i64 (aty x).k, .string (aty x).n, .slice qe (aty x).l.length de, .slice qv (aty x).ats.length dv, .bool (ao x)], .pointer (some ⟨x0, 0, none⟩)] w fun r w' => r = .returned (.bool (!stB (nmB g) n (aty x))) ∧ Low w w' := by
  obtain ⟨W, hW⟩ : ∃ W, W = w.alloc (.cells #[.string (an x), .int .i64 (aty x).k, .string (aty x).n, .slice qe (aty x).l.length de, .slice qv (aty x).ats.length dv, .bool (ao x)] 76) := ⟨_, rfl⟩
  have LW := Lib.hid (show Low w W by rw [hW]; exact low_new (Low.refl w) _)
  have hb := LW.out.keep hc
  have hal : ∀ k u, (#[Value.string (an x), .int .i64 (aty x).k, .string (aty x).n, .slice qe (aty x).l.length de, .slice qv (aty x).ats.length dv, .bool (ao x)] : Array Value)[k]? = some u → W.cell? ⟨w.heap.size, k, none⟩ = some u := fun k u hu => by
    rw [hW, World.cell?_alloc_mark]; exact hu
  have c1 := hal 1 _ rfl
  have c2 := hal 2 _ rfl
  have c3 := hal 3 _ rfl
  have c4 := hal 4 _ rfl
  have HC := Lib.hid (ih g (aty x) W b m _ _ (hr.low LW.out) (h.low LW.out))
  unfold tv at HC
  have HW := Lib.hid hW
  clear h hr hal hc hW
  go_enter Try.func68, Try.ntmps68
  go_upto_region 1 with fail
  rw [← HW.out]
  go_wp2_with fail
  refine HC.out.mono ?_
  rintro e w' ⟨rfl, l1⟩
  go_wp2_with fail
  go_ret
  exact ⟨rfl, LW.out.trans l1⟩
theorem elemf12_c (n : Nat) (ih : StdC n) (g : Gra) (t : T) (w : World) (b m x0 : Nat) (qe qv : Option Addr) (de dv : Nat) (hr : RT (fun _ => True) w n t (.slice qe t.l.length de) (.slice qv t.ats.length dv)) (h : InsAt w b m g) (hc : w.cell? ⟨x0, 0, none⟩ = some (.map (some b))) :
    Calls Try.prog 78 #[.agg #[.int .i64 t.k, .string t.n, .slice qe t.l.length de, .slice qv t.ats.length dv], .pointer (some ⟨x0, 0, none⟩)] w fun r w' => r = .returned (.bool (!stB (nmB g) n t)) ∧ Low w w' := by
  obtain ⟨W, hW⟩ : ∃ W, W = w.alloc (.cells #[.int .i64 t.k, .string t.n, .slice qe t.l.length de, .slice qv t.ats.length dv] 55) := ⟨_, rfl⟩
  have LW := Lib.hid (show Low w W by rw [hW]; exact low_new (Low.refl w) _)
  have hb := LW.out.keep hc
  have hal : ∀ k u, (#[Value.int .i64 t.k, .string t.n, .slice qe t.l.length de, .slice qv t.ats.length dv] : Array Value)[k]? = some u → W.cell? ⟨w.heap.size, k, none⟩ = some u := fun k u hu => by
    rw [hW, World.cell?_alloc_mark]; exact hu
  have c0 := hal 0 _ rfl
  have c1 := hal 1 _ rfl
  have c2 := hal 2 _ rfl
  have c3 := hal 3 _ rfl
  have HC := Lib.hid (ih g t W b m _ _ (hr.low LW.out) (h.low LW.out))
  unfold tv at HC
  have HW := Lib.hid hW
  clear h hr hal hc hW
  go_enter Try.func78, Try.ntmps78
  go_upto_region 1 with fail
  rw [← HW.out]
  go_wp2_with fail
  refine HC.out.mono ?_
  rintro e w' ⟨rfl, l1⟩
  go_wp2_with fail
  go_ret
  exact ⟨rfl, LW.out.trans l1⟩
theorem attrs12_n (n : Nat) (ih : StdC n) (g : Gra) (l : List At) (w : World) (b m : Nat) (v : Value) (hr : RAs (fun _ => True) w n l v) (h : InsAt w b m g) :
    Calls Try.prog 56 #[v, .map (some b)] w fun r w' => r = .returned (.bool (l.all fun a => stB (nmB g) n (aty a))) ∧ Low w w' := by
  obtain ⟨W, hW⟩ : ∃ W, W = w.alloc (.cells #[.map (some b)] 59) := ⟨_, rfl⟩
  have LW := Lib.hid (show Low w W by rw [hW]; exact low_new (Low.refl w) _)
  have hb : W.cell? ⟨w.heap.size, 0, none⟩ = some (.map (some b)) := by rw [hW, World.cell?_alloc_mark]; rfl
  have HC := Lib.hid (conR_c n l (fun a => !stB (nmB g) n (aty a)) w.heap.size W v (hr.low LW.out) fun j hj V qe de qv dv hl h1 => attrf12_c n ih g l[j] V b m w.heap.size qe qv de dv h1 (h.low (LW.out.trans hl)) (hl.keep hb))
  obtain ⟨p, c, rfl, z1, z2⟩ := RowR.sl hr
  have HQ := Lib.hid (not_any l fun a => stB (nmB g) n (aty a))
  have HW := Lib.hid hW
  clear h hr hb hW
  go_enter Try.func56, Try.ntmps56
  go_upto_region 1 with fail
  rw [← HW.out]
  go_wp2_with fail
  refine HC.out.mono ?_
  rintro e w' ⟨rfl, l1⟩
  go_wp2_with fail
  go_ret
  exact ⟨retB HQ.out, LW.out.trans l1⟩
theorem has_t (g : Gra) (w : World) (b m : Nat) (s : ByteArray) (hs : s.size ≤ 9223372036854775807) (h : InsAt w b m g) : Calls Try.prog 50 #[.map (some b), .string s] w fun e w' => e = .returned (.bool (nmB g s)) ∧ w' = w := by
  have := has_c w b m g ⟨s, hs⟩ h
  rw [← nmB_of] at this
  exact this
set_option maxHeartbeats 1600000 in
theorem stands_n (n : Nat) : StdC n := by
  induction n with
  | zero => intro g t w b m e v h; exact h.elim
  | succ n ih =>
    intro g t w b m e v hr h
    obtain ⟨pe, ce, pv, cv, rfl, rfl, z1, z2, z3, z4⟩ := hr.sl
    obtain ⟨hs, hl, ha⟩ := rt_succ.1 hr
    obtain ⟨W, hW⟩ : ∃ W, W = (w.alloc (.cells #[.int .i64 t.k, .string t.n, .slice pe t.l.length ce, .slice pv t.ats.length cv] 55)).alloc (.cells #[.map (some b)] 59) := ⟨_, rfl⟩
    have LW := Lib.hid (show Low w W by rw [hW]; exact low_new (low_new (Low.refl w) _) _)
    have hb : W.cell? ⟨w.heap.size + 1, 0, none⟩ = some (.map (some b)) := by
      have hz : w.heap.size + 1 = (w.alloc (.cells #[.int .i64 t.k, .string t.n, .slice pe t.l.length ce, .slice pv t.ats.length cv] 55)).heap.size := by simp
      rw [hW, hz, World.cell?_alloc_mark]; rfl
    obtain ⟨c0, c1, c2, c3⟩ := low_box (w := w) (wr := W) (c0 := .int .i64 t.k) (c1 := .string t.n) (c2 := .slice pe t.l.length ce) (c3 := .slice pv t.ats.length cv) (t := 55) (by rw [hW]; exact low_new (Low.refl _) _)
    have HHs := Lib.hid (has_t g W b m t.n hs (h.low LW.out))
    have HE := Lib.hid (conT_c n t.l (fun x => !stB (nmB g) n x) (w.heap.size + 1) W _ (RL.low hl LW.out) fun j hj V qe de qv dv hl2 h1 => elemf12_c n ih g t.l[j] V b m (w.heap.size + 1) qe qv de dv h1 (h.low (LW.out.trans hl2)) (hl2.keep hb))
    have HA := Lib.hid fun (V : World) (hl2 : Low W V) => attrs12_n n ih g t.ats V b m _ (RAs.low ha (LW.out.trans hl2)) (h.low (LW.out.trans hl2))
    have HW := Lib.hid hW
    have HB := Lib.hid hb
    obtain ⟨q0, hq0⟩ : ∃ q, q = nmB g t.n := ⟨_, rfl⟩
    obtain ⟨q1, hq1⟩ : ∃ q, q = t.l.any fun x => !stB (nmB g) n x := ⟨_, rfl⟩
    obtain ⟨q2, hq2⟩ : ∃ q, q = t.ats.all fun a => stB (nmB g) n (aty a) := ⟨_, rfl⟩
    rw [← hq0] at HHs
    rw [← hq1] at HE
    rw [← hq2] at HA
    obtain ⟨R, hR⟩ : ∃ R, R = stB (nmB g) (n + 1) t := ⟨_, rfl⟩
    have HR := Lib.hid (show R = (!(decide (t.k = 0) || decide (t.k = 1) || decide (t.k = 2)) && !(decide (t.k = 6) && !q0) && (!q1 && q2)) by rw [hR, stB, hq0, hq1, hq2, not_any])
    rw [← hR]
    clear hr h hl ha hW hs hR hq0 hq1 hq2
    unfold tv
    have HK0 := Lib.hid (show t.k = 0 → R = false from fun e => by rw [HR.out]; simp [e])
    have HK1 := Lib.hid (show t.k = 1 → R = false from fun e => by rw [HR.out]; simp [e])
    have HK2 := Lib.hid (show t.k = 2 → R = false from fun e => by rw [HR.out]; simp [e])
    go_enter Try.func69, Try.ntmps69
    go_upto_region 1 with fail
    rw [← HW.out]
    by_cases k0 : t.k = 0
    · have HR0 := Lib.hid (HK0.out k0)
      clear HR HK0 HK1 HK2
      go_wp2_with fail
      go_ret
      exact ⟨retB HR0.out.symm, LW.out⟩
    by_cases k1 : t.k = 1
    · have HR0 := Lib.hid (HK1.out k1)
      clear HR HK0 HK1 HK2
      go_wp2_with fail
      go_ret
      exact ⟨retB HR0.out.symm, LW.out⟩
    by_cases k2 : t.k = 2
    · have HR0 := Lib.hid (HK2.out k2)
      clear HR HK0 HK1 HK2
      go_wp2_with fail
      go_ret
      exact ⟨retB HR0.out.symm, LW.out⟩
    have HK := Lib.hid (show R = (!(decide (t.k = 6) && !q0) && (!q1 && q2)) by rw [HR.out]; simp [k0, k1, k2])
    clear HR HK0 HK1 HK2
    by_cases k6 : t.k = 6
    · have HK6 := Lib.hid (show R = (q0 && (!q1 && q2)) by rw [HK.out]; simp [k6])
      clear HK
      cases q0 with
      | false =>
        have HR0 := Lib.hid (show R = false by rw [HK6.out]; rfl)
        clear HK6
        go_wp2_with fail
        refine HHs.out.mono ?_
        rintro e w' ⟨rfl, rfl⟩
        go_wp2_with fail
        go_ret
        exact ⟨retB HR0.out.symm, LW.out⟩
      | true =>
        cases q1 with
        | true =>
          have HR0 := Lib.hid (show R = false by rw [HK6.out]; rfl)
          clear HK6
          go_wp2_with fail
          refine HHs.out.mono ?_
          rintro e w' ⟨rfl, rfl⟩
          go_wp2_with fail
          refine HE.out.mono ?_
          rintro e w2 ⟨rfl, l2⟩
          go_wp2_with fail
          go_ret
          exact ⟨retB HR0.out.symm, LW.out.trans l2⟩
        | false =>
          have HR0 := Lib.hid (show R = q2 by rw [HK6.out]; simp)
          clear HK6
          go_wp2_with fail
          refine HHs.out.mono ?_
          rintro e w' ⟨rfl, rfl⟩
          go_wp2_with fail
          refine HE.out.mono ?_
          rintro e w2 ⟨rfl, l2⟩
          have HA2 := Lib.hid (HA.out w2 l2)
          have e0 := l2.keep HB.out
          have e3 := l2.keep c3
          have L2 := Lib.hid (LW.out.trans l2)
          clear l2
          go_wp2_with fail
          refine HA2.out.mono ?_
          rintro e w3 ⟨rfl, l3⟩
          go_wp2_with fail
          go_ret
          exact ⟨retB HR0.out.symm, L2.out.trans l3⟩
    · have HK6 := Lib.hid (show R = (!q1 && q2) by rw [HK.out]; simp [k6])
      clear HK
      cases q1 with
      | true =>
        have HR0 := Lib.hid (show R = false by rw [HK6.out]; rfl)
        clear HK6
        go_wp2_with fail
        refine HE.out.mono ?_
        rintro e w2 ⟨rfl, l2⟩
        go_wp2_with fail
        go_ret
        exact ⟨retB HR0.out.symm, LW.out.trans l2⟩
      | false =>
        have HR0 := Lib.hid (show R = q2 by rw [HK6.out]; simp)
        clear HK6
        go_wp2_with fail
        refine HE.out.mono ?_
        rintro e w2 ⟨rfl, l2⟩
        have HA2 := Lib.hid (HA.out w2 l2)
        have e0 := l2.keep HB.out
        have e3 := l2.keep c3
        have L2 := Lib.hid (LW.out.trans l2)
        clear l2
        go_wp2_with fail
        refine HA2.out.mono ?_
        rintro e w3 ⟨rfl, l3⟩
        go_wp2_with fail
        go_ret
        exact ⟨retB HR0.out.symm, L2.out.trans l3⟩
/-- May a row of attributes be? -/
def recT (l : List At) : T := .mk 8 ⟨#[]⟩ [] l
def rowB (h : ByteArray → Bool) (n : Nat) (l : List At) : Bool := decide (chkE (n + 1) (recT l) = 0) && l.all fun a => stB h n (aty a)
theorem rec_rt {A : Nat → Prop} {w : World} {n : Nat} {l : List At} {v : Value} (h : RAs A w n l v) : RT A w (n + 1) (recT l) (.slice none 0 0) v := ⟨(by decide : (⟨#[]⟩ : ByteArray).size ≤ 9223372036854775807), RL.nil A w n, h⟩
theorem row12_c (n : Nat) (g : Gra) (l : List At) (w : World) (b m : Nat) (v : Value) (hs : Sm (n + 1) (recT l)) (hr : RAs (fun _ => True) w n l v) (h : InsAt w b m g) :
    Calls Try.prog 45 #[v, .map (some b)] w fun r w' => r = .returned (.bool (rowB (nmB g) n l)) ∧ Low w w' := by
  obtain ⟨p, c, rfl, z1, z2⟩ := RowR.sl hr
  have HC := Lib.hid (check_c (recT l) w _ _ hs (rec_rt hr))
  have HA := Lib.hid fun (V : World) (hl2 : Low w V) => attrs12_n n (stands_n n) g l V b m _ (RAs.low hr hl2) (h.low hl2)
  obtain ⟨q1, hq1⟩ : ∃ q, q = chkE (n + 1) (recT l) := ⟨_, rfl⟩
  obtain ⟨q2, hq2⟩ : ∃ q, q = l.all fun a => stB (nmB g) n (aty a) := ⟨_, rfl⟩
  rw [← hq1] at HC
  rw [← hq2] at HA
  obtain ⟨R, hR⟩ : ∃ R, R = rowB (nmB g) n l := ⟨_, rfl⟩
  have HR := Lib.hid (show R = (decide (q1 = 0) && q2) by rw [hR, rowB, hq1, hq2])
  rw [← hR]
  unfold tv recT at HC
  clear hr h hs hR hq1 hq2
  by_cases k : q1 = 0
  · have HR0 := Lib.hid (show R = q2 by rw [HR.out]; simp [k])
    subst k
    clear HR
    go_enter Try.func45, Try.ntmps45
    go_wp2_with fail
    refine HC.out.mono ?_
    rintro e w2 ⟨rfl, l2⟩
    have HA2 := Lib.hid (HA.out w2 l2)
    go_wp2_with fail
    refine HA2.out.mono ?_
    rintro e w3 ⟨rfl, l3⟩
    go_wp2_with fail
    go_ret
    exact ⟨retB HR0.out.symm, l2.trans l3⟩
  · have HR0 := Lib.hid (show R = false by rw [HR.out]; simp [k])
    clear HR
    go_enter Try.func45, Try.ntmps45
    go_wp2_with fail
    refine HC.out.mono ?_
    rintro e w2 ⟨rfl, l2⟩
    go_wp2_with fail
    go_ret
    exact ⟨retB HR0.out.symm, l2⟩
end Go.Proofs.Ytijjbfdbhfjfmaa
