/- A set as it must be. Condition: all rows are short. -/
import Derived.Test.YtdblkjcimegoeaaCompW
import Derived.Shelf.SlSortCmp.NoneTotal
namespace Go.Proofs.Ytdblkjcimegoeaa
open Go.RowKit Go.Sort
theorem sortV_c (B : Nat) (v : Value) (ps : List El) (w : World) (O : OwnV B w v ps) (E : ∀ p ∈ ps, ElOk (fun b => B ≤ b ∧ some b ≠ v.ownBlock) w p) (hn : ps.length ≤ 70000) : Calls Try.prog 38 #[v, ordV] w (SortP B v ps w) := by
  obtain ⟨ao, cap, rfl, h1, h2, h3⟩ := O.shape
  by_cases h0 : ps = []
  · subst h0
    have h := AnyF.slices_SortFunc_none Try.sortV ao cap ordV w
    change Calls Try.prog 38 _ _ _ at h
    refine h.mono ?_
    rintro e w' ⟨rfl, rfl⟩
    exact ⟨rfl, [], List.Perm.refl _, by simp [Sorted], O, by simp, KeptBut.refl _ _⟩
  · rcases h3 with h3 | ⟨g, rfl, -, -⟩
    · exact absurd h3 h0
    · exact sortV_some B g ps.length cap ps w O E h0 (by omega) rfl
set_option maxHeartbeats 800000 in
theorem compV_c (B : Nat) (v : Value) (ps : List El) (w : World) (O : OwnV B w v ps) (E : ∀ p ∈ ps, ElOk (fun b => B ≤ b ∧ some b ≠ v.ownBlock) w p) (hn : ps.length ≤ 70000) : Calls Try.prog 39 #[v, sameV] w (CompP B v.ownBlock (dd ord (ps.map (·.v))) w) := by
  obtain ⟨ao, cap, rfl, h1, h2, h3⟩ := O.shape
  by_cases h0 : ps = []
  · subst h0
    have HR := Lib.hid (show RowAt (fun b => B ≤ b) w (([] : List El).map (·.v)) (.slice ao 0 cap) from ⟨ao, cap, rfl, ⟨by simp, h2⟩, .inl rfl⟩)
    clear O E hn h3
    unfold sameV
    simp only [List.length_nil]
    go_enter Try.func39, Try.ntmps39
    go_wp2_with fail
    go_ret
    exact ⟨_, rfl, HR.out, KeptBut.refl _ _⟩
  · rcases h3 with h3 | ⟨g, rfl, -, -⟩
    · exact absurd h3 h0
    · exact comp_some B g cap ps w O E hn
theorem KeptBut.cellAt {w w' : World} {r : Option Nat} (h : KeptBut w w' r) {b o : Nat} {v : Value} (hc : w.cell? ⟨b, o, none⟩ = some v) (hr : some b ≠ r) : w'.cell? ⟨b, o, none⟩ = some v :=
  cell_to hc fun hb => h.2.2.2 b hb hr
theorem KeptBut.frozenAt {w w' : World} {r : Option Nat} (h : KeptBut w w' r) {b o : Nat} (hc : w.frozen? ⟨b, o, none⟩ = false) (hb : b < w.heap.size) (hr : some b ≠ r) : w'.frozen? ⟨b, o, none⟩ = false := by
  rw [World.frozen?_of_block (w := w) (w' := w') (a := ⟨b, o, none⟩) (h.2.2.2 b hb hr)]; exact hc
/-- A result's eight cells, empty, and free to be written. -/
def Res (w : World) (r : Nat) : Prop := (r < w.heap.size ∧ CellsAt w r 0 (hdc hd0 (.slice none 0 0) (.slice none 0 0))) ∧ ∀ o, w.frozen? ⟨r, o, none⟩ = false
theorem Res.kept {w w' : World} {r : Nat} {x : Option Nat} (h : Res w r) (k : KeptBut w w' x) (hr : some r ≠ x) : Res w' r :=
  ⟨⟨Nat.lt_of_lt_of_le h.1.1 k.2.2.1, fun j v hv => k.cellAt (h.1.2 j v hv) hr⟩, fun o => k.frozenAt (h.2 o) h.1.1 hr⟩
theorem Res.low {w w' : World} {r : Nat} (h : Res w r) (k : Low w w') : Res w' r := h.kept (KeptBut.of_low (r := none) k) (by simp)
theorem res_new (w : World) (t : TypeId) : Res (w.alloc (.cells #[.int .i64 0, .bool false, .int .i64 0, .string ⟨#[]⟩, .string ⟨#[]⟩, .string ⟨#[]⟩, .slice none 0 0, .slice none 0 0] t)) w.heap.size := by
  refine ⟨⟨by simp, fun j v hv => ?_⟩, fun o => ?_⟩
  · rw [Nat.zero_add, World.cell?_alloc_mark]
    simpa [hdc, hd0] using hv
  · simp [go_sem]
theorem Res.facts {w : World} {r : Nat} (h : Res w r) : (w.cell? ⟨r, 0, none⟩ = some (.int .i64 0) ∧ w.cell? ⟨r, 1, none⟩ = some (.bool false) ∧ w.cell? ⟨r, 2, none⟩ = some (.int .i64 0) ∧ w.cell? ⟨r, 3, none⟩ = some (.string ⟨#[]⟩) ∧ w.cell? ⟨r, 4, none⟩ = some (.string ⟨#[]⟩) ∧
    w.cell? ⟨r, 5, none⟩ = some (.string ⟨#[]⟩) ∧ w.cell? ⟨r, 6, none⟩ = some (.slice none 0 0) ∧ w.cell? ⟨r, 7, none⟩ = some (.slice none 0 0)) ∧
    (w.frozen? ⟨r, 0, none⟩ = false ∧ w.frozen? ⟨r, 1, none⟩ = false ∧ w.frozen? ⟨r, 2, none⟩ = false ∧ w.frozen? ⟨r, 3, none⟩ = false ∧ w.frozen? ⟨r, 4, none⟩ = false ∧ w.frozen? ⟨r, 5, none⟩ = false ∧ w.frozen? ⟨r, 6, none⟩ = false ∧ w.frozen? ⟨r, 7, none⟩ = false) := by
  have h8 := cells8 h.1.2
  simp only [Nat.zero_add] at h8
  exact ⟨h8, h.2 0, h.2 1, h.2 2, h.2 3, h.2 4, h.2 5, h.2 6, h.2 7⟩
theorem kept8 (w : World) (r : Nat) (c0 c1 c2 c3 c4 c5 c6 c7 : Value) : KeptBut w ((((((((w.setCell ⟨r, 0, none⟩ c0).setCell ⟨r, 1, none⟩ c1).setCell ⟨r, 2, none⟩ c2).setCell ⟨r, 3, none⟩ c3).setCell ⟨r, 4, none⟩ c4).setCell ⟨r, 5, none⟩ c5).setCell ⟨r, 6, none⟩ c6).setCell ⟨r, 7, none⟩ c7) (some r) :=
  (kept_setCell _ _ _ _).trans ((kept_setCell _ _ _ _).trans ((kept_setCell _ _ _ _).trans ((kept_setCell _ _ _ _).trans ((kept_setCell _ _ _ _).trans ((kept_setCell _ _ _ _).trans ((kept_setCell _ _ _ _).trans (kept_setCell _ _ _ _)))))))
theorem rep_V0 (A : Nat → Prop) (w : World) : Rep A w V0 (.slice none 0 0) (.slice none 0 0) := by
  unfold V0
  rw [Rep]
  exact ⟨⟨by decide, by decide, by decide⟩, ⟨none, 0, rfl, by simp, by simp, .inl rfl⟩, none, 0, rfl, ⟨by simp, by simp⟩, .inl rfl⟩
theorem names_nil (A : Nat → Prop) (w : World) : NamesAt A w [] (.slice none 0 0) := ⟨none, 0, rfl, by simp, by simp, .inl rfl⟩
/-- A set of a row, as it must be. -/
def setC (l : List V) : Int × V := if (canL l).1 = 0 then (0, .mk { hd0 with k := 5 } (uniq ord (canL l).2) []) else ((canL l).1, V0)
set_option maxHeartbeats 2000000 in
theorem canSet_c (l : List V) (ih : ∀ x ∈ l, CanC 13 x) (hs : l.length ≤ 70000 ∧ ∀ x ∈ l, Sm x) (w : World) (it : Value) (hl : Ro w l it) :
    Calls Try.prog 26 #[it] w (CanPost (setC l).2 (setC l).1 w) := by
  obtain ⟨al, cl, rfl, zl, zc⟩ := ro_len hl
  have L0 := Low.alloc (Low.refl w) (.cells #[.int .i64 0, .bool false, .int .i64 0, .string ⟨#[]⟩, .string ⟨#[]⟩, .string ⟨#[]⟩, .slice none 0 0, .slice none 0 0] 29)
  have R0 := Lib.hid (res_new w 29)
  have CC := Lib.hid (canI_c l ih hs _ _ (hl.low L0))
  have HL := Lib.hid L0
  have hlen := Lib.hid hs.1
  clear ih hs hl L0
  go_enter Try.func26, Try.ntmps26
  go_wp2_with fail
  refine CC.out.mono ?_
  rintro e w1 ⟨v, rfl, L1, hok⟩
  have R1 := Lib.hid (R0.out.low L1)
  have LL := Lib.hid (HL.out.trans L1)
  by_cases h0 : (canL l).1 = 0
  · obtain ⟨ps, hps, O, E⟩ := hok h0
    have hpl : ps.length ≤ 70000 := by
      have := congrArg List.length hps
      rw [List.length_map, canL_len h0] at this
      have := hlen.out
      omega
    have hsc : setC l = (0, .mk { hd0 with k := 5 } (uniq ord (canL l).2) []) := by unfold setC; rw [if_pos h0]
    have HSC := Lib.hid hsc
    have hvb : ∀ g, v.ownBlock = some g → w.heap.size < g := fun g hg => by
      have := (World.ownsRow.lt O g hg).1
      simp at this
      omega
    have hcn := canL_cn h0
    have CSo := Lib.hid (sortV_c _ v ps w1 O E hpl)
    have HV := Lib.hid hvb
    have HCN := Lib.hid hcn
    have HPS := Lib.hid hps
    have HPL := Lib.hid hpl
    clear hsc O E hok hvb hcn hps hpl L1
    obtain ⟨e0, he⟩ : ∃ e0, e0 = (canL l).1 := ⟨_, rfl⟩
    rw [← he] at h0 ⊢
    subst h0
    clear he
    go_wp2_with fail
    refine CSo.out.mono ?_
    rintro e w2 ⟨rfl, qs, hperm, hsorted, O2, E2, K2⟩
    have hql : qs.length ≤ 70000 := by rw [hperm.length_eq]; exact HPL.out
    have CCo := Lib.hid (compV_c _ v qs w2 O2 E2 hql)
    have hdd : dd ord (qs.map (·.v)) = uniq ord (canL l).2 := by
      have hp := hperm.map (·.v)
      rw [HPS.out] at hp
      exact dd_uniq good_cn (fun y x hy hx h => ord_zero hy hx h) hp hsorted HCN.out
    have HD := Lib.hid hdd
    have R2 := Lib.hid (R1.out.kept K2 fun e => by have := HV.out _ e.symm; omega)
    have KK2 := Lib.hid K2
    clear hperm hsorted O2 E2 K2 hql hdd
    go_wp2_with fail
    refine CCo.out.mono ?_
    rintro e w3 ⟨v3, rfl, R3, K3⟩
    rw [HD.out] at R3
    obtain ⟨ao, cap, rfl, zq, -⟩ := id R3
    have HR3 := Lib.hid R3
    have RR := Lib.hid (R2.out.kept K3 fun e => by have := HV.out _ e.symm; omega)
    have KK3 := Lib.hid K3
    obtain ⟨⟨c0, c1, c2, c3, c4, c5, c6, c7⟩, f0, f1, f2, f3, f4, f5, f6, f7⟩ := RR.out.facts
    clear R3 K3
    go_wp2_with fail
    refine bodyPost_ret (v := .tuple #[.agg #[.int .i64 5, .bool false, .int .i64 0, .string ⟨#[]⟩, .string ⟨#[]⟩, .string ⟨#[]⟩, .slice ao (uniq ord (canL l).2).length cap, .slice none 0 0], .int .i64 0]) (by simp [results, Try.results26, go_sem, World.cell?_setCell_same', c0, c1, c2, c3, c4, c5, c6, c7]; try rfl) rfl ?_
    have K8 := kept8 w3 w.heap.size (.int .i64 5) (.bool false) (.int .i64 0) (.string ⟨#[]⟩) (.string ⟨#[]⟩) (.string ⟨#[]⟩) (.slice ao (uniq ord (canL l).2).length cap) (.slice none 0 0)
    rw [HSC.out]
    refine ⟨ao, cap, none, 0, rfl, ?_, (((LL.out.kept KK2.out fun g hg => Nat.le_of_lt (HV.out g hg)).kept KK3.out fun g hg => Nat.le_of_lt (HV.out g hg)).kept K8 fun g hg => by simp at hg; omega)⟩
    refine rep_v.2 ⟨⟨Nat.zero_le _, Nat.zero_le _, Nat.zero_le _⟩, names_nil _ _, RowAt.to (fun b hb hlt => ⟨?_, K8.2.2.2 b hlt fun e => ?_⟩) HR3.out⟩
    · simp at hb; omega
    · simp at hb e; omega
  · have hsc : setC l = ((canL l).1, V0) := by unfold setC; rw [if_neg h0]
    have HSC := Lib.hid hsc
    obtain ⟨⟨c0, c1, c2, c3, c4, c5, c6, c7⟩, f0, f1, f2, f3, f4, f5, f6, f7⟩ := R1.out.facts
    have hb : ((canL l).1 == 0) = false := by simpa using h0
    clear hok hsc L1
    go_wp2_with fail
    refine bodyPost_ret (v := .tuple #[.agg #[.int .i64 0, .bool false, .int .i64 0, .string ⟨#[]⟩, .string ⟨#[]⟩, .string ⟨#[]⟩, .slice none 0 0, .slice none 0 0], .int .i64 (canL l).1]) (by simp [results, Try.results26, go_sem, World.cell?_setCell_same', c0, c1, c2, c3, c4, c5, c6, c7]; try rfl) rfl ?_
    have K8 := kept8 w1 w.heap.size (.int .i64 0) (.bool false) (.int .i64 0) (.string ⟨#[]⟩) (.string ⟨#[]⟩) (.string ⟨#[]⟩) (.slice none 0 0) (.slice none 0 0)
    rw [HSC.out]
    exact ⟨none, 0, none, 0, rfl, rep_V0 _ _, LL.out.kept K8 fun g hg => by simp at hg; omega⟩
end Go.Proofs.Ytdblkjcimegoeaa
