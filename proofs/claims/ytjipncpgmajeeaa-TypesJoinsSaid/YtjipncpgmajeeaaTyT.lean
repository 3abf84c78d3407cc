/- The program's join and Join of two types of which neither is below the other, both truths or of other kinds. Condition: types that may be. -/
import Derived.Test.YtjipncpgmajeeaaTyN
namespace Go.Proofs.Ytjipncpgmajeeaa
open Go.RowKit
/-- What join tells. -/
def JR (o : Option T) (t : T) (er : Int) : Prop := match o with | some s => t = s ∧ er = 0 | none => t = noT ∧ er = 30
def JoinP (P : Nat → Prop) (n : Nat) (o : Option T) (w : World) (e : Ending) (w' : World) : Prop := ∃ (t : T) (pe : Option Addr) (ce : Nat) (pv : Option Addr) (cv : Nat) (er : Int), e = .returned (.tuple #[.agg #[.int .i64 t.k, .string t.n, .slice pe t.l.length ce, .slice pv t.ats.length cv], .int .i64 er]) ∧
  JR o t er ∧ RT (fun x => P x ∨ w.heap.size ≤ x) w' n t (.slice pe t.l.length ce) (.slice pv t.ats.length cv) ∧ Low w w'
theorem rt_kind (A : Nat → Prop) (w : World) (n : Nat) (k : Int) : RT A w (n + 1) (.mk k ⟨#[]⟩ [] []) (.slice none (T.mk k ⟨#[]⟩ [] []).l.length 0) (.slice none (T.mk k ⟨#[]⟩ [] []).ats.length 0) := RT.kind A w n k
set_option maxHeartbeats 3200000 in
set_option maxRecDepth 100000 in
theorem joinK_c {A A' : Nat → Prop} {n : Nat} (P : Nat → Prop) (a b : T) (w : World) (e v e' v' : Value) (ha : RT A w (n + 1) a e v) (hb : RT A' w (n + 1) b e' v') (ma : mayB (n + 1) a = true) (mb : mayB (n + 1) b = true)
    (h1 : belB (n + 1) a b = false) (h2 : belB (n + 1) b a = false) (h3 : (trB a = true ∧ trB b = true) ∨ a.k ≠ b.k) : Calls Try.prog 32 #[tv a e v, tv b e' v'] w (JoinP P (n + 1) (jn (n + 1) a b) w) := by
  obtain ⟨pe, ce, pv, cv, rfl, rfl, z1, z2, z3, z4⟩ := ha.sl
  obtain ⟨pe', ce', pv', cv', rfl, rfl, z1', z2', z3', z4'⟩ := hb.sl
  obtain ⟨U, hU⟩ : ∃ U, U = ((w.alloc (.cells #[.int .i64 a.k, .string a.n, .slice pe a.l.length ce, .slice pv a.ats.length cv] 25)).alloc (.cells #[.int .i64 b.k, .string b.n, .slice pe' b.l.length ce', .slice pv' b.ats.length cv'] 25)).alloc (.cells #[.int .i64 0, .string ⟨#[]⟩, .slice none 0 0, .slice none 0 0] 25) := ⟨_, rfl⟩
  have LU := Lib.hid (show Low w U by rw [hU]; exact low_new (low_new (low_new (Low.refl w) _) _) _)
  have FU := Lib.hid (fun W (h : Low U W) => low_box2 (w := w) (wr := W) ((show Low ((w.alloc (.cells #[.int .i64 a.k, .string a.n, .slice pe a.l.length ce, .slice pv a.ats.length cv] 25)).alloc (.cells #[.int .i64 b.k, .string b.n, .slice pe' b.l.length ce', .slice pv' b.ats.length cv'] 25)) U by rw [hU]; exact low_new (Low.refl _) _).trans h))
  have ZU := Lib.hid (show BoxAt U (w.heap.size + 2) [.int .i64 0, .string ⟨#[]⟩, .slice none 0 0, .slice none 0 0] from BoxAt.made hU (by simp) rfl)
  have HZS := Lib.hid (show U.heap.size = w.heap.size + 3 by rw [hU]; simp)
  have HU := Lib.hid hU
  have HB1 := Lib.hid (below_n (n + 1) A A' a b U _ _ _ _ (ha.low LU.out) (hb.low LU.out) ma mb)
  have HB2 := Lib.hid fun W (l : Low U W) => below_n (n + 1) A' A b a W _ _ _ _ (hb.low (LU.out.trans l)) (ha.low (LU.out.trans l)) mb ma
  have HT1 := Lib.hid fun W => truth_c a W pe pv ce cv
  have HT2 := Lib.hid fun W => truth_c b W pe' pv' ce' cv'
  rw [h1] at HB1
  rw [h2] at HB2
  have HJ := Lib.hid (show jn (n + 1) a b = if trB a = true ∧ trB b = true then some boolT else none by
    rw [jn, if_neg (by rw [h1]; simp), if_neg (by rw [h2]; simp)]
    by_cases ht : trB a = true ∧ trB b = true
    · rw [if_pos ht, if_pos ht]
    · rw [if_neg ht, if_neg ht]
      rcases h3 with h3 | h3
      · exact absurd h3 ht
      · rw [if_pos h3])
  have H3 := Lib.hid h3
  unfold tv at *
  clear ha hb ma mb hU h1 h2 h3
  go_enter Try.func32, Try.ntmps32
  go_upto_region 1 with fail
  rw [← HU.out]
  obtain ⟨⟨f0, f1, f2, f3⟩, i0, i1, i2, i3⟩ := FU.out U (Low.refl U)
  go_wp2_with fail
  refine HB1.out.mono ?_
  rintro e w1 ⟨rfl, l1⟩
  have L1 := Lib.hid l1
  clear l1 HB1
  clear f0 f1 f2 f3 i0 i1 i2 i3
  obtain ⟨⟨f0, f1, f2, f3⟩, i0, i1, i2, i3⟩ := FU.out w1 L1.out
  have HB3 := Lib.hid (HB2.out w1 L1.out)
  go_wp2_with fail
  refine HB3.out.mono ?_
  rintro e w2 ⟨rfl, l2⟩
  have L2 := Lib.hid (L1.out.trans l2)
  clear l2 HB3 HB2
  clear f0 f1 f2 f3 i0 i1 i2 i3
  obtain ⟨⟨f0, f1, f2, f3⟩, i0, i1, i2, i3⟩ := FU.out w2 L2.out
  have HT3 := Lib.hid (HT1.out w2)
  obtain ⟨c, hc⟩ : ∃ c, c = trB a := ⟨_, rfl⟩
  obtain ⟨d, hd⟩ : ∃ d, d = trB b := ⟨_, rfl⟩
  rw [← hc] at HT3 HJ H3
  rw [← hd] at HT2 HJ H3
  clear hc hd HT1
  go_wp2_with fail
  refine HT3.out.mono ?_
  rintro e w3 ⟨rfl, l3⟩
  have L3 := Lib.hid (L2.out.trans l3)
  clear l3 HT3
  clear f0 f1 f2 f3 i0 i1 i2 i3
  obtain ⟨⟨f0, f1, f2, f3⟩, i0, i1, i2, i3⟩ := FU.out w3 L3.out
  cases c with
  | false =>
    have hk : a.k ≠ b.k := by rcases H3.out with h | h; simp at h; exact h
    have bk := beq_f hk
    have bk2 : (!a.k == b.k) = true := by rw [bk]; rfl
    have HJ2 := Lib.hid (show jn (n + 1) a b = none by rw [HJ.out]; rfl)
    clear hk
    obtain ⟨g0, g1, g2, g3⟩ := (ZU.out.low L3.out).at4
    obtain ⟨o0, o1, o2, o3⟩ := (ZU.out.low L3.out).op4
    go_wp2_with fail
    refine bodyPost_ret (v := .tuple #[.agg #[.int .i64 0, .string ⟨#[]⟩, .slice none 0 0, .slice none 0 0], .int .i64 30]) (by simp [results, Try.results32, go_sem, World.cell?_setCell_same', g0, g1, g2, g3]; try rfl) rfl ?_
    have K8 := kept4 w3 (w.heap.size + 2) 0 1 2 3 (.int .i64 0) (.string ⟨#[]⟩) (.slice none 0 0) (.slice none 0 0)
    refine ⟨noT, none, 0, none, 0, 30, rfl, ?_, rt_kind _ _ _ _, low_all (LU.out.trans L3.out) (by omega) K8⟩
    rw [HJ2.out]; exact ⟨rfl, rfl⟩
  | true =>
    have HT4 := Lib.hid (HT2.out w3)
    go_wp2_with fail
    refine HT4.out.mono ?_
    rintro e w4 ⟨rfl, l4⟩
    have L4 := Lib.hid (L3.out.trans l4)
    clear l4 HT4 HT2
    clear f0 f1 f2 f3 i0 i1 i2 i3
    obtain ⟨⟨f0, f1, f2, f3⟩, i0, i1, i2, i3⟩ := FU.out w4 L4.out
    cases d with
    | false =>
      have hk : a.k ≠ b.k := by rcases H3.out with h | h; simp at h; exact h
      have bk := beq_f hk
      have bk2 : (!a.k == b.k) = true := by rw [bk]; rfl
      have HJ2 := Lib.hid (show jn (n + 1) a b = none by rw [HJ.out]; rfl)
      clear hk
      obtain ⟨g0, g1, g2, g3⟩ := (ZU.out.low L4.out).at4
      obtain ⟨o0, o1, o2, o3⟩ := (ZU.out.low L4.out).op4
      go_wp2_with fail
      refine bodyPost_ret (v := .tuple #[.agg #[.int .i64 0, .string ⟨#[]⟩, .slice none 0 0, .slice none 0 0], .int .i64 30]) (by simp [results, Try.results32, go_sem, World.cell?_setCell_same', g0, g1, g2, g3]; try rfl) rfl ?_
      have K8 := kept4 w4 (w.heap.size + 2) 0 1 2 3 (.int .i64 0) (.string ⟨#[]⟩) (.slice none 0 0) (.slice none 0 0)
      refine ⟨noT, none, 0, none, 0, 30, rfl, ?_, rt_kind _ _ _ _, low_all (LU.out.trans L4.out) (by omega) K8⟩
      rw [HJ2.out]; exact ⟨rfl, rfl⟩
    | true =>
      have HJ2 := Lib.hid (show jn (n + 1) a b = some boolT by rw [HJ.out]; rfl)
      obtain ⟨g0, g1, g2, g3⟩ := (ZU.out.low L4.out).at4
      obtain ⟨o0, o1, o2, o3⟩ := (ZU.out.low L4.out).op4
      go_wp2_with fail
      refine bodyPost_ret (v := .tuple #[.agg #[.int .i64 3, .string ⟨#[]⟩, .slice none 0 0, .slice none 0 0], .int .i64 0]) (by simp [results, Try.results32, go_sem, World.cell?_setCell_same', g0, g1, g2, g3]; try rfl) rfl ?_
      have K8 := kept4 w4 (w.heap.size + 2) 0 1 2 3 (.int .i64 3) (.string ⟨#[]⟩) (.slice none 0 0) (.slice none 0 0)
      refine ⟨boolT, none, 0, none, 0, 0, rfl, ?_, rt_kind _ _ _ _, low_all (LU.out.trans L4.out) (by omega) K8⟩
      rw [HJ2.out]; exact ⟨rfl, rfl⟩
end Go.Proofs.Ytjipncpgmajeeaa
