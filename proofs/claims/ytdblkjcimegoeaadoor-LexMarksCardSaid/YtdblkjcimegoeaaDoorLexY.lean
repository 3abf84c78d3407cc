/- LexMarks: the walk. Condition: the table of marks is as it was laid. -/
import Derived.Test.YtdblkjcimegoeaaDoorLexW
import Derived.OpenShut
namespace Go.Proofs.YtdblkjcimegoeaaDoor
open Go.RowKit
theorem lexF_len : ∀ (f : Nat) (l : List UInt8) (a : Nat), (lexF f l a).2.2.length ≤ f + 1
  | 0, _, _ => by simp [lexF]
  | f + 1, l, a => by
    rw [lexF]
    split
    · simp
    · split
      · have ih := lexF_len f (l.drop ((fst1 l).w + skp false (l.drop (fst1 l).w))) (a + ((fst1 l).w + skp false (l.drop (fst1 l).w)))
        split
        · simp; omega
        · omega
      · simp
theorem lexL_len (l : List UInt8) : (lexL l).2.2.length ≤ 65537 := by
  unfold lexL
  split
  · simp
  · unfold lexR
    have := lexF_len (l.drop (skp false l)).length (l.drop (skp false l)) (skp false l)
    rw [List.length_drop] at this
    rw [List.length_drop]
    omega
/-- What both rows of words are, by names. -/
theorem both (s : ByteArray) (hs : s.size ≤ 4294967294) : ∃ (er pl : Int) (ws : List Wd), ws.length ≤ 65537 ∧ lexL s.data.toList = (er, pl.toNat, ws) ∧
    Hid (∀ w, MkAt w → Calls Tryd.prog 9 #[.string s] w fun e w' => ∃ v, e = .returned (.tuple #[v, .int .i64 er, .int .i64 pl]) ∧ OwnW w.heap.size w' v ws ∧ Low w w') ∧
    Hid (∀ w, Calls Tryd.prog 10 #[.string s] w fun e w' => ∃ v, e = .returned (.tuple #[v, .int .i64 er, .int .i64 pl]) ∧ OwnX w.heap.size w' v ws ∧ Low w w') :=
  ⟨(lexL s.data.toList).1, ((lexL s.data.toList).2.1 : Nat), (lexL s.data.toList).2.2, lexL_len _, rfl, Lib.hid fun w hm => words_c s hs w hm, Lib.hid fun w => refWords_c s hs w⟩
theorem mb20_run : ∀ (k : Nat) (_ : k < 20) (w : World), (Instr.index 9 (.string ⟨#[40, 41, 123, 125, 91, 93, 44, 59, 58, 46, 60, 62, 33, 43, 45, 42, 64, 61, 38, 124]⟩) (.int .u8 (k : Int))).run Tryd.prog w = .ok (.int .u8 (([(40 : UInt8), 41, 123, 125, 91, 93, 44, 59, 58, 46, 60, 62, 33, 43, 45, 42, 64, 61, 38, 124].getD k 0).toNat)) w
  | 0, _, w => by go_simp; rfl
  | 1, _, w => by go_simp; rfl
  | 2, _, w => by go_simp; rfl
  | 3, _, w => by go_simp; rfl
  | 4, _, w => by go_simp; rfl
  | 5, _, w => by go_simp; rfl
  | 6, _, w => by go_simp; rfl
  | 7, _, w => by go_simp; rfl
  | 8, _, w => by go_simp; rfl
  | 9, _, w => by go_simp; rfl
  | 10, _, w => by go_simp; rfl
  | 11, _, w => by go_simp; rfl
  | 12, _, w => by go_simp; rfl
  | 13, _, w => by go_simp; rfl
  | 14, _, w => by go_simp; rfl
  | 15, _, w => by go_simp; rfl
  | 16, _, w => by go_simp; rfl
  | 17, _, w => by go_simp; rfl
  | 18, _, w => by go_simp; rfl
  | 19, _, w => by go_simp; rfl
  | n + 20, h, _ => absurd h (by omega)
def IsRow (k : IntKind) (w : World) (a : Option Addr) (len cap : Nat) (zs : List Int) : Prop :=
  (a = none ∧ len = 0 ∧ cap = 0 ∧ zs = []) ∨
  ∃ x, a = some x ∧ len ≤ cap ∧ cap ≤ maxLen ∧ zs.length = cap ∧ (∀ i, i < zs.length → w.cell? (x.add i) = some (.int k (zs.getD i 0))) ∧ ∀ n ∈ zs, (Lit.int k n).wf = true
set_option maxHeartbeats 1600000 in
theorem marks_row (b off len cap : Nat) (zs : List Int) (hl0 : len ≤ 60) (hlc : len ≤ cap) (hz : zs.length = cap) (w : World) (hm : MkAt w)
    (hcell : Hid (∀ j, j < zs.length → w.cell? ⟨b, off + j, none⟩ = some (.int .u8 (zs.getD j 0)))) (hr : Hid (∀ j, j < zs.length → 0 ≤ zs.getD j 0 ∧ zs.getD j 0 ≤ 255)) :
    Calls Tryd.prog 7 #[.slice (some ⟨b, off, none⟩) len cap] w fun e w' => e = .returned (.bool true) ∧ Low w w' := by
  have hq : ¬ (60 : Int) < (len : Int) := by omega
  have HZ := Lib.hid hz
  have HM := Lib.hid hm
  clear hz hm
  go_enter Tryd.func7, Tryd.ntmps7
  go_wp2_with fail
  refine (awake7_c _ HM.out).mono ?_
  rintro e w1 ⟨rfl, l1⟩
  have L1 := Lib.hid l1
  clear l1
  go_wp2_with fail
  go_loopg [4, 5] len (fun gk vb vi wr => ∃ (v : Value) (k : Nat) (X : List UInt8), v = vb ∧ vi = .int .i64 (k : Int) ∧ k ≤ len ∧ len - k ≤ gk ∧ X.length = k ∧ Hid (Low w wr) ∧ Hid (Own w.heap.size wr v X))
  case atStart => exact ⟨_, 0, [], rfl, rfl, Nat.zero_le _, Nat.le_refl _, rfl, L1, Lib.hid (Own.nil _ _)⟩
  case round =>
    obtain ⟨v, k, X, rfl, rfl, hk, hg, hX, G, HO⟩ := hrel
    have hsz : w.heap.size ≤ wr.heap.size := G.out.size
    by_cases hlt : k < len
    · have hk2 : k < zs.length := by rw [HZ.out]; omega
      have hc1 : wr.cell? ⟨b, off + k, none⟩ = some (.int .u8 (zs.getD k 0)) := G.out.keep (hcell.out k hk2)
      obtain ⟨g1, g2⟩ := hr.out k hk2
      obtain ⟨x, hv⟩ : ∃ x, zs.getD k 0 = x := ⟨_, rfl⟩
      rw [hv] at hc1 g1 g2
      clear hv
      have hki : (k : Int) < (len : Int) := by omega
      obtain ⟨m, hm⟩ : ∃ m : Nat, x % 20 = (m : Int) := ⟨(x % 20).toNat, by omega⟩
      have hm20 : m < 20 := by omega
      have HRX := mb20_run m hm20
      have HT : x.tmod 20 = (m : Int) := by rw [Int.tmod_eq_emod_of_nonneg g1]; exact hm
      obtain ⟨c, hc⟩ : ∃ c : UInt8, [(40 : UInt8), 41, 123, 125, 91, 93, 44, 59, 58, 46, 60, 62, 33, 43, 45, 42, 64, 61, 38, 124].getD m 0 = c := ⟨_, rfl⟩
      rw [hc] at HRX
      clear hc
      go_wp2_with (at_builtin; refine own_app rfl _ _ _ rfl Tryd.underlying32 w.heap.size v X [c] rfl (Own.alloc HO.out _) ⟨wr.heap.size, 0, none⟩ 1 _ rfl rfl (cells_new _ [c] _ _ rfl) (by omega) (by simp; omega) ?_; intro v2 w2 h2 b2)
      go_roundg (len - (k + 1))
      case measure => omega
      case rel => exact ⟨v2, k + 1, X ++ [c], rfl, by go_num, by omega, by omega, by simp; omega, Lib.hid ((low_new G.out _).trans_below b2 (Nat.le_refl _)), Lib.hid h2⟩
    · have hki : ¬ (k : Int) < (len : Int) := by omega
      have hXs : (ByteArray.mk X.toArray).size ≤ 60 := by show X.toArray.size ≤ 60; simp; omega
      obtain ⟨er, pl, ws, hws, -, HW, HR⟩ := both (ByteArray.mk X.toArray) (by omega)
      have HMr := Lib.hid (HM.out.low G.out)
      have C1 := own_conv HO.out
      go_wp2_with fail
      refine (HW.out _ HMr.out).mono ?_
      rintro e w2 ⟨v1, rfl, hv1, l2⟩
      have L2 := Lib.hid (G.out.trans l2)
      have O1 := Lib.hid hv1
      have C2 := own_conv (own_low (Below.refl _ _) HO.out l2)
      clear l2 hv1
      go_wp2_with fail
      refine (HR.out _).mono ?_
      rintro e w3 ⟨v2, rfl, hv2, l3⟩
      have SM := Lib.hid (same_c _ _ v1 v2 ws (by omega) w3 (OwnR.low O1.out l3) hv2)
      have L3 := Lib.hid (L2.out.trans l3)
      clear l3 hv2 C1 C2
      go_wp2_with fail
      refine SM.out.mono ?_
      rintro e w4 ⟨rfl, l4⟩
      go_wp2_with fail
      go_ret
      exact ⟨rfl, L3.out.trans l4⟩
theorem marks_none (a : Option Addr) (cap : Nat) (w : World) (hm : MkAt w) :
    Calls Tryd.prog 7 #[.slice a 0 cap] w fun e w' => e = .returned (.bool true) ∧ Low w w' := by
  have HM := Lib.hid hm
  clear hm
  obtain ⟨er, pl, ws, hws, -, HW, HR⟩ := both (ByteArray.mk #[]) (by decide)
  go_enter Tryd.func7, Tryd.ntmps7
  go_wp2_with fail
  refine (awake7_c _ HM.out).mono ?_
  rintro e w1 ⟨rfl, l1⟩
  have G := Lib.hid l1
  have HMr := Lib.hid (HM.out.low l1)
  have HO := Lib.hid (Own.nil w.heap.size w1)
  have C1 := own_conv HO.out
  clear l1
  go_wp2_with fail
  refine wp_loop_rounds 1 ?_
  rw [rounds_succ]
  go_wp2_with fail
  refine (HW.out _ HMr.out).mono ?_
  rintro e w2 ⟨v1, rfl, hv1, l2⟩
  have L2 := Lib.hid (G.out.trans l2)
  have O1 := Lib.hid hv1
  have C2 := own_conv (own_low (Below.refl _ _) HO.out l2)
  clear l2 hv1
  go_wp2_with fail
  refine (HR.out _).mono ?_
  rintro e w3 ⟨v2, rfl, hv2, l3⟩
  have SM := Lib.hid (same_c _ _ v1 v2 ws (by omega) w3 (OwnR.low O1.out l3) hv2)
  have L3 := Lib.hid (L2.out.trans l3)
  clear l3 hv2 C1 C2
  go_wp2_with fail
  refine SM.out.mono ?_
  rintro e w4 ⟨rfl, l4⟩
  go_wp2_with fail
  go_ret
  exact ⟨rfl, L3.out.trans l4⟩
theorem marks_long (a : Option Addr) (len cap : Nat) (hl : 60 < len) (w : World) (hm : MkAt w) :
    Calls Tryd.prog 7 #[.slice a len cap] w fun e w' => e = .returned (.bool true) ∧ Low w w' := by
  have hq : (60 : Int) < (len : Int) := by omega
  have HM := Lib.hid hm
  clear hm
  go_enter Tryd.func7, Tryd.ntmps7
  go_wp2_with fail
  refine (awake7_c _ HM.out).mono ?_
  rintro e w1 ⟨rfl, h1⟩
  go_wp2_with fail
  go_ret
  exact ⟨rfl, h1⟩
theorem lexMarks_walk (a0 : Option Addr) (len0 cap0 : Nat) (z0 : List Int) (w : World) (w0 : IsRow .u8 w a0 len0 cap0 z0) (hm : MkAt w) :
    Calls Tryd.prog 7 #[.slice a0 len0 cap0] w fun e w' => e = .returned (.bool true) ∧ Low w w' := by
  by_cases h0 : len0 = 0
  · subst h0; exact marks_none a0 cap0 w hm
  · by_cases h1 : 60 < len0
    · exact marks_long a0 len0 cap0 h1 w hm
    · rcases w0 with ⟨_, h, _, _⟩ | ⟨x, rfl, hlc, _, hz, hcell, hwf⟩
      · exact absurd h h0
      · obtain ⟨b, off, rfl, hc⟩ := ints_at hcell (by omega)
        refine marks_row b off len0 cap0 z0 (by omega) hlc hz w hm (Lib.hid hc) (Lib.hid fun j hj => ?_)
        have hm : z0.getD j 0 ∈ z0 := by
          rw [List.getD_eq_getElem?_getD, List.getElem?_eq_getElem hj]; exact List.getElem_mem hj
        exact bounds_u8 (hwf _ hm)
end Go.Proofs.YtdblkjcimegoeaaDoor
