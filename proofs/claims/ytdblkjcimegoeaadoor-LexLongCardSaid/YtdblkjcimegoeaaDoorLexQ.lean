/- LexLong: the walk. Condition: the table of marks is as it was laid. -/
import Derived.Test.YtdblkjcimegoeaaDoorLexW
import Derived.OpenShut
import Derived.Laws.Bits128
import Derived.Deep.OwnRows
namespace Go.Proofs.YtdblkjcimegoeaaDoor
open Go.RowKit
theorem lexF_len : ∀ (f : Nat) (l : List UInt8) (a : Nat), (lexF f l a).2.2.length ≤ f + 1
  | 0, _, _ => by simp [lexF]
  | f + 1, l, a => by
    rw [lexF]
    split
    · simp
    · split
      · have ih := lexF_len f (l.drop ((fst1 l).w + skp false (l.drop (fst1 l).w))) (a + ((fst1 l).w + skp false (l.drop (fst1 l).w)))
        split
        · simp; omega
        · omega
      · simp
theorem lexL_len (l : List UInt8) : (lexL l).2.2.length ≤ 65537 := by
  unfold lexL
  split
  · simp
  · unfold lexR
    have := lexF_len (l.drop (skp false l)).length (l.drop (skp false l)) (skp false l)
    rw [List.length_drop] at this
    rw [List.length_drop]
    omega
/-- What both rows of words are, by names. -/
theorem both (s : ByteArray) (hs : s.size ≤ 4294967294) : ∃ (er pl : Int) (ws : List Wd), ws.length ≤ 65537 ∧ lexL s.data.toList = (er, pl.toNat, ws) ∧
    Hid (∀ w, MkAt w → Calls Tryd.prog 9 #[.string s] w fun e w' => ∃ v, e = .returned (.tuple #[v, .int .i64 er, .int .i64 pl]) ∧ OwnW w.heap.size w' v ws ∧ Low w w') ∧
    Hid (∀ w, Calls Tryd.prog 10 #[.string s] w fun e w' => ∃ v, e = .returned (.tuple #[v, .int .i64 er, .int .i64 pl]) ∧ OwnX w.heap.size w' v ws ∧ Low w w') :=
  ⟨(lexL s.data.toList).1, ((lexL s.data.toList).2.1 : Nat), (lexL s.data.toList).2.2, lexL_len _, rfl, Lib.hid fun w hm => words_c s hs w hm, Lib.hid fun w => refWords_c s hs w⟩
theorem i64_and63 (n : Int) : bits .and .i64 n 63 = n % 64 := by
  have h63 : (BitVec.ofInt 64 63).toNat = 2 ^ 6 - 1 := by decide
  have key : (BitVec.ofInt 64 n &&& BitVec.ofInt 64 63).toNat = (n % ((2 ^ 64 : Nat) : Int)).toNat % 2 ^ 6 := by
    rw [BitVec.toNat_and, BitVec.toNat_ofInt, h63, Nat.and_two_pow_sub_one_eq_mod]
  show IntKind.i64.wrap ((BitVec.ofInt 64 n &&& BitVec.ofInt 64 63).toNat : Nat) = n % 64
  rw [key, IntKind.wrap_i64]
  omega
def blkS (k : Nat) : ByteArray := ⟨(List.replicate k 32).toArray⟩
theorem blkS_size (k : Nat) : (blkS k).size = k := by
  show (List.replicate k (32 : UInt8)).toArray.size = k
  simp
theorem make_run (k : Nat) (K : Int) (hK : K = (k : Int)) (hk : k ≤ 1000000) (W : World) : (Instr.makeSlice 32 (.int .i64 K) (.int .i64 K)).run Tryd.prog W = .ok (.slice (some ⟨W.heap.size, 0, none⟩) k k) (W.alloc (.cells (madeCells #[.int .u8 0] k) 5)) := by
  subst hK
  obtain ⟨i0, hi, hz0, hz1, hz2⟩ := info_parts u8_info
  exact run_make_row 32 5 i0 (.int .u8 0) Tryd.underlying32 hi hz0 hz1 rfl .i64 .i64 k (by rw [hz2]; omega) (by omega) W
theorem blk_conv (k g : Nat) (W : World) (h : W.rowIs g 5 k (fun j => if j < k then .int .u8 32 else .int .u8 0)) : (convert 32 9 (.slice (some ⟨g, 0, none⟩) k k)).run Tryd.prog W = .ok (.string (blkS k)) W := by
  have h := run_convert_bytes_back (P := Tryd.prog) W 32 9 5 ⟨g, 0, none⟩ k (List.replicate k 32) Tryd.underlying32 Tryd.underlying5 Tryd.underlying9 fun j hj => by
    rw [Addr.add_lit, Nat.zero_add]
    have hj' : j < k := by simpa using hj
    rw [h.cell hj', if_pos hj']
    simp
  rw [List.length_replicate] at h
  exact h
theorem lexL_blks (k : Nat) : lexL (blkS k).data.toList = if 65536 < k then (12, 0, []) else (0, 0, [⟨0, [], 0, k⟩]) := by
  have e : (blkS k).data.toList = List.replicate k 32 := rfl
  rw [e]
  by_cases h : 65536 < k
  · rw [if_pos h, lexL_long (by simpa using h)]
  · rw [if_neg h, lexL_blank _ (fun x hx => by rw [List.eq_of_mem_replicate hx]; decide) (by simp; omega), List.length_replicate]
theorem long_far (k : Nat) (h : 65536 < k) (hk : k ≤ 1000000) (S : ByteArray) (hS : S = blkS k) (W : World) (hm : MkAt W) : Calls Tryd.prog 9 #[.string S] W fun e w' => ∃ ao cap, e = .returned (.tuple #[.slice ao 0 cap, .int .i64 12, .int .i64 0]) ∧ Low W w' := by
  subst hS
  refine (words_c (blkS k) (by rw [blkS_size]; omega) W hm).mono ?_
  rintro e w' ⟨v, rfl, hown, hl⟩
  rw [lexL_blks, if_pos h] at hown ⊢
  obtain ⟨ao, cap, rfl, -⟩ := OwnR.shape hown
  exact ⟨ao, cap, rfl, hl⟩
theorem long_near (k : Nat) (h : ¬ 65536 < k) (S : ByteArray) (hS : S = blkS k) (K : Int) (hK : K = (k : Int)) (W : World) (hm : MkAt W) : Calls Tryd.prog 9 #[.string S] W fun e w' => ∃ g cap : Nat, e = .returned (.tuple #[.slice (some ⟨g, 0, none⟩) 1 cap, .int .i64 0, .int .i64 0]) ∧ 1 ≤ cap ∧ w'.cell? ⟨g, 3, none⟩ = some (.int .i64 K) ∧ Low W w' := by
  subst hS hK
  refine (words_c (blkS k) (by rw [blkS_size]; omega) W hm).mono ?_
  rintro e w' ⟨v, rfl, hown, hl⟩
  rw [lexL_blks, if_neg h] at hown ⊢
  obtain ⟨g, cap, rfl, hc, hg, kk⟩ := row_cells hown (by simp)
  exact ⟨g, cap, rfl, hc, (kk 0 (by simp)).2.2.2, hl⟩
set_option maxRecDepth 100000 in
set_option maxHeartbeats 1600000 in
theorem lexLong_walk (a0 : Int) (w : World) (hm : MkAt w) : Calls Tryd.prog 5 #[.int .i64 a0] w fun e w' => e = .returned (.bool true) ∧ Low w w' := by
  have HM := Lib.hid hm
  clear hm
  have A63 := i64_and63 a0
  obtain ⟨K, hK0⟩ : ∃ K : Int, 65500 + a0 % 64 = K := ⟨_, rfl⟩
  obtain ⟨k, hk⟩ : ∃ k : Nat, K = (k : Int) := ⟨K.toNat, by omega⟩
  have hk1 : 65500 ≤ k ∧ k ≤ 65563 := by omega
  have MK := make_run k K hk (by omega)
  obtain ⟨S, hS⟩ : ∃ S, S = blkS k := ⟨_, rfl⟩
  have CV := Lib.hid (fun W g h => blk_conv k g W h)
  rw [← hS] at CV
  have FAR := fun h => Lib.hid (long_far k h (by omega) S hS)
  have NEAR := fun h => Lib.hid (long_near k h S hS K hk)
  have HKN := Lib.hid hk
  have H1 := Lib.hid hk1
  clear hk hS hk1
  go_enter Tryd.func5, Tryd.ntmps5
  go_wp2_with fail
  refine (awake7_c _ HM.out).mono ?_
  rintro e w1 ⟨rfl, l1⟩
  have L1 := Lib.hid l1
  have HM1 := Lib.hid (HM.out.low l1)
  clear l1
  go_wp2_with fail
  clear MK A63 hK0
  go_loopg [6] k (fun gk vi wr => ∃ i : Nat, vi = .int .i64 (i : Int) ∧ i ≤ k ∧ k - i ≤ gk ∧ Hid (Low w1 wr) ∧ Hid (wr.rowIs w1.heap.size 5 k (fun j => if j < i then .int .u8 32 else .int .u8 0)))
  case atStart => exact ⟨0, rfl, Nat.zero_le _, Nat.le_refl _, Lib.hid (low_new (Low.refl _) _), Lib.hid ((World.rowIs_made w1 (.int .u8 0) k 5).congr (fun i _ => by simp))⟩
  case round =>
    obtain ⟨i, rfl, hi, hg, G, R⟩ := hrel
    by_cases hlt : i < k
    · have z1 : (i : Int) < K := by have := HKN.out; omega
      have z2 : (i : Int) < (k : Int) := by omega
      have z3 : (i : Int) ≤ 65563 := by have := H1.out; omega
      have hc := R.out.cell hlt
      have hf := R.out.frozen i
      rw [if_neg (Nat.lt_irrefl i)] at hc
      have NX : Hid ((wr.setCell ⟨w1.heap.size, i, none⟩ (.int .u8 32)).rowIs w1.heap.size 5 k (fun j => if j < i + 1 then .int .u8 32 else .int .u8 0)) := Lib.hid ((R.out.set i (.int .u8 32)).congr (fun j _ => by
        by_cases h : j = i
        · rw [if_pos h, if_pos (by omega)]
        · rw [if_neg h]
          by_cases h2 : j < i
          · rw [if_pos h2, if_pos (by omega)]
          · rw [if_neg h2, if_neg (by omega)]))
      go_wp2_with fail
      go_roundg (k - (i + 1))
      case measure => omega
      case rel => exact ⟨i + 1, by go_num, by omega, by omega, Lib.hid (low_put G.out (Nat.le_refl _)), NX⟩
    · have z1 : ¬ (i : Int) < K := by have := HKN.out; omega
      have hik : i = k := by omega
      subst hik
      have C := CV.out wr _ R.out
      have HMr := Lib.hid (HM1.out.low G.out)
      by_cases hb : 65536 < i
      · have zb : (65536 : Int) < K := by have := HKN.out; omega
        have FA := FAR hb
        go_wp2_with fail
        refine (FA.out _ HMr.out).mono ?_
        rintro e w2 ⟨ao, cap, rfl, l2⟩
        have L2 := Lib.hid l2
        clear l2 C
        go_wp2_with fail
        go_ret
        exact ⟨rfl, (L1.out.trans G.out).trans L2.out⟩
      · have zb : ¬ (65536 : Int) < K := by have := HKN.out; omega
        have FA := NEAR hb
        go_wp2_with fail
        refine (FA.out _ HMr.out).mono ?_
        rintro e w2 ⟨g, cap, rfl, hc1, hcell, l2⟩
        have L2 := Lib.hid l2
        clear l2 C
        go_wp2_with fail
        go_ret
        exact ⟨rfl, (L1.out.trans G.out).trans L2.out⟩
end Go.Proofs.YtdblkjcimegoeaaDoor
