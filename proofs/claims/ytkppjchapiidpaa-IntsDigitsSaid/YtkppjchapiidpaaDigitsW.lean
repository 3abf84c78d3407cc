/- Any digits, with or without a sign, are the number that the document says, or refused. No condition. -/
import Derived.Test.YtkppjchapiidpaaReads
import Derived.Test.YtkppjchapiidpaaFrame
namespace Go.Proofs.Ytkppjchapiidpaa
open Go.RowKit
attribute [local go_sem] alloc_drewN setCell_drewN
theorem cut_size (a b : Nat) : ((ByteArray.mk #[48, 49, 50, 51, 52, 53, 54, 55, 56, 57]).extract a b).size ≤ 10 := by
  rw [ByteArray.size_extract]
  have : (ByteArray.mk #[48, 49, 50, 51, 52, 53, 54, 55, 56, 57]).size = 10 := rfl
  omega
set_option maxHeartbeats 1000000 in
theorem digits_row (b off len cap : Nat) (zs : List Int) (m : Bool) (hl0 : len ≤ 60) (hlc : len ≤ cap) (hz : zs.length = cap) (w : World)
    (hcell : Hid (∀ j, j < zs.length → w.cell? ⟨b, off + j, none⟩ = some (.int .u8 (zs.getD j 0)))) (hr : Hid (∀ j, j < zs.length → 0 ≤ zs.getD j 0 ∧ zs.getD j 0 ≤ 255)) (hb : b < w.heap.size) :
    Calls Try.prog 9 #[.slice (some ⟨b, off, none⟩) len cap, .bool m] w fun e w' => e = .returned (.bool true) ∧ Grown w w' := by
  have hq : decide (60 < (len : Int)) = false := decide_eq_false (by omega)
  have HZ := Lib.hid hz
  clear hz
  cases m
  all_goals
    go_enter Try.func9, Try.ntmps9
    go_wp2_with fail
    refine (awake_c _).mono ?_
    rintro e w1 ⟨rfl, h1⟩
    go_wp2_with fail
    go_loopw [6, 7] (fun t i wr => ∃ (k : Nat) (S : ByteArray), k ≤ len ∧ i = .int .i64 k ∧ t = .string S ∧ S.size ≤ 1 + 10 * k ∧ Grown w wr) (fun _ i _ => len - (intOf i).toNat)
    case atStart => exact ⟨0, _, Nat.zero_le _, rfl, rfl, by decide, h1⟩
    case round =>
      obtain ⟨k, S, hk, rfl, rfl, hS, hg⟩ := hrel
      by_cases hlt : k < len
      · have hk2 : k < zs.length := by rw [HZ.out]; omega
        have hc1 : wr.cell? ⟨b, off + k, none⟩ = some (.int .u8 (zs.getD k 0)) := gkeep hg (hcell.out k hk2) hb
        obtain ⟨g1, g2⟩ := hr.out k hk2
        obtain ⟨v, hv⟩ : ∃ v, zs.getD k 0 = v := ⟨_, rfl⟩
        rw [hv] at hc1 g1 g2
        clear hv
        have hki : (k : Int) < (len : Int) := by omega
        have hk0 : 0 ≤ (k : Int) := by omega
        have u1 : IntKind.u8.wrap (v % 10 + 1) = v % 10 + 1 := by rw [IntKind.wrap_u8]; omega
        have s1 : 0 ≤ v % 10 := by omega
        have s2 : v % 10 + 1 ≤ 10 := by omega
        have s3 : v % 10 ≤ v % 10 + 1 := by omega
        go_wp2_with fail
        go_quiet (fail)
        go_wp2_with fail
        go_roundw
        case rel => exact ⟨k + 1, _, by omega, by go_num, rfl, by rw [ByteArray.size_append]; have := cut_size (v % 10).toNat (v % 10 + 1).toNat; omega, hg⟩
        case measure => simp [intOf]; omega
      · have hS2 : S.size ≤ 9223372036854775807 := by omega
        go_wp2_with fail
        refine (read_c S hS2 _).mono ?_
        rintro e w' ⟨rfl, rfl⟩
        go_wp2_with fail
        refine (refRead_c S hS2 _).mono ?_
        rintro e w2 ⟨rfl, h2⟩
        go_wp2_with fail
        go_ret
        exact ⟨rfl, grown_trans hg h2⟩
set_option maxHeartbeats 1000000 in
theorem digits_none (a : Option Addr) (cap : Nat) (m : Bool) (w : World) :
    Calls Try.prog 9 #[.slice a 0 cap, .bool m] w fun e w' => e = .returned (.bool true) ∧ Grown w w' := by
  cases m
  all_goals
    go_enter Try.func9, Try.ntmps9
    go_wp2_with fail
    refine (awake_c _).mono ?_
    rintro e w1 ⟨rfl, h1⟩
    go_wp2_with fail
    refine wp_loop_rounds 1 ?_
    rw [rounds_succ]
    go_wp2_with fail
    refine (read_c _ (by decide) _).mono ?_
    rintro e w' ⟨rfl, rfl⟩
    go_wp2_with fail
    refine (refRead_c _ (by decide) _).mono ?_
    rintro e w2 ⟨rfl, h2⟩
    go_wp2_with fail
    go_ret
    exact ⟨rfl, grown_trans h1 h2⟩
set_option maxHeartbeats 1000000 in
theorem digits_long (a : Option Addr) (len cap : Nat) (m : Bool) (hl : 60 < len) (w : World) :
    Calls Try.prog 9 #[.slice a len cap, .bool m] w fun e w' => e = .returned (.bool true) ∧ Grown w w' := by
  have hq : decide (60 < (len : Int)) = true := decide_eq_true (by omega)
  go_enter Try.func9, Try.ntmps9
  go_wp2_with fail
  refine (awake_c _).mono ?_
  rintro e w1 ⟨rfl, h1⟩
  go_wp2_with fail
  go_ret
  exact ⟨rfl, h1⟩
theorem cell_lt {w : World} {b o : Nat} {v : Value} (h : w.cell? ⟨b, o, none⟩ = some v) : b < w.heap.size := by
  rcases Nat.lt_or_ge b w.heap.size with k | k
  · exact k
  · have e : w.heap[b]? = none := by simp; exact k
    simp [World.cell?, e] at h
theorem intsDigits_walk (a0 : Option Addr) (len0 cap0 : Nat) (z0 : List Int) (a1 : Bool) (w : World)
    (w0 : (a0 = none ∧ len0 = 0 ∧ cap0 = 0 ∧ z0 = []) ∨ ∃ x, a0 = some x ∧ len0 ≤ cap0 ∧ cap0 ≤ maxLen ∧ z0.length = cap0 ∧ (∀ i, i < z0.length → w.cell? (x.add i) = some (.int .u8 (z0.getD i 0))) ∧ ∀ n ∈ z0, (Lit.int .u8 n).wf = true) :
    Calls Try.prog 9 #[.slice a0 len0 cap0, .bool a1] w fun e w' => e = .returned (.bool true) ∧ Grown w w' := by
  by_cases h0 : len0 = 0
  · subst h0; exact digits_none a0 cap0 a1 w
  · by_cases h1 : 60 < len0
    · exact digits_long a0 len0 cap0 a1 h1 w
    · rcases w0 with ⟨_, h, _, _⟩ | ⟨x, rfl, hlc, _, hz, hcell, hwf⟩
      · exact absurd h h0
      · obtain ⟨b, off, rfl, hc⟩ := ints_at hcell (by omega)
        have hb : b < w.heap.size := cell_lt (hc 0 (by omega))
        refine digits_row b off len0 cap0 z0 a1 (by omega) hlc hz w (Lib.hid hc) (Lib.hid fun j hj => ?_) hb
        have hm : z0.getD j 0 ∈ z0 := by
          rw [List.getD_eq_getElem?_getD, List.getElem?_eq_getElem hj]; exact List.getElem_mem hj
        exact bounds_u8 (hwf _ hm)
end Go.Proofs.Ytkppjchapiidpaa
