/- The reference's Quote: a text in quotes. Condition: the text is shorter than 2^32. -/
import Derived.Test.YtdblkjcimegoeaaDoorQuoteW
import Derived.Deep.QuietTactic
import Derived.BigQuiet
import Derived.IntWalk
namespace Go.Proofs.YtdblkjcimegoeaaDoor
open Go.RowKit
def HexS : ByteArray := ⟨#[48, 49, 50, 51, 52, 53, 54, 55, 56, 57, 97, 98, 99, 100, 101, 102]⟩
theorem hex_cut : ∀ n : Fin 16, (HexS.extract n.val (n.val + 1)).data.toList = [hexN n.val] := by decide
theorem hex_cut' (n : Nat) (hn : n < 16) : (HexS.extract n (n + 1)).data.toList = [hexN n] := hex_cut ⟨n, hn⟩
theorem app_data (a b : ByteArray) : (a ++ b).data.toList = a.data.toList ++ b.data.toList := by simp
theorem one_cut (s : ByteArray) (k : Nat) (h : k < s.size) : (s.extract k (k + 1)).data.toList = [s[k]] := by
  rw [ByteArray.data_extract]
  simp [List.drop_eq_getElem_cons (show k < s.data.toList.length from h), show k + 1 - k = 1 from by omega]
  rfl
theorem bytes_ext {a : ByteArray} {l : List UInt8} (h : a.data.toList = l) : a = ⟨l.toArray⟩ := by subst h; rfl
def AtQ (s S : ByteArray) (k : Nat) : Prop := S.data.toList = 34 :: quoI (s.data.toList.take k)
theorem atQ_next {s S T : ByteArray} {k : Nat} (hk : k < s.size) (h : AtQ s S k) (hT : T.data.toList = quo1 s[k]) : AtQ s (S ++ T) (k + 1) := by
  unfold AtQ at *
  rw [app_data, h, hT, quoI_take (by simpa using hk)]; rfl
theorem atQ_size {s S : ByteArray} {k : Nat} (h : AtQ s S k) : S.size ≤ 1 + 4 * s.size := by
  have e : S.size = S.data.toList.length := rfl
  rw [e, h]; have := quoI_take_len s.data.toList k; simp at *; omega
set_option maxHeartbeats 1600000 in
theorem refQuote_c (s : ByteArray) (hs : s.size ≤ 4294967295) (w : World) :
    Calls Tryd.prog 44 #[.string s] w fun e w' => e = .returned (.string ⟨(quoteL s.data.toList).toArray⟩) ∧ Low w w' := by
  go_enter Tryd.func44, Tryd.ntmps44
  go_wp2_with fail
  go_loopw [3, 4] (fun v i wr => ∃ (k : Nat) (S : ByteArray) (n : Nat), k ≤ s.size ∧ i = .int .i64 k ∧ v = .string S ∧ AtQ s S k ∧ wr = w.drewN n) (fun _ i _ => s.size - (intOf i).toNat)
  case atStart => exact ⟨0, _, 0, Nat.zero_le _, rfl, rfl, rfl, rfl⟩
  case round =>
    obtain ⟨k, S, n, hk, rfl, rfl, hS, rfl⟩ := hrel
    have hz := atQ_size hS
    by_cases hlt : k < s.size
    · have NX := fun T hT => atQ_next (T := T) hlt hS hT
      cases h34 : ((s[k].toNat : Int) == 34) with
      | true =>
        have e1 : markB s[k] = true := by unfold markB; rw [← eq_byte s[k] 34, show ((s[k].toNat : Int) == ((34 : UInt8).toNat : Int)) = true from h34]; rfl
        have e2 : s[k] = 34 := by rw [← beq_iff_eq, ← eq_byte]; exact h34
        have N1 := NX ⟨#[92, 34]⟩ (by rw [quo1_mark e1, e2])
        clear NX e1 e2
        go_wp2_with fail
        go_roundw
        case rel => exact ⟨k + 1, _, n, by omega, by go_num, rfl, N1, rfl⟩
        case measure => simp [intOf]; omega
      | false =>
        cases h92 : ((s[k].toNat : Int) == 92) with
        | true =>
          have e1 : markB s[k] = true := by unfold markB; rw [← eq_byte s[k] 34, ← eq_byte s[k] 92, show ((s[k].toNat : Int) == ((92 : UInt8).toNat : Int)) = true from h92]; simp
          have e2 : s[k] = 92 := by rw [← beq_iff_eq, ← eq_byte]; exact h92
          have N1 := NX ⟨#[92, 92]⟩ (by rw [quo1_mark e1, e2])
          clear NX e1 e2
          go_wp2_with fail
          go_roundw
          case rel => exact ⟨k + 1, _, n, by omega, by go_num, rfl, N1, rfl⟩
          case measure => simp [intOf]; omega
        | false =>
          have e1 : markB s[k] = false := by
            unfold markB; rw [← eq_byte s[k] 34, ← eq_byte s[k] 92, show ((s[k].toNat : Int) == ((92 : UInt8).toNat : Int)) = false from h92, show ((s[k].toNat : Int) == ((34 : UInt8).toNat : Int)) = false from h34]; rfl
          by_cases hp : 32 ≤ (s[k].toNat : Int) ∧ (s[k].toNat : Int) ≤ 126
          · have e2 : prinB s[k] = true := decide_eq_true hp
            have N1 := NX (s.extract k (k + 1)) (by rw [quo1_plain e1 e2, one_cut s k hlt])
            obtain ⟨p1, p2⟩ := hp
            have z1 : (s.extract k (k + 1)).size ≤ 1 := by rw [ByteArray.size_extract]; omega
            clear NX e1 e2
            go_wp2_with fail
            go_roundw
            case rel => exact ⟨k + 1, _, n, by omega, by go_num, rfl, N1, rfl⟩
            case measure => simp [intOf]; omega
          · have e2 : prinB s[k] = false := decide_eq_false hp
            have b1 := s[k].toNat_lt
            have N1 := NX (⟨#[92, 120]⟩ ++ HexS.extract (s[k].toNat / 16) (s[k].toNat / 16 + 1) ++ HexS.extract (s[k].toNat % 16) (s[k].toNat % 16 + 1)) (by rw [quo1_hex e1 e2, app_data, app_data, hex_cut' _ (by omega), hex_cut' _ (by omega)]; rfl)
            clear NX e1 e2
            have q : decide (32 ≤ (s[k].toNat : Int)) = false ∨ 32 ≤ (s[k].toNat : Int) ∧ decide ((s[k].toNat : Int) ≤ 126) = false := by
              by_cases h : 32 ≤ (s[k].toNat : Int)
              · exact .inr ⟨h, decide_eq_false (by omega)⟩
              · exact .inl (decide_eq_false h)
            clear hp
            rcases q with q1 | ⟨q1, q2⟩
            all_goals
              go_wp2_with fail
              go_quiet (fail)
              go_wp2_with fail
              go_roundw
              case rel => exact ⟨k + 1, _, _, by omega, by go_num, rfl, N1, rfl⟩
              case measure => simp [intOf]; omega
    · have HT : Hid (s.data.toList.take k = s.data.toList) := List.take_of_length_le (show s.size ≤ k by omega)
      have E : Hid (S ++ ⟨#[34]⟩ = ⟨(quoteL s.data.toList).toArray⟩) := bytes_ext (by rw [app_data, hS, HT.out]; rfl)
      go_wp2_with fail
      go_ret
      exact ⟨congrArg (fun x => Ending.returned (.string x)) E.out, Low.drewN _ _⟩
end Go.Proofs.YtdblkjcimegoeaaDoor
