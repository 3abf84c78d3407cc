/- Any text in quotes is the document's, and out of them it is as it was; it has no line feed. Condition: the library's variable holds a number. -/
import Derived.Test.YtcckikaafjmolaaAwakeT
namespace Go.Proofs.Ytcckikaafjmolaa
open Go.RowKit
def okC (c : UInt8) : Bool := decide (32 ≤ (c.toNat : Int) ∧ (c.toNat : Int) ≤ 126)
theorem hexN_ok : ∀ n : Fin 16, okC (hexN n.val) = true := by decide
theorem quo1_ok (c : UInt8) : (quo1 c).all okC = true := by
  cases hm : markB c with
  | true =>
    rw [quo1_mark hm]
    unfold markB at hm; simp only [Bool.or_eq_true, beq_iff_eq] at hm
    rcases hm with rfl | rfl <;> decide
  | false =>
    cases hp : prinB c with
    | true => rw [quo1_plain hm hp]; simp only [List.all_cons, List.all_nil, Bool.and_true]; exact hp
    | false =>
      rw [quo1_hex hm hp]
      have h1 := hexN_ok ⟨c.toNat / 16, by have := c.toNat_lt; omega⟩
      have h2 := hexN_ok ⟨c.toNat % 16, by omega⟩
      simp only at h1 h2
      simp only [List.all_cons, h1, h2, List.all_nil]; decide
theorem quoI_ok (l : List UInt8) : (quoI l).all okC = true := by
  induction l with
  | nil => rfl
  | cons c r ih => rw [quoI_cons, List.all_append, quo1_ok, ih]; rfl
theorem quoteL_ok (l : List UInt8) : (quoteL l).all okC = true := by
  unfold quoteL; rw [List.all_cons, List.all_append, quoI_ok]; decide
theorem at_ok {Q : ByteArray} {l : List UInt8} (h : Q.data.toList = quoteL l) (k : Nat) (hk : k < Q.size) : 32 ≤ (Q[k].toNat : Int) ∧ (Q[k].toNat : Int) ≤ 126 := by
  have ha := quoteL_ok l
  rw [← h, List.all_eq_true] at ha
  have := ha Q[k] (by show Q.data.toList[k]'(by simpa using hk) ∈ _; exact List.getElem_mem _)
  simpa [okC] using this
theorem quote_is (s Q : ByteArray) (h : Q.data.toList = quoteL s.data.toList) (hs : s.size ≤ 4294967295) (w : World) :
    Calls Try.prog 13 #[.string s] w fun e w' => e = .returned (.string Q) ∧ Low w w' := by
  have c := quote_c s hs w
  rw [← bytes_ext h] at c; exact c
theorem refQuote_is (s Q : ByteArray) (h : Q.data.toList = quoteL s.data.toList) (hs : s.size ≤ 4294967295) (w : World) :
    Calls Try.prog 15 #[.string s] w fun e w' => e = .returned (.string Q) ∧ Low w w' := by
  have c := refQuote_c s hs w
  rw [← bytes_ext h] at c; exact c
theorem unquote_is (s Q : ByteArray) (h : Q.data.toList = quoteL s.data.toList) (hs : Q.size ≤ 4294967295) (w : World) :
    Calls Try.prog 14 #[.string Q] w fun e w' => e = .returned (.tuple #[.string s, .int .i64 0]) ∧ Low w w' := by
  have c := unquote_c Q hs w
  have t := unqT_some (s := Q.data.toList) h.symm
  rw [t.1, t.2] at c
  exact c
theorem quote_size {s Q : ByteArray} (h : Q.data.toList = quoteL s.data.toList) : Q.size ≤ 2 + 4 * s.size := by
  have e : Q.size = Q.data.toList.length := rfl
  have := quoI_len s.data.toList
  have e2 : s.data.toList.length = s.size := rfl
  rw [e, h]; unfold quoteL; simp; omega
set_option maxHeartbeats 800000 in
theorem textsQuotes_walk (a0 : ByteArray) (w0 : a0.size ≤ maxLen) (w : World) (hm : Mx w) :
    Calls Try.prog 4 #[.string a0] w fun e w' => e = .returned (.bool true) ∧ Low w w' := by
  unfold maxLen at w0
  by_cases hl : 2000 < a0.size
  · have h2 : (2000 : Int) < (a0.size : Int) := by omega
    go_enter Try.func4, Try.ntmps4
    go_wp2_with fail
    refine (awakeT_c _ hm).mono ?_
    rintro e w1 ⟨rfl, l1⟩
    go_wp2_with fail
    go_ret
    exact ⟨rfl, l1⟩
  · have h2 : (a0.size : Int) ≤ 2000 := by omega
    obtain ⟨Q, hQ⟩ : ∃ Q : ByteArray, Q.data.toList = quoteL a0.data.toList := ⟨⟨(quoteL a0.data.toList).toArray⟩, rfl⟩
    have HQ := Lib.hid hQ
    have zq := quote_size hQ
    clear hQ
    go_enter Try.func4, Try.ntmps4
    go_wp2_with fail
    refine (awakeT_c _ hm).mono ?_
    rintro e w1 ⟨rfl, l1⟩
    go_wp2_with fail
    refine (quote_is a0 Q HQ.out (by omega) _).mono ?_
    rintro e w2 ⟨rfl, l2⟩
    go_wp2_with fail
    refine (unquote_is a0 Q HQ.out (by omega) _).mono ?_
    rintro e w3 ⟨rfl, l3⟩
    have L := l1.trans (l2.trans l3)
    clear l1 l2 l3
    go_wp2_with fail
    go_loop [7] (fun i => ∃ k : Nat, k ≤ Q.size ∧ i = .int .i64 k) (fun i => Q.size - (intOf i).toNat)
    case atStart => exact ⟨0, Nat.zero_le _, rfl⟩
    case round =>
      obtain ⟨k, hk, rfl⟩ := hrel
      by_cases hlt : k < Q.size
      · obtain ⟨g1, g2⟩ := at_ok HQ.out k hlt
        go_wp2_with fail
        go_round
        case rel => exact ⟨k + 1, by omega, by go_num⟩
        case measure => simp [intOf]; omega
      · go_wp2_with fail
        refine (refQuote_is a0 Q HQ.out (by omega) _).mono ?_
        rintro e w4 ⟨rfl, l4⟩
        go_wp2_with fail
        go_ret
        exact ⟨rfl, L.trans l4⟩
theorem joined {a b X Y Z : ByteArray} (hX : X.data.toList = quoteL a.data.toList) (hY : Y.data.toList = quoteL b.data.toList) (hZ : Z.data.toList = quoteL (a ++ b).data.toList) :
    2 ≤ X.size ∧ 2 ≤ Y.size ∧ X.extract 0 (X.size - 1) ++ Y.extract 1 Y.size = Z := by
  have e1 : X.size = X.data.toList.length := rfl
  have e2 : Y.size = Y.data.toList.length := rfl
  refine ⟨by rw [e1, hX]; unfold quoteL; simp, by rw [e2, hY]; unfold quoteL; simp, ?_⟩
  have hz : Z = ⟨(quoteL (a ++ b).data.toList).toArray⟩ := bytes_ext hZ
  rw [hz]
  refine bytes_ext ?_
  rw [app_data, ext_data, ext_to, hX, hY, e1, hX, app_data]
  unfold quoteL
  rw [quoI_append]
  simp
set_option maxHeartbeats 800000 in
theorem textsJoined_walk (a0 a1 : ByteArray) (w0 : a0.size ≤ maxLen) (w1 : a1.size ≤ maxLen) (w : World) (hm : Mx w) :
    Calls Try.prog 6 #[.string a0, .string a1] w fun e w' => e = .returned (.bool true) ∧ Low w w' := by
  unfold maxLen at w0 w1
  by_cases hl : 1000 < a0.size
  · have h2 : (1000 : Int) < (a0.size : Int) := by omega
    go_enter Try.func6, Try.ntmps6
    go_wp2_with fail
    refine (awakeT_c _ hm).mono ?_
    rintro e w1 ⟨rfl, l1⟩
    go_wp2_with fail
    go_ret
    exact ⟨rfl, l1⟩
  · have h2 : (a0.size : Int) ≤ 1000 := by omega
    by_cases hl2 : 1000 < a1.size
    · have h3 : (1000 : Int) < (a1.size : Int) := by omega
      go_enter Try.func6, Try.ntmps6
      go_wp2_with fail
      refine (awakeT_c _ hm).mono ?_
      rintro e w1 ⟨rfl, l1⟩
      go_wp2_with fail
      go_ret
      exact ⟨rfl, l1⟩
    · have h3 : (a1.size : Int) ≤ 1000 := by omega
      obtain ⟨X, hX⟩ : ∃ Q : ByteArray, Q.data.toList = quoteL a0.data.toList := ⟨⟨(quoteL a0.data.toList).toArray⟩, rfl⟩
      obtain ⟨Y, hY⟩ : ∃ Q : ByteArray, Q.data.toList = quoteL a1.data.toList := ⟨⟨(quoteL a1.data.toList).toArray⟩, rfl⟩
      obtain ⟨Z, hZ⟩ : ∃ Q : ByteArray, Q.data.toList = quoteL (a0 ++ a1).data.toList := ⟨⟨(quoteL (a0 ++ a1).data.toList).toArray⟩, rfl⟩
      obtain ⟨zx, zy, hj⟩ := joined hX hY hZ
      have ux := quote_size hX
      have uy := quote_size hY
      have zs : (a0 ++ a1).size = a0.size + a1.size := ByteArray.size_append
      have zs2 : (a0 ++ a1).size ≤ 4294967295 := by omega
      have ix : (2 : Int) ≤ (X.size : Int) := by omega
      have iy : (2 : Int) ≤ (Y.size : Int) := by omega
      have HX := Lib.hid hX
      have HY := Lib.hid hY
      have HZ := Lib.hid hZ
      have HJ := Lib.hid hj
      clear hX hY hZ hj zs
      go_enter Try.func6, Try.ntmps6
      go_wp2_with fail
      refine (awakeT_c _ hm).mono ?_
      rintro e w1 ⟨rfl, l1⟩
      go_wp2_with fail
      refine (quote_is a0 X HX.out (by omega) _).mono ?_
      rintro e w2 ⟨rfl, l2⟩
      go_wp2_with fail
      refine (quote_is a1 Y HY.out (by omega) _).mono ?_
      rintro e w3 ⟨rfl, l3⟩
      go_wp2_with fail
      refine (quote_is (a0 ++ a1) Z HZ.out zs2 _).mono ?_
      rintro e w4 ⟨rfl, l4⟩
      go_wp2_with fail
      go_quiet (fail)
      go_wp2_with fail
      go_ret
      exact ⟨retB (by rw [HJ.out]; simp), (l1.trans (l2.trans (l3.trans l4))).trans (Low.drewN _ _)⟩
end Go.Proofs.Ytcckikaafjmolaa
