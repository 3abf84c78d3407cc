/- The reference's words of any text; the comparison of both rows of words; the document's examples. Condition: the text is shorter than 2^32; the table of marks is as it was laid. -/
import Derived.Test.YtdblkjcimegoeaaDoorLexU
import Derived.BigQuiet
namespace Go.Proofs.YtdblkjcimegoeaaDoor
open Go.RowKit
theorem rw_info : (Tryd.prog.info? 42).map (fun i => (i.zero, i.size, i.bytes)) = some (some (.agg #[.int .i64 0, .string ⟨#[]⟩, .int .i64 0, .int .i64 0]), 4, 40) := by kernel_rfl
abbrev OwnX (B : Nat) (w : World) (v : Value) (l : List Wd) : Prop := OwnR 42 4 encW B w v l
def RWordsP (L : List UInt8) (w : World) (e : Ending) (w' : World) : Prop :=
  ∃ v, e = .returned (.tuple #[v, .int .i64 (lexL L).1, .int .i64 ((lexL L).2.1 : Nat)]) ∧ OwnX w.heap.size w' v (lexL L).2.2 ∧ Low w w'
set_option maxHeartbeats 3200000 in
theorem refWords_c (s : ByteArray) (hs : s.size ≤ 4294967294) (w : World) : Calls Tryd.prog 10 #[.string s] w (RWordsP s.data.toList w) := by
  have hz : s.data.toList.length = s.size := by simp
  by_cases hl : 65536 < s.size
  · have R := lexL_long (l := s.data.toList) (by omega)
    have z0 : (65536 : Int) < (s.size : Int) := by omega
    unfold RWordsP
    rw [R]
    clear R
    go_enter Tryd.func10, Tryd.ntmps10
    go_wp2_with fail
    go_ret3
    exact ⟨_, rfl, OwnR.nil _ _ _ _ _, Low.refl _⟩
  · have R := lexL_start (l := s.data.toList) (by omega)
    have z0 : ¬ (65536 : Int) < (s.size : Int) := by omega
    have zk := skp_le false s.data.toList
    obtain ⟨k0, hk0⟩ : ∃ k0, skp false s.data.toList = k0 := ⟨_, rfl⟩
    rw [hk0] at R zk
    rw [hz] at zk
    have hb := refBlank_c s hs 0 (Nat.zero_le _)
    rw [List.drop_zero, hk0, Nat.zero_add] at hb
    have HB := Lib.hid hb
    have HR := Lib.hid R
    clear hk0 R hb
    go_enter Tryd.func10, Tryd.ntmps10
    go_wp2_with fail
    refine (HB.out _).mono ?_
    rintro e w1 ⟨rfl, rfl⟩
    go_wp2_with fail
    go_loopg [5, 6] s.size (fun gk vs va wr => ∃ (v : Value) (k : Nat) (ws : List Wd), v = vs ∧ va = .int .i64 (k : Int) ∧ k ≤ s.size ∧ s.size - k ≤ gk ∧ ws.length ≤ k ∧ Hid (Low w wr) ∧ Hid (OwnX w.heap.size wr v ws) ∧ Hid (lexL s.data.toList = comb ws (lexR (s.data.toList.drop k) k)))
    case atStart => exact ⟨_, k0, [], rfl, rfl, zk, by omega, Nat.zero_le _, Lib.hid (Low.refl _), Lib.hid (OwnR.nil _ _ _ _ _), HR⟩
    case round =>
      obtain ⟨v, k, ws, rfl, rfl, hk, hg, hwl, G, O, K⟩ := hrel
      by_cases hlt : k < s.size
      · have z1 : (k : Int) < (s.size : Int) := by omega
        have hne : s.data.toList.drop k ≠ [] := by
          intro e
          have := congrArg List.length e
          rw [List.length_drop] at this
          simp at this; omega
        have HF := Lib.hid (one_c s hs k hlt wr)
        obtain ⟨x, hx⟩ : ∃ x, fst1 (s.data.toList.drop k) = x := ⟨_, rfl⟩
        rw [hx] at HF
        by_cases he : x.e = 0
        · have hw := fst1_w (l := s.data.toList.drop k) (by rw [hx]; exact he)
          rw [hx, List.length_drop, hz] at hw
          have hstep := lexR_step (a := k) hne (by rw [hx]; exact he) ws
          rw [hx] at hstep
          have hsk := skp_le false ((s.data.toList.drop k).drop x.w)
          rw [List.length_drop, List.length_drop, hz] at hsk
          obtain ⟨g, hg0⟩ : ∃ g, skp false ((s.data.toList.drop k).drop x.w) = g := ⟨_, rfl⟩
          rw [hg0] at hstep hsk
          rw [List.drop_drop] at hstep hg0
          obtain ⟨xe, xk, xt, xn, xw⟩ := x
          simp only at hw hsk hstep he hg0
          subst he
          have NX : Hid (lexL s.data.toList = comb (ws ++ [⟨xk, xt, xn, k⟩]) (lexR (s.data.toList.drop (k + xw + g)) (k + xw + g))) := Lib.hid (by rw [K.out, hstep, Nat.add_assoc])
          have hb := refBlank_c s hs (k + xw) (by omega)
          rw [hg0] at hb
          have HG := Lib.hid hb
          have hsz : w.heap.size ≤ wr.heap.size := G.out.size
          have hw1 := hw.1
          have hw2' := hw.2
          clear hstep hg0 hw hx hne hb
          go_wp2_with fail
          refine HF.out.mono ?_
          rintro e w2 ⟨k1, t1, n1, a1, b1, rfl, hok, hw2⟩
          have hok2 := hok rfl
          simp only at hok2
          obtain ⟨rfl, rfl, rfl, rfl, rfl⟩ := hok2
          clear hok
          have L2 := Lib.hid hw2
          have hsz2 : wr.heap.size ≤ w2.heap.size := hw2.size
          clear hw2
          go_wp2_with (at_builtin; refine appR rfl _ _ _ rfl Tryd.underlying27 rw_info rfl (by decide) (by decide) encW_len encW_one w.heap.size v ws rfl (OwnR.alloc (OwnR.alloc (OwnR.low O.out L2.out) _) _) ⟨k1, xt, n1, k⟩ ⟨w2.heap.size + 1, 0, none⟩ 1 rfl (fun j u hj => newcell_at _ _ _ _ _ rfl hj) (by omega) (by show w.heap.size ≤ ((w2.alloc _).alloc _).heap.size; simp; omega) ?_; intro v2 w3 h2 b2 k2 n2)
          have LL : Hid (Low w w3) := Lib.hid ((low_new (low_new (G.out.trans L2.out) _) _).trans_below b2 (Nat.le_refl _))
          have H2 := Lib.hid h2
          clear h2 b2 k2 n2
          refine (HG.out _).mono ?_
          rintro e w4 ⟨rfl, rfl⟩
          go_wp2_with fail
          go_roundg (s.size - (k + xw + g))
          case measure => omega
          case rel => exact ⟨v2, k + xw + g, _, rfl, by go_num, by omega, by omega, by simp; omega, LL, H2, NX⟩
        · have HEND : Hid (lexL s.data.toList = (x.e, k, [])) := Lib.hid (by rw [K.out, comb_bad hne (by rw [hx]; exact he), hx])
          have z3 : (x.e != 0) = true := by simpa using he
          clear hne hx he
          go_wp2_with fail
          refine HF.out.mono ?_
          rintro e w2 ⟨k1, t1, n1, a1, b1, rfl, hok, hw2⟩
          have L2 := Lib.hid (G.out.trans hw2)
          clear hw2 hok
          go_wp2_with fail
          go_ret3
          unfold RWordsP
          rw [HEND.out]
          exact ⟨_, rfl, OwnR.nil _ _ _ _ _, low_new L2.out _⟩
      · have hke : k = s.size := by omega
        have z1 : ¬ (k : Int) < (s.size : Int) := by omega
        have HEND : Hid (lexL s.data.toList = (0, 0, ws ++ [⟨0, [], 0, s.size⟩])) := Lib.hid (by rw [K.out, List.drop_eq_nil_of_le (by omega), comb_end, hke])
        have hsz : w.heap.size ≤ wr.heap.size := G.out.size
        clear hke
        go_wp2_with (at_builtin; refine appR rfl _ _ _ rfl Tryd.underlying27 rw_info rfl (by decide) (by decide) encW_len encW_one w.heap.size v ws rfl (OwnR.alloc O.out _) ⟨0, [], 0, s.size⟩ ⟨wr.heap.size, 0, none⟩ 1 rfl (fun j u hj => newcell_at _ _ _ _ _ rfl hj) (by omega) (by simp; omega) ?_; intro v2 w2 h2 b2 k2 n2)
        go_ret3
        unfold RWordsP
        rw [HEND.out]
        exact ⟨_, rfl, h2, (low_new G.out _).trans_below b2 (Nat.le_refl _)⟩
end Go.Proofs.YtdblkjcimegoeaaDoor
