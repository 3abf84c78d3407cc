/- Package lex's words of any text. Condition: the text is shorter than 2^32; the table of marks is as it was laid. -/
import Derived.Test.YtdblkjcimegoeaaDoorLexE
namespace Go.Proofs.YtdblkjcimegoeaaDoor
open Go.RowKit
def encW (x : Wd) : List Value := [.int .i64 x.k, .string ⟨x.t.toArray⟩, .int .i64 x.n, .int .i64 (x.a : Int)]
theorem encW_len (x : Wd) : (encW x).length = 4 := rfl
theorem encW_one (x : Wd) : ∀ u ∈ encW x, u.oneCell' = true := by
  intro u hu
  simp only [encW, List.mem_cons, List.not_mem_nil, or_false] at hu
  rcases hu with rfl | rfl | rfl | rfl <;> rfl
theorem lw_info : (Tryd.prog.info? 34).map (fun i => (i.zero, i.size, i.bytes)) = some (some (.agg #[.int .i64 0, .string ⟨#[]⟩, .int .i64 0, .int .i64 0]), 4, 40) := by kernel_rfl
theorem Low.trans_below {a b d : World} (h : Low a b) {B : Nat} (k : RowKit.Below B b d) (hB : a.heap.size ≤ B) : Low a d :=
  ⟨k.os.trans h.1, k.output.trans h.2.1, Nat.le_trans h.2.2.1 k.size, fun i hi => (k.block i (Nat.lt_of_lt_of_le hi hB)).trans (h.2.2.2 i hi)⟩
/-- The words lie in a row of the call's own. -/
abbrev OwnW (B : Nat) (w : World) (v : Value) (l : List Wd) : Prop := OwnR 34 4 encW B w v l
def WordsP (L : List UInt8) (w : World) (e : Ending) (w' : World) : Prop :=
  ∃ v, e = .returned (.tuple #[v, .int .i64 (lexL L).1, .int .i64 ((lexL L).2.1 : Nat)]) ∧ OwnW w.heap.size w' v (lexL L).2.2 ∧ Low w w'
theorem lexF_place : ∀ (f : Nat) (l : List UInt8) (a : Nat), (lexF f l a).1 = 0 → (lexF f l a).2.1 = 0
  | 0, _, _, _ => rfl
  | f + 1, l, a, h => by
    rw [lexF] at h ⊢
    by_cases h0 : l.isEmpty = true
    · rw [if_pos h0]
    · rw [if_neg h0] at h ⊢
      by_cases he : (fst1 l).e = 0
      · rw [if_pos he] at h ⊢
        split
        · rfl
        · rename_i hr
          rw [if_neg hr] at h
          exact absurd h hr
      · rw [if_neg he] at h
        exact absurd h he
theorem comb_nil (l : List UInt8) (a : Nat) : comb [] (lexR l a) = lexR l a := by
  have h := lexF_place l.length l a
  unfold comb lexR
  generalize lexF l.length l a = R at *
  split
  · rename_i hr
    have := h hr
    obtain ⟨x, y, z⟩ := R
    simp at hr this
    simp [hr, this]
  · rfl
theorem lexL_long {l : List UInt8} (h : 65536 < l.length) : lexL l = (12, 0, []) := by unfold lexL; rw [if_pos h]
theorem lexL_start {l : List UInt8} (h : ¬ 65536 < l.length) : lexL l = comb [] (lexR (l.drop (skp false l)) (skp false l)) := by unfold lexL; rw [if_neg h, comb_nil]
theorem comb_bad {l : List UInt8} {a : Nat} {ws : List Wd} (h0 : l ≠ []) (he : ¬ (fst1 l).e = 0) : comb ws (lexR l a) = ((fst1 l).e, a, []) := by
  rw [lexR_bad h0 he]; unfold comb; rw [if_neg he]
theorem comb_end (ws : List Wd) (a : Nat) : comb ws (lexR [] a) = (0, 0, ws ++ [⟨0, [], 0, a⟩]) := rfl
set_option maxHeartbeats 3200000 in
theorem words_c (s : ByteArray) (hs : s.size ≤ 4294967294) (w : World) (hm : MkAt w) : Calls Tryd.prog 9 #[.string s] w (WordsP s.data.toList w) := by
  have hz : s.data.toList.length = s.size := by simp
  by_cases hl : 65536 < s.size
  · have R := lexL_long (l := s.data.toList) (by omega)
    have z0 : (65536 : Int) < (s.size : Int) := by omega
    unfold WordsP
    rw [R]
    clear R
    go_enter Tryd.func9, Tryd.ntmps9
    go_wp2_with fail
    go_ret3
    exact ⟨_, rfl, OwnR.nil _ _ _ _ _, Low.refl _⟩
  · have R := lexL_start (l := s.data.toList) (by omega)
    have z0 : ¬ (65536 : Int) < (s.size : Int) := by omega
    have zk := skp_le false s.data.toList
    obtain ⟨k0, hk0⟩ : ∃ k0, skp false s.data.toList = k0 := ⟨_, rfl⟩
    rw [hk0] at R zk
    rw [hz] at zk
    have HK := Lib.hid hk0
    have HR := Lib.hid R
    have HM := Lib.hid hm
    clear hk0 R hm
    go_enter Tryd.func9, Tryd.ntmps9
    go_wp2_with fail
    refine (gap_c s (by omega) _).mono ?_
    rintro e w1 ⟨rfl, hw1⟩
    rw [HK.out]
    have L1 := Lib.hid hw1
    clear hw1
    go_wp2_with fail
    go_loopg [5, 6] s.size (fun gk vs va wr => ∃ (v : Value) (k : Nat) (ws : List Wd), v = vs ∧ va = .int .i64 (k : Int) ∧ k ≤ s.size ∧ s.size - k ≤ gk ∧ ws.length ≤ k ∧ Hid (Low w wr) ∧ Hid (OwnW w.heap.size wr v ws) ∧ Hid (lexL s.data.toList = comb ws (lexR (s.data.toList.drop k) k)))
    case atStart => exact ⟨_, k0, [], rfl, rfl, zk, by omega, Nat.zero_le _, L1, Lib.hid (OwnR.nil _ _ _ _ _), HR⟩
    case round =>
      obtain ⟨v, k, ws, rfl, rfl, hk, hg, hwl, G, O, K⟩ := hrel
      by_cases hlt : k < s.size
      · have z1 : (k : Int) < (s.size : Int) := by omega
        have z2 : (k : Int) ≤ (s.size : Int) := by omega
        have hne : s.data.toList.drop k ≠ [] := by
          intro e
          have := congrArg List.length e
          rw [List.length_drop] at this
          simp at this; omega
        have DZ : (s.extract k s.size).size = s.size - k := by rw [ByteArray.size_extract]; omega
        have HF := Lib.hid (first1_c (s.extract k s.size) (by omega) (by omega) wr (HM.out.low G.out))
        obtain ⟨x, hx⟩ : ∃ x, fst1 (s.data.toList.drop k) = x := ⟨_, rfl⟩
        have HX : Hid (fst1 (s.extract k s.size).data.toList = x) := Lib.hid (by rw [ext_to]; exact hx)
        clear DZ
        by_cases he : x.e = 0
        · have hw := fst1_w (l := s.data.toList.drop k) (by rw [hx]; exact he)
          rw [hx, List.length_drop, hz] at hw
          have hstep := lexR_step (a := k) hne (by rw [hx]; exact he) ws
          rw [hx] at hstep
          have hsk := skp_le false ((s.data.toList.drop k).drop x.w)
          rw [List.length_drop, List.length_drop, hz] at hsk
          obtain ⟨g, hg0⟩ : ∃ g, skp false ((s.data.toList.drop k).drop x.w) = g := ⟨_, rfl⟩
          rw [hg0] at hstep hsk
          rw [List.drop_drop] at hstep
          obtain ⟨xe, xk, xt, xn, xw⟩ := x
          simp only at hw hsk hstep he hg0
          subst he
          have NX : Hid (lexL s.data.toList = comb (ws ++ [⟨xk, xt, xn, k⟩]) (lexR (s.data.toList.drop (k + xw + g)) (k + xw + g))) := Lib.hid (by rw [K.out, hstep, Nat.add_assoc])
          have HG : Hid (skp false (s.extract (k + xw) s.size).data.toList = g) := Lib.hid (by rw [ext_to, ← hg0, List.drop_drop])
          have GL : Hid ((s.extract (k + xw) s.size).size ≤ 9223372036854775807) := Lib.hid (Nat.le_trans (ext_le _ _ _) (by omega))
          have z4 : (k : Int) + (xw : Int) ≤ (s.size : Int) := by omega
          have z5 : (k : Int) + (xw : Int) + (g : Int) ≤ (s.size : Int) := by omega
          have hsz : w.heap.size ≤ wr.heap.size := G.out.size
          have hw1 := hw.1
          clear hstep hg0 hw hx hne
          go_wp2_with fail
          refine HF.out.mono ?_
          rintro e w2 ⟨rfl, hw2⟩
          rw [HX.out]
          unfold fwV
          have L2 := Lib.hid hw2
          have hsz2 : wr.heap.size ≤ w2.heap.size := hw2.size
          clear hw2
          go_wp2_with (at_builtin; refine appR rfl _ _ _ rfl Tryd.underlying23 lw_info rfl (by decide) (by decide) encW_len encW_one w.heap.size v ws rfl (OwnR.alloc (OwnR.alloc (OwnR.low O.out L2.out) _) _) ⟨xk, xt, xn, k⟩ ⟨w2.heap.size + 1, 0, none⟩ 1 rfl (fun j u hj => newcell_at _ _ _ _ _ rfl hj) (by omega) (by show w.heap.size ≤ ((w2.alloc _).alloc _).heap.size; simp; omega) ?_; intro v2 w3 h2 b2 k2 n2)
          have LL : Hid (Low w w3) := Lib.hid ((low_new (low_new (G.out.trans L2.out) _) _).trans_below b2 (Nat.le_refl _))
          have H2 := Lib.hid h2
          clear h2 b2 k2 n2
          refine (gap_c _ GL.out _).mono ?_
          rintro e w4 ⟨rfl, hw4⟩
          rw [HG.out]
          have L4 := Lib.hid hw4
          clear hw4
          go_wp2_with fail
          go_roundg (s.size - (k + xw + g))
          case measure => omega
          case rel => exact ⟨v2, k + xw + g, _, rfl, by go_num, by omega, by omega, by simp; omega, Lib.hid (LL.out.trans L4.out), Lib.hid (OwnR.low H2.out L4.out), NX⟩
        · have HEND : Hid (lexL s.data.toList = (x.e, k, [])) := Lib.hid (by rw [K.out, comb_bad hne (by rw [hx]; exact he), hx])
          have z3 : (x.e != 0) = true := by simpa using he
          clear hne hx he
          go_wp2_with fail
          refine HF.out.mono ?_
          rintro e w2 ⟨rfl, hw2⟩
          rw [HX.out]
          unfold fwV
          have L2 := Lib.hid (G.out.trans hw2)
          clear hw2
          go_wp2_with fail
          go_ret3
          unfold WordsP
          rw [HEND.out]
          exact ⟨_, rfl, OwnR.nil _ _ _ _ _, low_new L2.out _⟩
      · have hke : k = s.size := by omega
        have z1 : ¬ (k : Int) < (s.size : Int) := by omega
        have HEND : Hid (lexL s.data.toList = (0, 0, ws ++ [⟨0, [], 0, k⟩])) := Lib.hid (by rw [K.out, List.drop_eq_nil_of_le (by omega), comb_end])
        have hsz : w.heap.size ≤ wr.heap.size := G.out.size
        clear hke
        go_wp2_with (at_builtin; refine appR rfl _ _ _ rfl Tryd.underlying23 lw_info rfl (by decide) (by decide) encW_len encW_one w.heap.size v ws rfl (OwnR.alloc O.out _) ⟨0, [], 0, k⟩ ⟨wr.heap.size, 0, none⟩ 1 rfl (fun j u hj => newcell_at _ _ _ _ _ rfl hj) (by omega) (by simp; omega) ?_; intro v2 w2 h2 b2 k2 n2)
        go_ret3
        unfold WordsP
        rw [HEND.out]
        exact ⟨_, rfl, h2, (low_new G.out _).trans_below b2 (Nat.le_refl _)⟩
end Go.Proofs.YtdblkjcimegoeaaDoor
