/- LexBlanks: the walk. Condition: the table of marks is as it was laid. -/
import Derived.Test.YtdblkjcimegoeaaDoorLexW
import Derived.OpenShut
namespace Go.Proofs.YtdblkjcimegoeaaDoor
open Go.RowKit
theorem lexF_len : ∀ (f : Nat) (l : List UInt8) (a : Nat), (lexF f l a).2.2.length ≤ f + 1
  | 0, _, _ => by simp [lexF]
  | f + 1, l, a => by
    rw [lexF]
    split
    · simp
    · split
      · have ih := lexF_len f (l.drop ((fst1 l).w + skp false (l.drop (fst1 l).w))) (a + ((fst1 l).w + skp false (l.drop (fst1 l).w)))
        split
        · simp; omega
        · omega
      · simp
theorem lexL_len (l : List UInt8) : (lexL l).2.2.length ≤ 65537 := by
  unfold lexL
  split
  · simp
  · unfold lexR
    have := lexF_len (l.drop (skp false l)).length (l.drop (skp false l)) (skp false l)
    rw [List.length_drop] at this
    rw [List.length_drop]
    omega
/-- What both rows of words are, by names. -/
theorem both (s : ByteArray) (hs : s.size ≤ 4294967294) : ∃ (er pl : Int) (ws : List Wd), ws.length ≤ 65537 ∧ lexL s.data.toList = (er, pl.toNat, ws) ∧
    Hid (∀ w, MkAt w → Calls Tryd.prog 9 #[.string s] w fun e w' => ∃ v, e = .returned (.tuple #[v, .int .i64 er, .int .i64 pl]) ∧ OwnW w.heap.size w' v ws ∧ Low w w') ∧
    Hid (∀ w, Calls Tryd.prog 10 #[.string s] w fun e w' => ∃ v, e = .returned (.tuple #[v, .int .i64 er, .int .i64 pl]) ∧ OwnX w.heap.size w' v ws ∧ Low w w') :=
  ⟨(lexL s.data.toList).1, ((lexL s.data.toList).2.1 : Nat), (lexL s.data.toList).2.2, lexL_len _, rfl, Lib.hid fun w hm => words_c s hs w hm, Lib.hid fun w => refWords_c s hs w⟩
def IsRow (k : IntKind) (w : World) (a : Option Addr) (len cap : Nat) (zs : List Int) : Prop :=
  (a = none ∧ len = 0 ∧ cap = 0 ∧ zs = []) ∨
  ∃ x, a = some x ∧ len ≤ cap ∧ cap ≤ maxLen ∧ zs.length = cap ∧ (∀ i, i < zs.length → w.cell? (x.add i) = some (.int k (zs.getD i 0))) ∧ ∀ n ∈ zs, (Lit.int k n).wf = true
theorem blk_run : ∀ (k : Nat) (_ : k < 4) (w : World), (Instr.index 9 (.string ⟨#[32, 9, 10, 13]⟩) (.int .u8 (k : Int))).run Tryd.prog w = .ok (.int .u8 (([(32 : UInt8), 9, 10, 13].getD k 0).toNat)) w
  | 0, _, w => by go_simp; rfl
  | 1, _, w => by go_simp; rfl
  | 2, _, w => by go_simp; rfl
  | 3, _, w => by go_simp; rfl
  | n + 4, h, _ => absurd h (by omega)
theorem and3 (x : Int) (h0 : 0 ≤ x) (h1 : x ≤ 255) : Go.bits .and .u8 x 3 = x % 4 := by
  have h : ∀ n : Fin 256, Go.bits .and .u8 (n.val : Int) 3 = (n.val : Int) % 4 := by decide +kernel
  have := h ⟨x.toNat, by omega⟩
  rwa [show ((⟨x.toNat, by omega⟩ : Fin 256).val : Int) = x from by simp; omega] at this
theorem blk_is : ∀ k, k < 4 → blkB ([(32 : UInt8), 9, 10, 13].getD k 0) = true := by decide
theorem lexF_bad : ∀ (f : Nat) (l : List UInt8) (a : Nat), (lexF f l a).1 ≠ 0 → (lexF f l a).2.2 = []
  | 0, _, _, h => absurd rfl h
  | f + 1, l, a, h => by
    rw [lexF] at h ⊢
    by_cases h0 : l.isEmpty = true
    · rw [if_pos h0] at h; exact absurd rfl h
    · rw [if_neg h0] at h ⊢
      by_cases he : (fst1 l).e = 0
      · rw [if_pos he] at h ⊢
        split
        · rename_i hr
          rw [if_pos hr] at h
          exact absurd rfl h
        · rename_i hr
          exact lexF_bad f _ _ hr
      · rw [if_neg he]
theorem lexF_at : ∀ (f : Nat) (l : List UInt8) (a : Nat), ∀ x ∈ (lexF f l a).2.2, x.a ≤ a + l.length
  | 0, l, a, x, hx => by simp [lexF] at hx; subst hx; exact Nat.le_add_right _ _
  | f + 1, l, a, x, hx => by
    rw [lexF] at hx
    by_cases h0 : l.isEmpty = true
    · rw [if_pos h0] at hx; simp at hx; subst hx; exact Nat.le_add_right _ _
    · rw [if_neg h0] at hx
      by_cases he : (fst1 l).e = 0
      · rw [if_pos he] at hx
        have hw := fst1_w he
        have hs := skp_le false (l.drop (fst1 l).w)
        rw [List.length_drop] at hs
        have ih := lexF_at f (l.drop ((fst1 l).w + skp false (l.drop (fst1 l).w))) (a + ((fst1 l).w + skp false (l.drop (fst1 l).w)))
        rw [List.length_drop] at ih
        split at hx
        · rcases List.mem_cons.1 hx with rfl | hx
          · exact Nat.le_add_right _ _
          · have := ih x hx; omega
        · have := ih x hx; omega
      · rw [if_neg he] at hx; simp at hx
theorem lexL_bad {l : List UInt8} (h : (lexL l).1 ≠ 0) : (lexL l).2.2 = [] := by
  unfold lexL at *
  split
  · rfl
  · rename_i hl
    rw [if_neg hl] at h
    exact lexF_bad _ _ _ h
theorem lexL_at (l : List UInt8) : ∀ x ∈ (lexL l).2.2, x.a ≤ l.length := by
  unfold lexL
  split
  · intro x hx; simp at hx
  · intro x hx
    have := lexF_at _ _ _ x hx
    have h2 := skp_le false l
    rw [List.length_drop] at this
    omega
theorem lexF_pl : ∀ (f : Nat) (l : List UInt8) (a : Nat), (lexF f l a).2.1 ≤ a + l.length
  | 0, l, a => Nat.zero_le _
  | f + 1, l, a => by
    rw [lexF]
    by_cases h0 : l.isEmpty = true
    · rw [if_pos h0]; exact Nat.zero_le _
    · rw [if_neg h0]
      by_cases he : (fst1 l).e = 0
      · rw [if_pos he]
        have hw := fst1_w he
        have hs := skp_le false (l.drop (fst1 l).w)
        rw [List.length_drop] at hs
        have ih := lexF_pl f (l.drop ((fst1 l).w + skp false (l.drop (fst1 l).w))) (a + ((fst1 l).w + skp false (l.drop (fst1 l).w)))
        rw [List.length_drop] at ih
        split
        · exact Nat.zero_le _
        · omega
      · rw [if_neg he]; exact Nat.le_add_right _ _
theorem lexL_pl (l : List UInt8) : (lexL l).2.1 ≤ l.length := by
  unfold lexL
  split
  · exact Nat.zero_le _
  · have := lexF_pl (l.drop (skp false l)).length (l.drop (skp false l)) (skp false l)
    have h2 := skp_le false l
    rw [List.length_drop] at this
    unfold lexR
    rw [List.length_drop]
    omega
/-- The words of a text with blanks and a remark ahead, by names. -/
theorem ahead (X : List UInt8) (hX : ∀ c ∈ X, blkB c = true) (hx : X.length ≤ 300) (a0 : ByteArray) (ha : a0.size ≤ 3000) (S : ByteArray) (hS : S = ByteArray.mk X.toArray ++ ByteArray.mk #[47, 47, 32, 120, 10]) :
    S.size = X.length + 5 ∧ ∃ (er : Int) (pl : Nat) (ws : List Wd), ws.length ≤ 65537 ∧ pl ≤ 70000 ∧ (er ≠ 0 → ws = []) ∧ (∀ x ∈ ws, x.a ≤ 3000) ∧
    Hid (∀ w, MkAt w → Calls Tryd.prog 9 #[.string a0] w fun e w' => ∃ v, e = .returned (.tuple #[v, .int .i64 er, .int .i64 (pl : Int)]) ∧ OwnW w.heap.size w' v ws ∧ Low w w') ∧
    Hid (∀ w, MkAt w → Calls Tryd.prog 9 #[.string (S ++ a0)] w fun e w' => ∃ v, e = .returned (.tuple #[v, .int .i64 er, .int .i64 (if er = 0 then 0 else ((pl : Int) + (S.size : Int)))]) ∧ OwnW w.heap.size w' v (ws.map (shW S.size)) ∧ Low w w') := by
  have hz : S.size = X.length + 5 := by
    rw [hS, ByteArray.size_append]
    show X.toArray.size + 5 = _
    simp
  have hd : (S ++ a0).data.toList = X ++ [47, 47, 32, 120, 10] ++ a0.data.toList := by
    rw [hS, ByteArray.data_append, ByteArray.data_append]; simp
  have hl : a0.data.toList.length = a0.size := by simp
  have E : lexL (S ++ a0).data.toList = shR S.size (lexL a0.data.toList) := by rw [hd, hz]; exact lexL_ahead X _ hX (by omega)
  have hat := lexL_at a0.data.toList
  have hpl : (lexL a0.data.toList).2.1 ≤ 3000 := by
    have := lexL_pl a0.data.toList
    omega
  refine ⟨hz, (lexL a0.data.toList).1, (lexL a0.data.toList).2.1, (lexL a0.data.toList).2.2, lexL_len _, by omega, lexL_bad, fun x hx => by have := hat x hx; omega, Lib.hid fun w hm => words_c a0 (by omega) w hm, Lib.hid fun w hm => ?_⟩
  have h := words_c (S ++ a0) (by rw [ByteArray.size_append]; omega) w hm
  unfold WordsP at h
  rw [E] at h
  have hb := lexL_bad (l := a0.data.toList)
  generalize lexL a0.data.toList = R at *
  obtain ⟨e, p, ws⟩ := R
  unfold shR at h
  by_cases h0 : e = 0
  · subst h0
    simp only at h ⊢
    exact h
  · have := hb h0
    simp only at this
    subst this
    simp only [if_neg h0] at h ⊢
    simpa using h
set_option maxRecDepth 100000 in
set_option maxHeartbeats 3200000 in
theorem blanks_row (a0 : ByteArray) (ha : a0.size ≤ 3000) (b off len cap : Nat) (zs : List Int) (hl0 : len ≤ 300) (hlc : len ≤ cap) (hz : zs.length = cap) (w : World) (hm : MkAt w)
    (hcell : Hid (∀ j, j < zs.length → w.cell? ⟨b, off + j, none⟩ = some (.int .u8 (zs.getD j 0)))) (hr : Hid (∀ j, j < zs.length → 0 ≤ zs.getD j 0 ∧ zs.getD j 0 ≤ 255)) :
    Calls Tryd.prog 4 #[.string a0, .slice (some ⟨b, off, none⟩) len cap] w fun e w' => e = .returned (.bool true) ∧ Low w w' := by
  have hq : ¬ (300 : Int) < (len : Int) := by omega
  have hq2 : ¬ (3000 : Int) < (a0.size : Int) := by omega
  have HZ := Lib.hid hz
  have HM := Lib.hid hm
  clear hz hm
  go_enter Tryd.func4, Tryd.ntmps4
  go_wp2_with fail
  refine (awake7_c _ HM.out).mono ?_
  rintro e w1 ⟨rfl, l1⟩
  have L1 := Lib.hid l1
  clear l1
  go_wp2_with fail
  go_loopg [6, 7] len (fun gk vb vi wr => ∃ (v : Value) (k : Nat) (X : List UInt8), v = vb ∧ vi = .int .i64 (k : Int) ∧ k ≤ len ∧ len - k ≤ gk ∧ X.length = k ∧ Hid (∀ c ∈ X, blkB c = true) ∧ Hid (Low w wr) ∧ Hid (Own w.heap.size wr v X))
  case atStart => exact ⟨_, 0, [], rfl, rfl, Nat.zero_le _, Nat.le_refl _, rfl, Lib.hid (by simp), L1, Lib.hid (Own.nil _ _)⟩
  case round =>
    obtain ⟨v, k, X, rfl, rfl, hk, hg, hX, HX, G, HO⟩ := hrel
    have hsz : w.heap.size ≤ wr.heap.size := G.out.size
    by_cases hlt : k < len
    · have hk2 : k < zs.length := by rw [HZ.out]; omega
      have hc1 : wr.cell? ⟨b, off + k, none⟩ = some (.int .u8 (zs.getD k 0)) := G.out.keep (hcell.out k hk2)
      obtain ⟨g1, g2⟩ := hr.out k hk2
      obtain ⟨x, hv⟩ : ∃ x, zs.getD k 0 = x := ⟨_, rfl⟩
      rw [hv] at hc1 g1 g2
      clear hv
      have hki : (k : Int) < (len : Int) := by omega
      obtain ⟨m, hm⟩ : ∃ m : Nat, x % 4 = (m : Int) := ⟨(x % 4).toNat, by omega⟩
      have hm4 : m < 4 := by omega
      have HRX := blk_run m hm4
      have HT : Go.bits .and .u8 x 3 = (m : Int) := by rw [and3 x g1 g2]; exact hm
      have hbk := blk_is m hm4
      obtain ⟨c, hc⟩ : ∃ c : UInt8, [(32 : UInt8), 9, 10, 13].getD m 0 = c := ⟨_, rfl⟩
      rw [hc] at HRX hbk
      have HX2 : Hid (∀ y ∈ X ++ [c], blkB y = true) := Lib.hid fun y hy => by
        rcases List.mem_append.1 hy with h | h
        · exact HX.out y h
        · simp at h; rw [h]; exact hbk
      clear hc hm hbk
      go_wp2_with (at_builtin; refine own_app rfl _ _ _ rfl Tryd.underlying32 w.heap.size v X [c] rfl (Own.alloc HO.out _) ⟨wr.heap.size, 0, none⟩ 1 _ rfl rfl (cells_new _ [c] _ _ rfl) (by omega) (by simp; omega) ?_; intro v2 w2 h2 b2)
      go_roundg (len - (k + 1))
      case measure => omega
      case rel => exact ⟨v2, k + 1, X ++ [c], rfl, by go_num, by omega, by omega, by simp; omega, HX2, Lib.hid ((low_new G.out _).trans_below b2 (Nat.le_refl _)), Lib.hid h2⟩
    · have hki : ¬ (k : Int) < (len : Int) := by omega
      have hXl : X.length ≤ 300 := by omega
      obtain ⟨S, hS⟩ : ∃ S, S = ByteArray.mk X.toArray ++ ByteArray.mk #[47, 47, 32, 120, 10] := ⟨_, rfl⟩
      obtain ⟨hSz, er, pl, ws, hws, hpl, hbad, hat, HW, HA⟩ := ahead X HX.out hXl a0 (by omega) S hS
      have HMr := Lib.hid (HM.out.low G.out)
      have C1 := own_conv HO.out
      have hXs : (ByteArray.mk X.toArray).size ≤ 300 := by show X.toArray.size ≤ 300; simp; omega
      have h5 : (ByteArray.mk #[47, 47, 32, 120, 10]).size = 5 := rfl
      have hSS : (S ++ a0).size ≤ 4000 := by rw [ByteArray.size_append]; omega
      go_wp2_with fail
      rw [← hS]
      refine (HW.out _ HMr.out).mono ?_
      rintro e w2 ⟨v1, rfl, hv1, l2⟩
      have HM2 := Lib.hid (HMr.out.low l2)
      have L2 := Lib.hid (G.out.trans l2)
      have O1 := Lib.hid hv1
      clear l2 hv1 C1 hS hXs h5
      go_wp2_with fail
      refine (HA.out _ HM2.out).mono ?_
      rintro e w3 ⟨v2, rfl, hv2, l3⟩
      have O3 := Lib.hid (OwnR.low O1.out l3)
      have L3 := Lib.hid (L2.out.trans l3)
      have O2 := Lib.hid hv2
      have HAT := Lib.hid hat
      clear l3 hv2 hat
      by_cases he : er = 0
      · subst he
        clear hbad
        rw [if_pos rfl]
        by_cases hw0 : 0 < ws.length
        · obtain ⟨g1, d1, rfl, hd1, hg1, k1⟩ := row_cells O3.out hw0
          obtain ⟨g2, d2, rfl, hd2, hg2, k2⟩ := row_cells O2.out (by simpa using hw0)
          rw [List.length_map] at hd2 ⊢
          have K1 := Lib.hid k1
          have K2 := Lib.hid k2
          clear k1 k2
          go_wp2_with fail
          go_loopg [15] ws.length (fun gk vi wq => ∃ i : Nat, vi = .int .i64 (i : Int) ∧ i ≤ ws.length ∧ ws.length - i ≤ gk ∧ Hid (Low w3 wq))
          case atStart => exact ⟨0, rfl, Nat.zero_le _, Nat.le_refl _, Lib.hid (Low.refl _)⟩
          case round =>
            obtain ⟨i, rfl, hi, hgi, GQ⟩ := hrel
            by_cases hil : i < ws.length
            · have z1 : (i : Int) < (ws.length : Int) := by omega
              obtain ⟨b0, b1, b2, b3⟩ := K1.out i hil
              obtain ⟨c0, c1, c2, c3⟩ := K2.out i (by simpa using hil)
              have hai : ws[i].a ≤ 3000 := HAT.out _ (List.getElem_mem hil)
              rw [List.getElem_map] at c0 c1 c2 c3
              have c3 : w3.cell? ⟨g2, i * 4 + 3, none⟩ = some (.int .i64 ((ws[i].a : Int) + (S.size : Int))) := by rw [c3]; simp [shW]
              have c0 : w3.cell? ⟨g2, i * 4, none⟩ = some (.int .i64 ws[i].k) := c0
              have c1 : w3.cell? ⟨g2, i * 4 + 1, none⟩ = some (.string ⟨ws[i].t.toArray⟩) := c1
              have c2 : w3.cell? ⟨g2, i * 4 + 2, none⟩ = some (.int .i64 ws[i].n) := c2
              have b0 := GQ.out.keep b0
              have b1 := GQ.out.keep b1
              have b2 := GQ.out.keep b2
              have b3 := GQ.out.keep b3
              have c0 := GQ.out.keep c0
              have c1 := GQ.out.keep c1
              have c2 := GQ.out.keep c2
              have c3 := GQ.out.keep c3
              obtain ⟨ka, hka⟩ : ∃ x, ws[i].k = x := ⟨_, rfl⟩
              obtain ⟨ta, hta⟩ : ∃ x, ws[i].t = x := ⟨_, rfl⟩
              obtain ⟨na, hna⟩ : ∃ x, ws[i].n = x := ⟨_, rfl⟩
              obtain ⟨aa, haa⟩ : ∃ x, ws[i].a = x := ⟨_, rfl⟩
              rw [hka] at b0 c0
              rw [hta] at b1 c1
              rw [hna] at b2 c2
              rw [haa] at b3 c3 hai
              clear hka hta hna haa
              have zz : (aa : Int) + (S.size : Int) ≤ 4000 := by omega
              go_wp2_with fail
              go_quiet (fail)
              go_wp2_with fail
              go_roundg (ws.length - (i + 1))
              case measure => omega
              case rel => exact ⟨i + 1, by go_num, by omega, by omega, Lib.hid (GQ.out.trans (Low.drewN _ _))⟩
            · have z1 : ¬ (i : Int) < (ws.length : Int) := by omega
              go_wp2_with fail
              go_ret
              exact ⟨rfl, L3.out.trans GQ.out⟩
        · have hw1 : ws = [] := List.eq_nil_of_length_eq_zero (by omega)
          subst hw1
          obtain ⟨ao, cp, rfl, s1, s2, s3⟩ := OwnR.shape O3.out
          obtain ⟨bo, dp, rfl, t1, t2, t3⟩ := OwnR.shape O2.out
          clear s1 s2 s3 t1 t2 t3
          go_wp2_with fail
          refine wp_loop_rounds 1 ?_
          rw [rounds_succ]
          go_wp2_with fail
          go_ret
          exact ⟨rfl, L3.out⟩
      · have hw1 := hbad he
        subst hw1
        rw [if_neg he]
        obtain ⟨ao, cp, rfl, s1, s2, s3⟩ := OwnR.shape O3.out
        obtain ⟨bo, dp, rfl, t1, t2, t3⟩ := OwnR.shape O2.out
        have ze : (er != 0) = true := by simpa using he
        clear s1 s2 s3 t1 t2 t3 hbad he
        go_wp2_with fail
        go_ret
        exact ⟨rfl, L3.out⟩
set_option maxRecDepth 100000 in
set_option maxHeartbeats 3200000 in
theorem blanks_none (a0 : ByteArray) (ha : a0.size ≤ 3000) (a : Option Addr) (cap : Nat) (w : World) (hm : MkAt w) :
    Calls Tryd.prog 4 #[.string a0, .slice a 0 cap] w fun e w' => e = .returned (.bool true) ∧ Low w w' := by
  have hq2 : ¬ (3000 : Int) < (a0.size : Int) := by omega
  have HM := Lib.hid hm
  clear hm
  go_enter Tryd.func4, Tryd.ntmps4
  go_wp2_with fail
  refine (awake7_c _ HM.out).mono ?_
  rintro e w1 ⟨rfl, l1⟩
  have G := Lib.hid l1
  obtain ⟨X, hX0⟩ : ∃ X : List UInt8, X = [] := ⟨_, rfl⟩
  have HX : Hid (∀ c ∈ X, blkB c = true) := Lib.hid (by rw [hX0]; simp)
  have hXl : X.length ≤ 300 := by rw [hX0]; decide
  have HO : Hid (Own w.heap.size w1 (.slice none 0 0) X) := Lib.hid (by rw [hX0]; exact Own.nil _ _)
  have hsz : w.heap.size ≤ w1.heap.size := l1.size
  clear l1 hX0
  go_wp2_with fail
  refine wp_loop_rounds 1 ?_
  rw [rounds_succ]
  obtain ⟨S, hS⟩ : ∃ S, S = ByteArray.mk X.toArray ++ ByteArray.mk #[47, 47, 32, 120, 10] := ⟨_, rfl⟩
  obtain ⟨hSz, er, pl, ws, hws, hpl, hbad, hat, HW, HA⟩ := ahead X HX.out hXl a0 (by omega) S hS
  have HMr := Lib.hid (HM.out.low G.out)
  have C1 := own_conv HO.out
  have hXs : (ByteArray.mk X.toArray).size ≤ 300 := by show X.toArray.size ≤ 300; simp; omega
  have h5 : (ByteArray.mk #[47, 47, 32, 120, 10]).size = 5 := rfl
  have hSS : (S ++ a0).size ≤ 4000 := by rw [ByteArray.size_append]; omega
  go_wp2_with fail
  rw [← hS]
  refine (HW.out _ HMr.out).mono ?_
  rintro e w2 ⟨v1, rfl, hv1, l2⟩
  have HM2 := Lib.hid (HMr.out.low l2)
  have L2 := Lib.hid (G.out.trans l2)
  have O1 := Lib.hid hv1
  clear l2 hv1 C1 hS hXs h5
  go_wp2_with fail
  refine (HA.out _ HM2.out).mono ?_
  rintro e w3 ⟨v2, rfl, hv2, l3⟩
  have O3 := Lib.hid (OwnR.low O1.out l3)
  have L3 := Lib.hid (L2.out.trans l3)
  have O2 := Lib.hid hv2
  have HAT := Lib.hid hat
  clear l3 hv2 hat
  by_cases he : er = 0
  · subst he
    clear hbad
    rw [if_pos rfl]
    by_cases hw0 : 0 < ws.length
    · obtain ⟨g1, d1, rfl, hd1, hg1, k1⟩ := row_cells O3.out hw0
      obtain ⟨g2, d2, rfl, hd2, hg2, k2⟩ := row_cells O2.out (by simpa using hw0)
      rw [List.length_map] at hd2 ⊢
      have K1 := Lib.hid k1
      have K2 := Lib.hid k2
      clear k1 k2
      go_wp2_with fail
      go_loopg [15] ws.length (fun gk vi wq => ∃ i : Nat, vi = .int .i64 (i : Int) ∧ i ≤ ws.length ∧ ws.length - i ≤ gk ∧ Hid (Low w3 wq))
      case atStart => exact ⟨0, rfl, Nat.zero_le _, Nat.le_refl _, Lib.hid (Low.refl _)⟩
      case round =>
        obtain ⟨i, rfl, hi, hgi, GQ⟩ := hrel
        by_cases hil : i < ws.length
        · have z1 : (i : Int) < (ws.length : Int) := by omega
          obtain ⟨b0, b1, b2, b3⟩ := K1.out i hil
          obtain ⟨c0, c1, c2, c3⟩ := K2.out i (by simpa using hil)
          have hai : ws[i].a ≤ 3000 := HAT.out _ (List.getElem_mem hil)
          rw [List.getElem_map] at c0 c1 c2 c3
          have c3 : w3.cell? ⟨g2, i * 4 + 3, none⟩ = some (.int .i64 ((ws[i].a : Int) + (S.size : Int))) := by rw [c3]; simp [shW]
          have c0 : w3.cell? ⟨g2, i * 4, none⟩ = some (.int .i64 ws[i].k) := c0
          have c1 : w3.cell? ⟨g2, i * 4 + 1, none⟩ = some (.string ⟨ws[i].t.toArray⟩) := c1
          have c2 : w3.cell? ⟨g2, i * 4 + 2, none⟩ = some (.int .i64 ws[i].n) := c2
          have b0 := GQ.out.keep b0
          have b1 := GQ.out.keep b1
          have b2 := GQ.out.keep b2
          have b3 := GQ.out.keep b3
          have c0 := GQ.out.keep c0
          have c1 := GQ.out.keep c1
          have c2 := GQ.out.keep c2
          have c3 := GQ.out.keep c3
          obtain ⟨ka, hka⟩ : ∃ x, ws[i].k = x := ⟨_, rfl⟩
          obtain ⟨ta, hta⟩ : ∃ x, ws[i].t = x := ⟨_, rfl⟩
          obtain ⟨na, hna⟩ : ∃ x, ws[i].n = x := ⟨_, rfl⟩
          obtain ⟨aa, haa⟩ : ∃ x, ws[i].a = x := ⟨_, rfl⟩
          rw [hka] at b0 c0
          rw [hta] at b1 c1
          rw [hna] at b2 c2
          rw [haa] at b3 c3 hai
          clear hka hta hna haa
          have zz : (aa : Int) + (S.size : Int) ≤ 4000 := by omega
          go_wp2_with fail
          go_quiet (fail)
          go_wp2_with fail
          go_roundg (ws.length - (i + 1))
          case measure => omega
          case rel => exact ⟨i + 1, by go_num, by omega, by omega, Lib.hid (GQ.out.trans (Low.drewN _ _))⟩
        · have z1 : ¬ (i : Int) < (ws.length : Int) := by omega
          go_wp2_with fail
          go_ret
          exact ⟨rfl, L3.out.trans GQ.out⟩
    · have hw1 : ws = [] := List.eq_nil_of_length_eq_zero (by omega)
      subst hw1
      obtain ⟨ao, cp, rfl, s1, s2, s3⟩ := OwnR.shape O3.out
      obtain ⟨bo, dp, rfl, t1, t2, t3⟩ := OwnR.shape O2.out
      clear s1 s2 s3 t1 t2 t3
      go_wp2_with fail
      refine wp_loop_rounds 1 ?_
      rw [rounds_succ]
      go_wp2_with fail
      go_ret
      exact ⟨rfl, L3.out⟩
  · have hw1 := hbad he
    subst hw1
    rw [if_neg he]
    obtain ⟨ao, cp, rfl, s1, s2, s3⟩ := OwnR.shape O3.out
    obtain ⟨bo, dp, rfl, t1, t2, t3⟩ := OwnR.shape O2.out
    have ze : (er != 0) = true := by simpa using he
    clear s1 s2 s3 t1 t2 t3 hbad he
    go_wp2_with fail
    go_ret
    exact ⟨rfl, L3.out⟩
theorem blanks_far (a0 : ByteArray) (a : Option Addr) (len cap : Nat) (hl : 3000 < a0.size ∨ 300 < len) (w : World) (hm : MkAt w) :
    Calls Tryd.prog 4 #[.string a0, .slice a len cap] w fun e w' => e = .returned (.bool true) ∧ Low w w' := by
  have HM := Lib.hid hm
  clear hm
  by_cases h : 3000 < a0.size
  · have hq : (3000 : Int) < (a0.size : Int) := by omega
    go_enter Tryd.func4, Tryd.ntmps4
    go_wp2_with fail
    refine (awake7_c _ HM.out).mono ?_
    rintro e w1 ⟨rfl, l1⟩
    go_wp2_with fail
    go_ret
    exact ⟨rfl, l1⟩
  · have hq : ¬ (3000 : Int) < (a0.size : Int) := by omega
    have hq2 : (300 : Int) < (len : Int) := by omega
    go_enter Tryd.func4, Tryd.ntmps4
    go_wp2_with fail
    refine (awake7_c _ HM.out).mono ?_
    rintro e w1 ⟨rfl, l1⟩
    go_wp2_with fail
    go_ret
    exact ⟨rfl, l1⟩
theorem lexBlanks_walk (a0 : ByteArray) (a1 : Option Addr) (len1 cap1 : Nat) (z1 : List Int) (w : World) (w1 : IsRow .u8 w a1 len1 cap1 z1) (hm : MkAt w) :
    Calls Tryd.prog 4 #[.string a0, .slice a1 len1 cap1] w fun e w' => e = .returned (.bool true) ∧ Low w w' := by
  by_cases h1 : 3000 < a0.size ∨ 300 < len1
  · exact blanks_far a0 a1 len1 cap1 h1 w hm
  · by_cases h0 : len1 = 0
    · subst h0; exact blanks_none a0 (by omega) a1 cap1 w hm
    · rcases w1 with ⟨_, h, _, _⟩ | ⟨x, rfl, hlc, _, hz, hcell, hwf⟩
      · exact absurd h h0
      · obtain ⟨b, off, rfl, hc⟩ := ints_at hcell (by omega)
        refine blanks_row a0 (by omega) b off len1 cap1 z1 (by omega) hlc hz w hm (Lib.hid hc) (Lib.hid fun j hj => ?_)
        have hm : z1.getD j 0 ∈ z1 := by
          rw [List.getD_eq_getElem?_getD, List.getElem?_eq_getElem hj]; exact List.getElem_mem hj
        exact bounds_u8 (hwf _ hm)
end Go.Proofs.YtdblkjcimegoeaaDoor
