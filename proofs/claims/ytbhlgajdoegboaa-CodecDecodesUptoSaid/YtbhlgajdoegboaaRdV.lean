/- codec.reader's value where a number or a reference is read, or no kind. No condition. -/
import Derived.Test.YtbhlgajdoegboaaRdB
namespace Go.Proofs.Ytbhlgajdoegboaa
open Go.RowKit
theorem set4 {w : World} {r : Nat} {c0 c1 c2 c3 c4 c5 c6 c7 v : Value} (h : w.cell? ⟨r, 0, none⟩ = some c0 ∧ w.cell? ⟨r, 1, none⟩ = some c1 ∧ w.cell? ⟨r, 2, none⟩ = some c2 ∧ w.cell? ⟨r, 3, none⟩ = some c3 ∧ w.cell? ⟨r, 4, none⟩ = some c4 ∧ w.cell? ⟨r, 5, none⟩ = some c5 ∧ w.cell? ⟨r, 6, none⟩ = some c6 ∧ w.cell? ⟨r, 7, none⟩ = some c7) :
    (w.setCell ⟨r, 4, none⟩ v).cell? ⟨r, 0, none⟩ = some c0 ∧ (w.setCell ⟨r, 4, none⟩ v).cell? ⟨r, 1, none⟩ = some c1 ∧ (w.setCell ⟨r, 4, none⟩ v).cell? ⟨r, 2, none⟩ = some c2 ∧ (w.setCell ⟨r, 4, none⟩ v).cell? ⟨r, 3, none⟩ = some c3 ∧ (w.setCell ⟨r, 4, none⟩ v).cell? ⟨r, 4, none⟩ = some v ∧ (w.setCell ⟨r, 4, none⟩ v).cell? ⟨r, 5, none⟩ = some c5 ∧ (w.setCell ⟨r, 4, none⟩ v).cell? ⟨r, 6, none⟩ = some c6 ∧ (w.setCell ⟨r, 4, none⟩ v).cell? ⟨r, 7, none⟩ = some c7 := by
  obtain ⟨e0, e1, e2, e3, e4, e5, e6, e7⟩ := h
  refine ⟨?_, ?_, ?_, ?_, ?_, ?_, ?_, ?_⟩ <;> simp [go_sem, e0, e1, e2, e3, e4, e5, e6, e7]
theorem keep8 {w w' : World} {r g : Nat} {c0 c1 c2 c3 c4 c5 c6 c7 : Value} (k : KeptBut w w' (some g)) (hg : r ≠ g) (h : w.cell? ⟨r, 0, none⟩ = some c0 ∧ w.cell? ⟨r, 1, none⟩ = some c1 ∧ w.cell? ⟨r, 2, none⟩ = some c2 ∧ w.cell? ⟨r, 3, none⟩ = some c3 ∧ w.cell? ⟨r, 4, none⟩ = some c4 ∧ w.cell? ⟨r, 5, none⟩ = some c5 ∧ w.cell? ⟨r, 6, none⟩ = some c6 ∧ w.cell? ⟨r, 7, none⟩ = some c7) :
    w'.cell? ⟨r, 0, none⟩ = some c0 ∧ w'.cell? ⟨r, 1, none⟩ = some c1 ∧ w'.cell? ⟨r, 2, none⟩ = some c2 ∧ w'.cell? ⟨r, 3, none⟩ = some c3 ∧ w'.cell? ⟨r, 4, none⟩ = some c4 ∧ w'.cell? ⟨r, 5, none⟩ = some c5 ∧ w'.cell? ⟨r, 6, none⟩ = some c6 ∧ w'.cell? ⟨r, 7, none⟩ = some c7 := by
  obtain ⟨e0, e1, e2, e3, e4, e5, e6, e7⟩ := h
  have hr : some r ≠ some g := by simpa using hg
  exact ⟨k.cellAt e0 hr, k.cellAt e1 hr, k.cellAt e2 hr, k.cellAt e3 hr, k.cellAt e4 hr, k.cellAt e5 hr, k.cellAt e6 hr, k.cellAt e7 hr⟩
set_option maxHeartbeats 1600000 in
set_option maxRecDepth 100000 in
theorem value_2 (B rb : Nat) (l : List UInt8) (sh : Bool) (w : World) (h : RdAt B w rb l sh) (hB : B ≤ w.heap.size) (h1 : ofB (tkB 1 l) = 2) (z : Int) (hz : wrap64 ((ofB (tkB 8 (tkR 1 l)) : Nat) : Int) = z) :
    Calls Try.prog 27 #[.pointer (some ⟨rb, 0, none⟩)] w fun e w' => e = .returned (.agg #[.int .i64 2, .bool false, .int .i64 z, .string ⟨#[]⟩, .string ⟨#[]⟩, .string ⟨#[]⟩, .slice none 0 0, .slice none 0 0]) ∧ Took B w rb (tkR 8 (tkR 1 l)) (tkS 8 (tkR 1 l) (tkS 1 l sh)) w' := by
  have hrb := h.lt
  have R0 := Lib.hid (h.low hB (Low.alloc (Low.refl w) (.cells #[.int .i64 0, .bool false, .int .i64 0, .string ⟨#[]⟩, .string ⟨#[]⟩, .string ⟨#[]⟩, .slice none 0 0, .slice none 0 0] 29)))
  have N1 := Lib.hid (number_c 1 (by decide) 1 rfl B rb l sh _ R0.out)
  have H1 := Lib.hid h1
  obtain ⟨m2, hm2⟩ : ∃ m2 : Int, m2 = ((ofB (tkB 8 (tkR 1 l)) : Nat) : Int) := ⟨_, rfl⟩
  rw [← hm2] at hz
  have HM := Lib.hid hm2
  have HZ := Lib.hid hz
  clear h h1 hm2 hz
  go_enter Try.func27, Try.ntmps27
  go_wp2_with (first
    | ((fail_if_success (have := T1)); go_at_call 47; refine N1.out.mono ?_; rintro e w1 ⟨⟨m, rfl, hm⟩, T1⟩; obtain rfl : m = 2 := (by rw [hm, H1.out]; rfl); clear hm; have s1 : w.heap.size + 1 + 1 ≤ w1.heap.size + 1 := (by have := T1.2.2.2.1; simp at this; omega); have R2 := T1.1.low (by omega) (Low.alloc (Low.refl w1) (.cells #[.int .i64 2, .bool false, .int .i64 0, .string ⟨#[]⟩, .string ⟨#[]⟩, .string ⟨#[]⟩, .slice none 0 0, .slice none 0 0] 29)))
    | (go_at_call 47; refine (number_c 8 (by decide) 8 rfl B rb _ _ _ R2).mono ?_; rintro e w2 ⟨⟨m, rfl, hm⟩, T2⟩; rw [← HM.out] at hm; subst hm; obtain ⟨⟨c0, c1, c2, c3, c4, c5, c6, c7⟩, fz⟩ := kept_new T2.2 (by omega); obtain ⟨⟨d0, d1, d2, d3, d4, d5, d6, d7⟩, fy⟩ := kept_new (T1.2.trans ((KeptBut.of_low (Low.alloc (Low.refl w1) _)).trans T2.2)) (by omega); have fz2 := fz 2; have g0 := fy 0; have g1 := fy 1; have g2 := fy 2; have g3 := fy 3; have g4 := fy 4; have g5 := fy 5; have g6 := fy 6; have g7 := fy 7))
  rw [HZ.out]
  refine bodyPost_ret (v := .agg #[.int .i64 2, .bool false, .int .i64 z, .string ⟨#[]⟩, .string ⟨#[]⟩, .string ⟨#[]⟩, .slice none 0 0, .slice none 0 0]) (by simp [results, Try.results27, go_sem, World.cell?_setCell_same', d0, d1, d2, d3, d4, d5, d6, d7]; try rfl) rfl ?_
  have s2' := T2.2.2.2.1
  have s3 : w1.heap.size + 1 ≤ w2.heap.size := by simpa using s2'
  have K1 : KeptBut w w2 (some rb) := ((KeptBut.of_low (Low.alloc (Low.refl w) _)).trans T1.2).trans ((KeptBut.of_low (Low.alloc (Low.refl w1) _)).trans T2.2)
  have k2 := kept_setCell w2 w1.heap.size 2 (.int .i64 z)
  have k8 := kept8 (w2.setCell ⟨w1.heap.size, 2, none⟩ (.int .i64 z)) w.heap.size (.int .i64 2) (.bool false) (.int .i64 z) (.string ⟨#[]⟩) (.string ⟨#[]⟩) (.string ⟨#[]⟩) (.slice none 0 0) (.slice none 0 0)
  refine ⟨rfl, ?_, ?_⟩
  · exact (((T2.1).kept k2 (by omega) (by omega) (by omega))).kept k8 (by omega) (by omega) (by have := k2.2.2.1; omega)
  · exact ((K1).more k2 fun g hg => by simp at hg; omega).more k8 fun g hg => by simp at hg; omega
set_option maxHeartbeats 1600000 in
set_option maxRecDepth 100000 in
theorem value_0 (B rb : Nat) (l : List UInt8) (sh : Bool) (w : World) (h : RdAt B w rb l sh) (hB : B ≤ w.heap.size) (m : Int) (hm : m = (ofB (tkB 1 l) : Nat)) (hk : m = 0 ∨ 6 < m) :
    Calls Try.prog 27 #[.pointer (some ⟨rb, 0, none⟩)] w fun e w' => e = .returned (.agg #[.int .i64 m, .bool false, .int .i64 0, .string ⟨#[]⟩, .string ⟨#[]⟩, .string ⟨#[]⟩, .slice none 0 0, .slice none 0 0]) ∧ Took B w rb (tkR 1 l) (tkS 1 l sh) w' := by
  have hrb := h.lt
  have R0 := Lib.hid (h.low hB (Low.alloc (Low.refl w) (.cells #[.int .i64 0, .bool false, .int .i64 0, .string ⟨#[]⟩, .string ⟨#[]⟩, .string ⟨#[]⟩, .slice none 0 0, .slice none 0 0] 29)))
  have N1 := Lib.hid (number_c 1 (by decide) 1 rfl B rb l sh _ R0.out)
  have HM := Lib.hid hm
  have hm8 : 0 ≤ m ∧ m < 256 := by
    have h1 := ofB_lt (tkB 1 l)
    have h2 : (tkB 1 l).length ≤ 1 := by unfold tkB; split <;> simp <;> omega
    have h3 : 256 ^ (tkB 1 l).length ≤ 256 ^ 1 := Nat.pow_le_pow_right (by decide) h2
    omega
  obtain ⟨hm0, hm9⟩ := hm8
  have n1 : (m == 1) = false := by simp; omega
  have n2 : (m == 2) = false := by simp; omega
  have n3 : (m == 3) = false := by simp; omega
  have n4 : (m == 4) = false := by simp; omega
  have n5 : (m == 5) = false := by simp; omega
  have n6 : (m == 6) = false := by simp; omega
  clear h hm hk
  go_enter Try.func27, Try.ntmps27
  go_wp2_with (first
    | (go_at_call 47; refine N1.out.mono ?_; rintro e w1 ⟨⟨m', rfl, hm'⟩, T1⟩; rw [← HM.out] at hm'; subst hm'; have s1 : w.heap.size + 1 + 1 ≤ w1.heap.size + 1 := (by have := T1.2.2.2.1; simp at this; omega); obtain ⟨⟨d0, d1, d2, d3, d4, d5, d6, d7⟩, fy⟩ := kept_new (T1.2.trans (KeptBut.of_low (Low.alloc (Low.refl w1) (.cells #[.int .i64 m', .bool false, .int .i64 0, .string ⟨#[]⟩, .string ⟨#[]⟩, .string ⟨#[]⟩, .slice none 0 0, .slice none 0 0] 29)))) (by omega); have g0 := fy 0; have g1 := fy 1; have g2 := fy 2; have g3 := fy 3; have g4 := fy 4; have g5 := fy 5; have g6 := fy 6; have g7 := fy 7))
  refine bodyPost_ret (v := .agg #[.int .i64 m', .bool false, .int .i64 0, .string ⟨#[]⟩, .string ⟨#[]⟩, .string ⟨#[]⟩, .slice none 0 0, .slice none 0 0]) (by simp [results, Try.results27, go_sem, World.cell?_setCell_same', d0, d1, d2, d3, d4, d5, d6, d7]; try rfl) rfl ?_
  have k8 := kept8 (w1.alloc (.cells #[.int .i64 m', .bool false, .int .i64 0, .string ⟨#[]⟩, .string ⟨#[]⟩, .string ⟨#[]⟩, .slice none 0 0, .slice none 0 0] 29)) w.heap.size (.int .i64 m') (.bool false) (.int .i64 0) (.string ⟨#[]⟩) (.string ⟨#[]⟩) (.string ⟨#[]⟩) (.slice none 0 0) (.slice none 0 0)
  have K1 : KeptBut w (w1.alloc (.cells #[.int .i64 m', .bool false, .int .i64 0, .string ⟨#[]⟩, .string ⟨#[]⟩, .string ⟨#[]⟩, .slice none 0 0, .slice none 0 0] 29)) (some rb) := ((KeptBut.of_low (Low.alloc (Low.refl w) _)).trans T1.2).trans (KeptBut.of_low (Low.alloc (Low.refl w1) _))
  have R2 := T1.1.low (show B ≤ w1.heap.size by omega) (Low.alloc (Low.refl w1) (.cells #[.int .i64 m', .bool false, .int .i64 0, .string ⟨#[]⟩, .string ⟨#[]⟩, .string ⟨#[]⟩, .slice none 0 0, .slice none 0 0] 29))
  refine ⟨rfl, ?_, ?_⟩
  · exact R2.kept k8 (by omega) (by omega) (by simp; omega)
  · exact K1.more k8 fun g hg => by simp at hg; omega
set_option maxHeartbeats 1600000 in
set_option maxRecDepth 100000 in
theorem value_4 (B rb : Nat) (l : List UInt8) (sh : Bool) (w : World) (h : RdAt B w rb l sh) (hB : B ≤ w.heap.size) (h1 : ofB (tkB 1 l) = 4) (s t : ByteArray) (hs : s = ⟨(txB (tkR 1 l)).toArray⟩) (ht : t = ⟨(txB (txR (tkR 1 l))).toArray⟩) :
    Calls Try.prog 27 #[.pointer (some ⟨rb, 0, none⟩)] w fun e w' => e = .returned (.agg #[.int .i64 4, .bool false, .int .i64 0, .string ⟨#[]⟩, .string s, .string t, .slice none 0 0, .slice none 0 0]) ∧ Took B w rb (txR (txR (tkR 1 l))) (txS (txR (tkR 1 l)) (txS (tkR 1 l) (tkS 1 l sh))) w' := by
  have hrb := h.lt
  have R0 := Lib.hid (h.low hB (Low.alloc (Low.refl w) (.cells #[.int .i64 0, .bool false, .int .i64 0, .string ⟨#[]⟩, .string ⟨#[]⟩, .string ⟨#[]⟩, .slice none 0 0, .slice none 0 0] 29)))
  have N1 := Lib.hid (number_c 1 (by decide) 1 rfl B rb l sh _ R0.out)
  have H1 := Lib.hid h1
  have HS := Lib.hid hs
  have HT := Lib.hid ht
  clear h h1 hs ht
  go_enter Try.func27, Try.ntmps27
  go_wp2_with (first
    | ((fail_if_success (have := T1)); go_at_call 47; refine N1.out.mono ?_; rintro e w1 ⟨⟨m, rfl, hm⟩, T1⟩; obtain rfl : m = 4 := (by rw [hm, H1.out]; rfl); clear hm; have s1 : w.heap.size + 1 + 1 ≤ w1.heap.size + 1 := (by have := T1.2.2.2.1; simp at this; omega); have R2 := T1.1.low (by omega) (Low.alloc (Low.refl w1) (.cells #[.int .i64 4, .bool false, .int .i64 0, .string ⟨#[]⟩, .string ⟨#[]⟩, .string ⟨#[]⟩, .slice none 0 0, .slice none 0 0] 29)))
    | ((fail_if_success (have := TA)); go_at_call 48; refine (text_c B rb _ _ _ R2).mono ?_; rintro e wa ⟨⟨s2, rfl, hs2⟩, TA⟩; rw [← HS.out] at hs2; subst hs2; have sa : w1.heap.size + 1 ≤ wa.heap.size := (by have := TA.2.2.2.1; simpa using this); obtain ⟨xc, xf⟩ := kept_new TA.2 (by omega); have fa := xf 4; have R3 := TA.1.kept (kept_setCell wa w1.heap.size 4 (.string s2)) (by omega) (by omega) (by omega))
    | (go_at_call 48; refine (text_c B rb _ _ _ R3).mono ?_; rintro e w2 ⟨⟨t2, rfl, ht2⟩, T2⟩; rw [← HT.out] at ht2; subst ht2; obtain ⟨c0, c1, c2, c3, c4, c5, c6, c7⟩ := keep8 T2.2 (by omega) (set4 (v := .string s2) xc); have fz5 : w2.frozen? ⟨w1.heap.size, 5, none⟩ = false := (by rw [World.frozen?_of_block (w := wa.setCell ⟨w1.heap.size, 4, none⟩ (.string s2)) (w' := w2) (a := ⟨w1.heap.size, 5, none⟩) (T2.2.2.2.2 w1.heap.size (by simp; omega) (by simp; omega))]; simpa [go_sem] using xf 5); have KW := (T1.2.trans ((KeptBut.of_low (Low.alloc (Low.refl w1) _)).trans TA.2)); obtain ⟨yc, yf⟩ := kept_new KW (by omega); have KS := kept_setCell wa w1.heap.size 4 (.string s2); obtain ⟨d0, d1, d2, d3, d4, d5, d6, d7⟩ := keep8 T2.2 (by omega) (keep8 KS (by omega) yc); have fy : ∀ o, w2.frozen? ⟨w.heap.size, o, none⟩ = false := (fun o => by rw [World.frozen?_of_block (w := wa) (w' := w2) (a := ⟨w.heap.size, o, none⟩) ((T2.2.2.2.2 w.heap.size (by simp; omega) (by simp; omega)).trans (KS.2.2.2 w.heap.size (by omega) (by simp; omega)))]; exact yf o); have g0 := fy 0; have g1 := fy 1; have g2 := fy 2; have g3 := fy 3; have g4 := fy 4; have g5 := fy 5; have g6 := fy 6; have g7 := fy 7))
  refine bodyPost_ret (v := .agg #[.int .i64 4, .bool false, .int .i64 0, .string ⟨#[]⟩, .string s2, .string t2, .slice none 0 0, .slice none 0 0]) (by simp [results, Try.results27, go_sem, World.cell?_setCell_same', d0, d1, d2, d3, d4, d5, d6, d7]; try rfl) rfl ?_
  have s4 : wa.heap.size ≤ w2.heap.size := by have := T2.2.2.2.1; simpa using this
  have KA : KeptBut w wa (some rb) := (KeptBut.of_low (Low.alloc (Low.refl w) _)).trans KW
  have KB : KeptBut w w2 (some rb) := (KA.more KS fun g hg => by simp at hg; omega).trans T2.2
  have k5 := kept_setCell w2 w1.heap.size 5 (.string t2)
  have k8 := kept8 (w2.setCell ⟨w1.heap.size, 5, none⟩ (.string t2)) w.heap.size (.int .i64 4) (.bool false) (.int .i64 0) (.string ⟨#[]⟩) (.string s2) (.string t2) (.slice none 0 0) (.slice none 0 0)
  refine ⟨rfl, ?_, ?_⟩
  · exact (T2.1.kept k5 (by omega) (by omega) (by omega)).kept k8 (by omega) (by omega) (by have := k5.2.2.1; omega)
  · exact (KB.more k5 fun g hg => by simp at hg; omega).more k8 fun g hg => by simp at hg; omega
end Go.Proofs.Ytbhlgajdoegboaa
