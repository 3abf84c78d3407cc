/- codec.reader's value where a text is read. No condition. codec.Decode of a text's bytes, and of too many. Condition: as each says. CodecLong: a text has bytes as long as they are no more than may be; so has a set of two of them. No condition. CodecLong: the walk. No condition. -/
import Derived.Test.YtbhlgajdoegboaaRdB
import Derived.Test.YtbhlgajdoegboaaEncA
import Derived.Laws.Bits128
import Derived.Deep.OwnRows
namespace Go.Proofs.Ytbhlgajdoegboaa
open Go.RowKit
set_option maxHeartbeats 1600000 in
set_option maxRecDepth 100000 in
theorem value_3 (B rb : Nat) (l : List UInt8) (sh : Bool) (w : World) (h : RdAt B w rb l sh) (hB : B ≤ w.heap.size) (h1 : ofB (tkB 1 l) = 3) (s : ByteArray) (hs : s = ⟨(txB (tkR 1 l)).toArray⟩) :
    Calls Try.prog 27 #[.pointer (some ⟨rb, 0, none⟩)] w fun e w' => e = .returned (.agg #[.int .i64 3, .bool false, .int .i64 0, .string s, .string ⟨#[]⟩, .string ⟨#[]⟩, .slice none 0 0, .slice none 0 0]) ∧ Took B w rb (txR (tkR 1 l)) (txS (tkR 1 l) (tkS 1 l sh)) w' := by
  have hrb := h.lt
  have R0 := Lib.hid (h.low hB (Low.alloc (Low.refl w) (.cells #[.int .i64 0, .bool false, .int .i64 0, .string ⟨#[]⟩, .string ⟨#[]⟩, .string ⟨#[]⟩, .slice none 0 0, .slice none 0 0] 29)))
  have N1 := Lib.hid (number_c 1 (by decide) 1 rfl B rb l sh _ R0.out)
  have H1 := Lib.hid h1
  have HS := Lib.hid hs
  clear h h1 hs
  go_enter Try.func27, Try.ntmps27
  go_wp2_with (first
    | ((fail_if_success (have := T1)); go_at_call 47; refine N1.out.mono ?_; rintro e w1 ⟨⟨m, rfl, hm⟩, T1⟩; obtain rfl : m = 3 := (by rw [hm, H1.out]; rfl); clear hm; have s1 : w.heap.size + 1 + 1 ≤ w1.heap.size + 1 := (by have := T1.2.2.2.1; simp at this; omega); have R2 := T1.1.low (by omega) (Low.alloc (Low.refl w1) (.cells #[.int .i64 3, .bool false, .int .i64 0, .string ⟨#[]⟩, .string ⟨#[]⟩, .string ⟨#[]⟩, .slice none 0 0, .slice none 0 0] 29)))
    | (go_at_call 48; refine (text_c B rb _ _ _ R2).mono ?_; rintro e w2 ⟨⟨s2, rfl, hs2⟩, T2⟩; rw [← HS.out] at hs2; subst hs2; obtain ⟨⟨c0, c1, c2, c3, c4, c5, c6, c7⟩, fz⟩ := kept_new T2.2 (by omega); obtain ⟨⟨d0, d1, d2, d3, d4, d5, d6, d7⟩, fy⟩ := kept_new (T1.2.trans ((KeptBut.of_low (Low.alloc (Low.refl w1) _)).trans T2.2)) (by omega); have fz3 := fz 3; have g0 := fy 0; have g1 := fy 1; have g2 := fy 2; have g3 := fy 3; have g4 := fy 4; have g5 := fy 5; have g6 := fy 6; have g7 := fy 7))
  refine bodyPost_ret (v := .agg #[.int .i64 3, .bool false, .int .i64 0, .string s2, .string ⟨#[]⟩, .string ⟨#[]⟩, .slice none 0 0, .slice none 0 0]) (by simp [results, Try.results27, go_sem, World.cell?_setCell_same', d0, d1, d2, d3, d4, d5, d6, d7]; try rfl) rfl ?_
  have s2' := T2.2.2.2.1
  have s3 : w1.heap.size + 1 ≤ w2.heap.size := by simpa using s2'
  have K1 : KeptBut w w2 (some rb) := ((KeptBut.of_low (Low.alloc (Low.refl w) _)).trans T1.2).trans ((KeptBut.of_low (Low.alloc (Low.refl w1) _)).trans T2.2)
  have k2 := kept_setCell w2 w1.heap.size 3 (.string s2)
  have k8 := kept8 (w2.setCell ⟨w1.heap.size, 3, none⟩ (.string s2)) w.heap.size (.int .i64 3) (.bool false) (.int .i64 0) (.string s2) (.string ⟨#[]⟩) (.string ⟨#[]⟩) (.slice none 0 0) (.slice none 0 0)
  refine ⟨rfl, ?_, ?_⟩
  · exact (T2.1.kept k2 (by omega) (by omega) (by omega)).kept k8 (by omega) (by omega) (by have := k2.2.2.1; omega)
  · exact (K1.more k2 fun g hg => by simp at hg; omega).more k8 fun g hg => by simp at hg; omega
end Go.Proofs.Ytbhlgajdoegboaa
namespace Go.Proofs.Ytbhlgajdoegboaa
open Go.RowKit
theorem tx_layT (s : ByteArray) (h : s.size < 4294967296) (t : List UInt8) (sh : Bool) : txB (layT s ++ t) = s.data.toList ∧ txR (layT s ++ t) = t ∧ txS (layT s ++ t) sh = sh := by
  have e0 : layT s ++ t = be 4 s.size ++ (s.data.toList ++ t) := by unfold layT; rw [List.append_assoc]
  have e1 : txN (layT s ++ t) = s.size := by
    unfold txN
    rw [e0, tkB_app (be_len _ _), ofB_be (by have q : (256 : Nat) ^ 4 = 4294967296 := (by decide); omega)]
  have e2 : tkR 4 (layT s ++ t) = s.data.toList ++ t := by rw [e0, tkR_app (be_len _ _)]
  have e3 : s.data.toList.length = s.size := by rw [Array.length_toList]; rfl
  unfold txB txR txS
  rw [e1, e2]
  refine ⟨tkB_app e3, tkR_app e3, ?_⟩
  rw [tkS_app e3, e0, tkS_app (be_len _ _)]
theorem can_xV (s : ByteArray) : can (xV s) = (0, xV s) := by
  have h : (xV s).h.k = 3 := rfl
  rw [can_v, if_neg (by rw [h]; decide), if_neg (by rw [h]; decide), if_pos h]
  rfl
theorem dpt_xV (s : ByteArray) : dpt (xV s) = 1 := dpt_one (k := 3) rfl (by decide) (by decide) _ _
theorem canD_xV (s : ByteArray) : canD (xV s) = (0, xV s) := by
  unfold canD
  rw [if_neg (by rw [dpt_xV]; decide), can_xV]
theorem lay_xV (s : ByteArray) : lay (xV s) = be 1 3 ++ layT s := by
  rw [lay_v]
  rfl
theorem lay_xV_len (s : ByteArray) : (lay (xV s)).length = s.size + 5 := by
  rw [lay_xV, List.length_append, be_len, layT_len]; omega
theorem enc_xV (s : ByteArray) : encD (xV s) = if 65536 < s.size + 5 then (12, []) else (0, lay (xV s)) := by
  unfold encD
  rw [canD_xV, if_pos rfl, lay_xV_len]
theorem encX_c (s : ByteArray) (hs : s.size ≤ 65531) (n : Nat) (hn : n = s.size + 5) (W : World) : Calls Try.prog 18 #[.agg #[.int .i64 3, .bool false, .int .i64 0, .string s, .string ⟨#[]⟩, .string ⟨#[]⟩, .slice none 0 0, .slice none 0 0]] W
    fun e w' => ∃ ao cap, e = .returned (.tuple #[.slice ao n cap, .int .i64 0]) ∧ Own W.heap.size w' (.slice ao n cap) (lay (xV s)) ∧ Low W w' := by
  subst hn
  have h := enc_c (xV s) W _ _ (r_xV W s (by omega)) (sm_xV s) (by rw [vb_v]; simp only [xV, V.h, V.l, V.ns, hd0, vbL, nbL]; have e0 : (⟨#[]⟩ : ByteArray).size = 0 := rfl; omega)
  unfold EncPost at h
  rw [enc_xV, if_neg (by omega)] at h
  simp only [lay_xV_len] at h
  exact h
theorem encX_long (s : ByteArray) (hs : 65531 < s.size) (hs2 : s.size ≤ 1000000) (W : World) : Calls Try.prog 18 #[.agg #[.int .i64 3, .bool false, .int .i64 0, .string s, .string ⟨#[]⟩, .string ⟨#[]⟩, .slice none 0 0, .slice none 0 0]] W
    fun e w' => ∃ ao cap, e = .returned (.tuple #[.slice ao 0 cap, .int .i64 12]) ∧ Low W w' := by
  have h := enc_c (xV s) W _ _ (r_xV W s (by omega)) (sm_xV s) (by rw [vb_v]; simp only [xV, V.h, V.l, V.ns, hd0, vbL, nbL]; have e0 : (⟨#[]⟩ : ByteArray).size = 0 := rfl; omega)
  unfold EncPost at h
  rw [enc_xV, if_pos (by omega)] at h
  exact h.mono fun e w' ⟨ao, cap, he, _, l⟩ => ⟨ao, cap, he, l⟩
set_option maxHeartbeats 1600000 in
set_option maxRecDepth 100000 in
theorem dec_3 (s : ByteArray) (hs : s.size ≤ 65531) (n : Nat) (hn : n = s.size + 5) (w : World) (ao : Option Addr) (cap : Nat) (h : BytesAt w.heap.size w (lay (xV s)) ao cap) :
    Calls Try.prog 14 #[.slice ao n cap] w fun e w' => e = .returned (.tuple #[.agg #[.int .i64 3, .bool false, .int .i64 0, .string s, .string ⟨#[]⟩, .string ⟨#[]⟩, .slice none 0 0, .slice none 0 0], .int .i64 0]) ∧ Low w w' := by
  have rn := rd_new h (w.alloc (.cells #[.int .i64 0, .bool false, .int .i64 0, .string ⟨#[]⟩, .string ⟨#[]⟩, .string ⟨#[]⟩, .slice none 0 0, .slice none 0 0] 29)) (Low.alloc (Low.refl w) _)
  rw [show (w.alloc (.cells #[.int .i64 0, .bool false, .int .i64 0, .string ⟨#[]⟩, .string ⟨#[]⟩, .string ⟨#[]⟩, .slice none 0 0, .slice none 0 0] 29)).heap.size = w.heap.size + 1 by simp, lay_xV_len, ← hn] at rn
  have et := tx_layT s (by omega) [] false
  rw [List.append_nil] at et
  have hv := value_3 w.heap.size (w.heap.size + 1) (lay (xV s)) false _ rn (by simp; omega) (by rw [lay_xV, tkB_app (be_len _ _), ofB_be (by decide)]) s (by rw [lay_xV, tkR_app (be_len _ _), et.1])
  have HV := Lib.hid hv
  have H := Lib.hid h
  have zl : (n : Int) ≤ 65536 := by omega
  have EX := Lib.hid (fun W => encX_c s hs n hn W)
  have HN := Lib.hid hn
  clear h rn hv et hs hn
  go_enter Try.func14, Try.ntmps14
  go_wp2_with (first
    | (go_at_call 27; refine HV.out.mono ?_; rintro e w1 ⟨rfl, T1⟩; have s1 : w.heap.size + 2 ≤ w1.heap.size := (by have := T1.2.2.2.1; simp at this; omega)))
  have KA : Hid (KeptBut (w.alloc (.cells #[.int .i64 0, .bool false, .int .i64 0, .string ⟨#[]⟩, .string ⟨#[]⟩, .string ⟨#[]⟩, .slice none 0 0, .slice none 0 0] 29)) w1 (some (w.heap.size + 1))) := Lib.hid ((KeptBut.of_low (Low.alloc (Low.refl _) _)).trans T1.2)
  have LA : Hid (Low w w1) := Lib.hid ((Low.alloc (Low.refl w) _).kept KA.out fun g hg => by simp at hg; omega)
  clear T1
  have NB := Lib.hid (kept_new (rb := w.heap.size + 1) (w := w) (w' := w1) KA.out (by omega))
  go_wp2_with (first
    | (go_at_call 18; refine (EX.out (w1.alloc (.cells #[.int .i64 3, .bool false, .int .i64 0, .string s, .string ⟨#[]⟩, .string ⟨#[]⟩, .slice none 0 0, .slice none 0 0] 29))).mono ?_; rintro e w2 ⟨ao2, cap2, rfl, O2, L2⟩; have LB := Low.trans (Low.alloc LA.out (.cells #[.int .i64 3, .bool false, .int .i64 0, .string s, .string ⟨#[]⟩, .string ⟨#[]⟩, .slice none 0 0, .slice none 0 0] 29)) L2; obtain ⟨⟨c0, c1, c2, c3, c4, c5, c6, c7⟩, fz⟩ := NB.out; have C0 := (Low.trans (Low.alloc (Low.refl w1) (.cells #[.int .i64 3, .bool false, .int .i64 0, .string s, .string ⟨#[]⟩, .string ⟨#[]⟩, .slice none 0 0, .slice none 0 0] 29)) L2); have g0 := C0.keep c0; have g1 := C0.keep c1; have g2 := C0.keep c2; have g3 := C0.keep c3; have g4 := C0.keep c4; have g5 := C0.keep c5; have g6 := C0.keep c6; have g7 := C0.keep c7; have y0 := (C0.frozen (p := ⟨w.heap.size, 0, none⟩) (show w.heap.size < w1.heap.size by omega)).trans (fz 0); have y1 := (C0.frozen (p := ⟨w.heap.size, 1, none⟩) (show w.heap.size < w1.heap.size by omega)).trans (fz 1); have y2 := (C0.frozen (p := ⟨w.heap.size, 2, none⟩) (show w.heap.size < w1.heap.size by omega)).trans (fz 2); have y3 := (C0.frozen (p := ⟨w.heap.size, 3, none⟩) (show w.heap.size < w1.heap.size by omega)).trans (fz 3); have y4 := (C0.frozen (p := ⟨w.heap.size, 4, none⟩) (show w.heap.size < w1.heap.size by omega)).trans (fz 4); have y5 := (C0.frozen (p := ⟨w.heap.size, 5, none⟩) (show w.heap.size < w1.heap.size by omega)).trans (fz 5); have y6 := (C0.frozen (p := ⟨w.heap.size, 6, none⟩) (show w.heap.size < w1.heap.size by omega)).trans (fz 6); have y7 := (C0.frozen (p := ⟨w.heap.size, 7, none⟩) (show w.heap.size < w1.heap.size by omega)).trans (fz 7); clear c0 c1 c2 c3 c4 c5 c6 c7; obtain ⟨b0, b1, b2, b3, b4, b5, b6, b7⟩ := othbox (Oth.of_low L2))
    | (go_at_call 28; refine (Try.bytes_Equal_strs _ _ ⟨(lay (xV s)).toArray⟩ ⟨(lay (xV s)).toArray⟩ w2 (own_conv O2) (by have q := conv_bytes (H.out.to LB.2.2.2); rw [lay_xV_len, ← HN.out] at q; exact q)).mono ?_; rintro e w3 ⟨rfl, rfl⟩; rw [beq_self_eq_true]))
  refine bodyPost_ret (v := .tuple #[.agg #[.int .i64 3, .bool false, .int .i64 0, .string s, .string ⟨#[]⟩, .string ⟨#[]⟩, .slice none 0 0, .slice none 0 0], .int .i64 0]) (by simp [results, Try.results14, go_sem, World.cell?_setCell_same', g0, g1, g2, g3, g4, g5, g6, g7]; try rfl) rfl ?_
  have k8 := kept8 w3 w.heap.size (.int .i64 3) (.bool false) (.int .i64 0) (.string s) (.string ⟨#[]⟩) (.string ⟨#[]⟩) (.slice none 0 0) (.slice none 0 0)
  exact ⟨rfl, LB.kept k8 fun g hg => by simp at hg; omega⟩
set_option maxHeartbeats 1600000 in
set_option maxRecDepth 100000 in
theorem dec_long (n : Nat) (hn : 65536 < n) (ao : Option Addr) (cap : Nat) (w : World) :
    Calls Try.prog 14 #[.slice ao n cap] w fun e w' => e = .returned (.tuple #[.agg #[.int .i64 0, .bool false, .int .i64 0, .string ⟨#[]⟩, .string ⟨#[]⟩, .string ⟨#[]⟩, .slice none 0 0, .slice none 0 0], .int .i64 12]) ∧ Low w w' := by
  have zl : (65536 : Int) < (n : Int) := by omega
  go_enter Try.func14, Try.ntmps14
  go_wp2_with fail
  refine bodyPost_ret (v := .tuple #[.agg #[.int .i64 0, .bool false, .int .i64 0, .string ⟨#[]⟩, .string ⟨#[]⟩, .string ⟨#[]⟩, .slice none 0 0, .slice none 0 0], .int .i64 12]) (by simp [results, Try.results14, go_sem]; try rfl) rfl ?_
  exact ⟨rfl, Low.alloc (Low.refl w) _⟩
end Go.Proofs.Ytbhlgajdoegboaa
namespace Go.Proofs.Ytbhlgajdoegboaa
open Go.RowKit
theorem i64_and63 (n : Int) : bits .and .i64 n 63 = n % 64 := by
  have h63 : (BitVec.ofInt 64 63).toNat = 2 ^ 6 - 1 := by decide
  have key : (BitVec.ofInt 64 n &&& BitVec.ofInt 64 63).toNat = (n % ((2 ^ 64 : Nat) : Int)).toNat % 2 ^ 6 := by
    rw [BitVec.toNat_and, BitVec.toNat_ofInt, h63, Nat.and_two_pow_sub_one_eq_mod]
  show IntKind.i64.wrap ((BitVec.ofInt 64 n &&& BitVec.ofInt 64 63).toNat : Nat) = n % 64
  rw [key, IntKind.wrap_i64]
  omega
theorem can_tV (q : Bool) : can (tV q) = (0, tV q) := by
  have h : (tV q).h.k = 1 := rfl
  rw [can_v, if_pos h]
  rfl
theorem dpt_tV (q : Bool) : dpt (tV q) = 1 := dpt_one (k := 1) rfl (by decide) (by decide) _ _
def twoV (s : ByteArray) : V := .mk { hd0 with k := 5 } [xV s, tV false] []
theorem ord_two (s : ByteArray) : ord (xV s) (tV false) = 1 := by
  rw [ord_eq]
  rfl
theorem uniq_two (s : ByteArray) : uniq ord [xV s, tV false] = [tV false, xV s] := by
  unfold uniq
  simp only [List.foldl_cons, List.foldl_nil, ins, ord_two]
  rfl
theorem canD_two (s : ByteArray) : canD (twoV s) = (0, .mk { hd0 with k := 5 } [tV false, xV s] []) := by
  have hd : dpt (twoV s) = 2 := by
    unfold twoV
    rw [dpt_up (.inl rfl)]
    simp [dptL, dpt_xV, dpt_tV]
  unfold canD
  rw [if_neg (by omega)]
  unfold twoV
  rw [can_set rfl (by simp) (fun x hx => by
    simp at hx
    rcases hx with rfl | rfl
    · rw [can_xV]
    · rw [can_tV])]
  have e : [xV s, tV false].map (fun x => (can x).2) = [xV s, tV false] := by simp [can_xV, can_tV]
  rw [e, uniq_two]
theorem enc_two (s : ByteArray) : (encD (twoV s)).1 = if 65536 < s.size + 12 then 12 else 0 := by
  have hl : (lay (V.mk { hd0 with k := 5 } [tV false, xV s] [])).length = s.size + 12 := by
    rw [lay_v]
    have hR : layR (V.mk { hd0 with k := 5 } [tV false, xV s] []) = be 4 2 ++ (lay (tV false) ++ (lay (xV s) ++ [])) := by
      unfold layR
      simp [V.h, V.l, V.ns, layL]
    have ht : (lay (tV false)).length = 2 := by rfl
    rw [hR]
    simp only [List.length_append, be_len, lay_xV_len, ht, List.length_nil]
    omega
  unfold encD
  rw [canD_two, if_pos rfl, hl]
  split <;> rfl
theorem r_two (w : World) (s : ByteArray) (hs : s.size ≤ 9223372036854775807) (n : Nat) (hn : n = w.heap.size) : R (w.alloc (.cells #[.int .i64 3, .bool false, .int .i64 0, .string s, .string ⟨#[]⟩, .string ⟨#[]⟩, .slice none 0 0, .slice none 0 0, .int .i64 1, .bool false, .int .i64 0, .string ⟨#[]⟩, .string ⟨#[]⟩, .string ⟨#[]⟩, .slice none 0 0, .slice none 0 0] 29)) (twoV s) (.slice (some ⟨n, 0, none⟩) 2 2) (.slice none 0 0) := by
  subst hn
  refine rep_v.2 ⟨⟨Nat.zero_le _, Nat.zero_le _, Nat.zero_le _⟩, ⟨none, 0, rfl, Nat.zero_le _, fun x hx => absurd hx (by simp [twoV, V.ns]), .inl rfl⟩, some ⟨w.heap.size, 0, none⟩, 2, rfl, ⟨Nat.le_refl 2, by decide⟩, .inr ⟨w.heap.size, 0, rfl, trivial, repF_of fun j hj => ?_⟩⟩
  have hj2 : j < 2 := hj
  obtain rfl | rfl : j = 0 ∨ j = 1 := by omega
  · refine ⟨.slice none 0 0, .slice none 0 0, fun c v hv => ?_, r_xV _ s hs⟩
    have h8 : c < 8 := (List.getElem?_eq_some_iff.1 hv).1
    rw [World.cell?_alloc_mark]
    obtain rfl | rfl | rfl | rfl | rfl | rfl | rfl | rfl : c = 0 ∨ c = 1 ∨ c = 2 ∨ c = 3 ∨ c = 4 ∨ c = 5 ∨ c = 6 ∨ c = 7 := by omega
    all_goals exact hv
  · refine ⟨.slice none 0 0, .slice none 0 0, fun c v hv => ?_, r_tV _ false⟩
    have h8 : c < 8 := (List.getElem?_eq_some_iff.1 hv).1
    rw [World.cell?_alloc_mark]
    obtain rfl | rfl | rfl | rfl | rfl | rfl | rfl | rfl : c = 0 ∨ c = 1 ∨ c = 2 ∨ c = 3 ∨ c = 4 ∨ c = 5 ∨ c = 6 ∨ c = 7 := by omega
    all_goals exact hv
theorem encTwo_c (s : ByteArray) (hs : s.size ≤ 1000000) (er : Int) (her : er = if 65536 < s.size + 12 then 12 else 0) (w : World) (n : Nat) (hn : n = w.heap.size) :
    Calls Try.prog 18 #[.agg #[.int .i64 5, .bool false, .int .i64 0, .string ⟨#[]⟩, .string ⟨#[]⟩, .string ⟨#[]⟩, .slice (some ⟨n, 0, none⟩) 2 2, .slice none 0 0]] (w.alloc (.cells #[.int .i64 3, .bool false, .int .i64 0, .string s, .string ⟨#[]⟩, .string ⟨#[]⟩, .slice none 0 0, .slice none 0 0, .int .i64 1, .bool false, .int .i64 0, .string ⟨#[]⟩, .string ⟨#[]⟩, .string ⟨#[]⟩, .slice none 0 0, .slice none 0 0] 29))
    fun e w' => ∃ ao l cap, e = .returned (.tuple #[.slice ao l cap, .int .i64 er]) ∧ Low (w.alloc (.cells #[.int .i64 3, .bool false, .int .i64 0, .string s, .string ⟨#[]⟩, .string ⟨#[]⟩, .slice none 0 0, .slice none 0 0, .int .i64 1, .bool false, .int .i64 0, .string ⟨#[]⟩, .string ⟨#[]⟩, .string ⟨#[]⟩, .slice none 0 0, .slice none 0 0] 29)) w' := by
  have h := enc_c (twoV s) _ _ _ (r_two w s (by omega) n hn) ((sm_v _).2 ⟨by show 2 ≤ 70000; decide, Nat.zero_le _, fun x hx => by
    simp [twoV, V.l] at hx
    rcases hx with rfl | rfl
    · exact sm_xV s
    · exact sm_tV false⟩) (by
    have e0 : (⟨#[]⟩ : ByteArray).size = 0 := rfl
    simp [twoV, vb, vbL, nbL, xV, tV, hd0, e0]
    omega)
  unfold EncPost at h
  rw [enc_two, ← her] at h
  exact h.mono fun e w' ⟨ao, cap, he, _, l⟩ => ⟨ao, _, cap, he, l⟩
end Go.Proofs.Ytbhlgajdoegboaa
namespace Go.Proofs.Ytbhlgajdoegboaa
open Go.RowKit
def zerS (k : Nat) : ByteArray := ⟨(List.replicate k 0).toArray⟩
theorem zerS_size (k : Nat) : (zerS k).size = k := by
  show (List.replicate k (0 : UInt8)).toArray.size = k
  simp
theorem make_run (k : Nat) (K : Int) (hK : K = (k : Int)) (hk : k ≤ 1000000) (W : World) : (Instr.makeSlice 38 (.int .i64 K) (.int .i64 K)).run Try.prog W = .ok (.slice (some ⟨W.heap.size, 0, none⟩) k k) (W.alloc (.cells (madeCells #[.int .u8 0] k) 5)) := by
  subst hK
  obtain ⟨i0, hi, hz0, hz1, hz2⟩ := info_parts u8_info
  exact run_make_row 38 5 i0 (.int .u8 0) Try.underlying38 hi hz0 hz1 rfl .i64 .i64 k (by rw [hz2]; omega) (by omega) W
theorem zer_conv (k : Nat) (W : World) (n : Nat) (hn : n = W.heap.size) : (convert 38 9 (.slice (some ⟨n, 0, none⟩) k k)).run Try.prog (W.alloc (.cells (madeCells #[.int .u8 0] k) 5)) = .ok (.string (zerS k)) (W.alloc (.cells (madeCells #[.int .u8 0] k) 5)) := by
  subst hn
  have h := run_convert_bytes_back (P := Try.prog) (W.alloc (.cells (madeCells #[.int .u8 0] k) 5)) 38 9 5 ⟨W.heap.size, 0, none⟩ k (List.replicate k 0) Try.underlying38 Try.underlying5 Try.underlying9 fun j hj => by
    rw [Addr.add_lit, Nat.zero_add]
    have hj' : j < k := by simpa using hj
    have q := (World.rowIs_made W (.int .u8 0) k 5).cell hj'
    rw [q]
    simp
  rw [List.length_replicate] at h
  exact h
theorem own_bytes {B : Nat} {w : World} {ao : Option Addr} {n cap : Nat} {l : List UInt8} (h : Own B w (.slice ao n cap) l) : BytesAt w.heap.size w l ao cap := by
  obtain ⟨ao2, cap2, e, h1, h2⟩ := h.shape
  simp only [Value.slice.injEq] at e
  obtain ⟨rfl, -, rfl⟩ := e
  refine ⟨⟨h1, h2⟩, ?_⟩
  have hlt := World.ownsRow.lt h
  have hc := fun g hg => World.ownsRow.cells h (g := g) hg
  rcases h.2 with ⟨e, hn⟩ | ⟨g, cap', cur, e, _⟩
  · exact .inl (List.eq_nil_of_length_eq_zero (by simpa using hn))
  · simp only [Value.slice.injEq] at e
    obtain ⟨rfl, -, rfl⟩ := e
    refine .inr ⟨g, 0, rfl, (hlt g rfl).2, fun j hj => ?_⟩
    have q := hc g rfl j (byV l[j]) (by rw [List.getElem?_map, List.getElem?_eq_getElem hj]; rfl)
    rw [Addr.add_lit] at q
    exact q
end Go.Proofs.Ytbhlgajdoegboaa
