/- codec.Decode of two bytes, the first one 1. No condition. Layer 4's examples: its statements' awake answers yes. No condition. CodecEncodes: any value's bytes are the document's, or it is refused. Condition: the value is no larger than 2^40. -/
import Derived.Test.YtbhlgajdoegboaaRdB
import Derived.Test.YtbhlgajdoegboaaPutA
import Derived.Test.YtbhlgajdoegboaaShelE
import Derived.Test.YtbhlgajdoegboaaFindL
namespace Go.Proofs.Ytbhlgajdoegboaa
open Go.RowKit
def tV (q : Bool) : V := .mk { hd0 with k := 1, b := q } [] []
theorem r_tV (w : World) (q : Bool) : R w (tV q) (.slice none 0 0) (.slice none 0 0) :=
  rep_v.2 ⟨⟨Nat.zero_le _, Nat.zero_le _, Nat.zero_le _⟩, ⟨none, 0, rfl, Nat.zero_le _, fun x hx => absurd hx (by simp [tV, V.ns]), .inl rfl⟩, none, 0, rfl, ⟨Nat.le_refl _, Nat.zero_le _⟩, .inl rfl⟩
theorem enc_tV (q : Bool) : encD (tV q) = (0, [1, if q then 1 else 0]) := by cases q <;> rfl
theorem rd_new {w : World} {l : List UInt8} {ao : Option Addr} {cap : Nat} (h : BytesAt w.heap.size w l ao cap) (W : World) (hW : Low w W) : RdAt w.heap.size (W.alloc (.cells #[.slice ao l.length cap, .bool false] 52)) W.heap.size l false := by
  have hs := hW.size
  refine ⟨hs, ao, cap, by rw [World.cell?_alloc_mark]; rfl, by rw [World.cell?_alloc_mark]; rfl, ?_, ?_, h.to fun b hb => ?_⟩
  · have hb : (W.alloc (.cells #[.slice ao l.length cap, .bool false] 52)).heap[W.heap.size]? = some (.cells #[.slice ao l.length cap, .bool false] 52) := heap_alloc_new W _
    unfold World.frozen?
    rw [hb]; rfl
  · have hb : (W.alloc (.cells #[.slice ao l.length cap, .bool false] 52)).heap[W.heap.size]? = some (.cells #[.slice ao l.length cap, .bool false] 52) := heap_alloc_new W _
    unfold World.frozen?
    rw [hb]; rfl
  · rw [heap_alloc_old W _ (by omega)]; exact hW.2.2.2 b hb
theorem sm_tV (q : Bool) : Sm (tV q) := (sm_v _).2 ⟨Nat.zero_le _, Nat.zero_le _, fun x hx => absurd hx (by simp [tV, V.l])⟩
theorem encT_c (q : Bool) (W : World) : Calls Try.prog 18 #[.agg #[.int .i64 1, .bool q, .int .i64 0, .string ⟨#[]⟩, .string ⟨#[]⟩, .string ⟨#[]⟩, .slice none 0 0, .slice none 0 0]] W
    fun e w' => ∃ ao cap, e = .returned (.tuple #[.slice ao 2 cap, .int .i64 0]) ∧ Own W.heap.size w' (.slice ao 2 cap) [1, if q then 1 else 0] ∧ Low W w' := by
  have h := enc_c (tV q) W _ _ (r_tV W q) (sm_tV q) (by cases q <;> decide)
  unfold EncPost at h
  rw [enc_tV] at h
  exact h
set_option maxHeartbeats 1600000 in
set_option maxRecDepth 100000 in
theorem dec_1 (z : UInt8) (q ok : Bool) (hq : (z.toNat == 1) = q) (hok : ((⟨#[1, if q then 1 else 0]⟩ : ByteArray).toList == (⟨#[1, z]⟩ : ByteArray).toList) = ok) (w : World) (ao : Option Addr) (cap : Nat) (h : BytesAt w.heap.size w [1, z] ao cap) :
    Calls Try.prog 14 #[.slice ao 2 cap] w fun e w' => (if ok then e = .returned (.tuple #[.agg #[.int .i64 1, .bool q, .int .i64 0, .string ⟨#[]⟩, .string ⟨#[]⟩, .string ⟨#[]⟩, .slice none 0 0, .slice none 0 0], .int .i64 0]) else
      e = .returned (.tuple #[.agg #[.int .i64 0, .bool false, .int .i64 0, .string ⟨#[]⟩, .string ⟨#[]⟩, .string ⟨#[]⟩, .slice none 0 0, .slice none 0 0], .int .i64 10])) ∧ Low w w' := by
  have rn := rd_new h (w.alloc (.cells #[.int .i64 0, .bool false, .int .i64 0, .string ⟨#[]⟩, .string ⟨#[]⟩, .string ⟨#[]⟩, .slice none 0 0, .slice none 0 0] 29)) (Low.alloc (Low.refl w) _)
  rw [show (w.alloc (.cells #[.int .i64 0, .bool false, .int .i64 0, .string ⟨#[]⟩, .string ⟨#[]⟩, .string ⟨#[]⟩, .slice none 0 0, .slice none 0 0] 29)).heap.size = w.heap.size + 1 by simp, show ([1, z] : List UInt8).length = 2 from rfl] at rn
  have hv := value_1 w.heap.size (w.heap.size + 1) [1, z] false _ rn (by simp; omega) rfl
  rw [show ofB (tkB 1 (tkR 1 [1, z])) = z.toNat by simp [tkB, tkR, ofB], hq] at hv
  have HV := Lib.hid hv
  have H := Lib.hid h
  have HOK := Lib.hid hok
  clear h hq hok rn hv
  cases ok with
  | true =>
    go_enter Try.func14, Try.ntmps14
    go_wp2_with (first
      | (go_at_call 27; refine HV.out.mono ?_; rintro e w1 ⟨rfl, T1⟩; have s1 : w.heap.size + 2 ≤ w1.heap.size := (by have := T1.2.2.2.1; simp at this; omega)))
    have KA : Hid (KeptBut (w.alloc (.cells #[.int .i64 0, .bool false, .int .i64 0, .string ⟨#[]⟩, .string ⟨#[]⟩, .string ⟨#[]⟩, .slice none 0 0, .slice none 0 0] 29)) w1 (some (w.heap.size + 1))) := Lib.hid ((KeptBut.of_low (Low.alloc (Low.refl _) _)).trans T1.2)
    have LA : Hid (Low w w1) := Lib.hid ((Low.alloc (Low.refl w) _).kept KA.out fun g hg => by simp at hg; omega)
    clear T1
    have NB := Lib.hid (kept_new (rb := w.heap.size + 1) (w := w) (w' := w1) (by
      have := KA.out
      exact this) (by omega))
    go_wp2_with (first
      | (go_at_call 18; refine (encT_c q (w1.alloc (.cells #[.int .i64 1, .bool q, .int .i64 0, .string ⟨#[]⟩, .string ⟨#[]⟩, .string ⟨#[]⟩, .slice none 0 0, .slice none 0 0] 29))).mono ?_; rintro e w2 ⟨ao2, cap2, rfl, O2, L2⟩; have LB := Low.trans (Low.alloc LA.out (.cells #[.int .i64 1, .bool q, .int .i64 0, .string ⟨#[]⟩, .string ⟨#[]⟩, .string ⟨#[]⟩, .slice none 0 0, .slice none 0 0] 29)) L2; obtain ⟨⟨c0, c1, c2, c3, c4, c5, c6, c7⟩, fz⟩ := NB.out; have C0 := (Low.trans (Low.alloc (Low.refl w1) (.cells #[.int .i64 1, .bool q, .int .i64 0, .string ⟨#[]⟩, .string ⟨#[]⟩, .string ⟨#[]⟩, .slice none 0 0, .slice none 0 0] 29)) L2); have g0 := C0.keep c0; have g1 := C0.keep c1; have g2 := C0.keep c2; have g3 := C0.keep c3; have g4 := C0.keep c4; have g5 := C0.keep c5; have g6 := C0.keep c6; have g7 := C0.keep c7; have y0 := (C0.frozen (p := ⟨w.heap.size, 0, none⟩) (show w.heap.size < w1.heap.size by omega)).trans (fz 0); have y1 := (C0.frozen (p := ⟨w.heap.size, 1, none⟩) (show w.heap.size < w1.heap.size by omega)).trans (fz 1); have y2 := (C0.frozen (p := ⟨w.heap.size, 2, none⟩) (show w.heap.size < w1.heap.size by omega)).trans (fz 2); have y3 := (C0.frozen (p := ⟨w.heap.size, 3, none⟩) (show w.heap.size < w1.heap.size by omega)).trans (fz 3); have y4 := (C0.frozen (p := ⟨w.heap.size, 4, none⟩) (show w.heap.size < w1.heap.size by omega)).trans (fz 4); have y5 := (C0.frozen (p := ⟨w.heap.size, 5, none⟩) (show w.heap.size < w1.heap.size by omega)).trans (fz 5); have y6 := (C0.frozen (p := ⟨w.heap.size, 6, none⟩) (show w.heap.size < w1.heap.size by omega)).trans (fz 6); have y7 := (C0.frozen (p := ⟨w.heap.size, 7, none⟩) (show w.heap.size < w1.heap.size by omega)).trans (fz 7); clear c0 c1 c2 c3 c4 c5 c6 c7; obtain ⟨b0, b1, b2, b3, b4, b5, b6, b7⟩ := othbox (Oth.of_low L2))
      | (go_at_call 28; refine (Try.bytes_Equal_strs _ _ ⟨#[1, if q then 1 else 0]⟩ ⟨#[1, z]⟩ w2 (own_conv O2) (conv_bytes (H.out.to LB.2.2.2))).mono ?_; rintro e w3 ⟨rfl, rfl⟩; rw [HOK.out]))
    refine bodyPost_ret (v := .tuple #[.agg #[.int .i64 1, .bool q, .int .i64 0, .string ⟨#[]⟩, .string ⟨#[]⟩, .string ⟨#[]⟩, .slice none 0 0, .slice none 0 0], .int .i64 0]) (by simp [results, Try.results14, go_sem, World.cell?_setCell_same', g0, g1, g2, g3, g4, g5, g6, g7]; try rfl) rfl ?_
    have k8 := kept8 w3 w.heap.size (.int .i64 1) (.bool q) (.int .i64 0) (.string ⟨#[]⟩) (.string ⟨#[]⟩) (.string ⟨#[]⟩) (.slice none 0 0) (.slice none 0 0)
    exact ⟨rfl, LB.kept k8 fun g hg => by simp at hg; omega⟩
  | false =>
    go_enter Try.func14, Try.ntmps14
    go_wp2_with (first
      | (go_at_call 27; refine HV.out.mono ?_; rintro e w1 ⟨rfl, T1⟩; have s1 : w.heap.size + 2 ≤ w1.heap.size := (by have := T1.2.2.2.1; simp at this; omega)))
    have KA : Hid (KeptBut (w.alloc (.cells #[.int .i64 0, .bool false, .int .i64 0, .string ⟨#[]⟩, .string ⟨#[]⟩, .string ⟨#[]⟩, .slice none 0 0, .slice none 0 0] 29)) w1 (some (w.heap.size + 1))) := Lib.hid ((KeptBut.of_low (Low.alloc (Low.refl _) _)).trans T1.2)
    have LA : Hid (Low w w1) := Lib.hid ((Low.alloc (Low.refl w) _).kept KA.out fun g hg => by simp at hg; omega)
    clear T1
    have NB := Lib.hid (kept_new (rb := w.heap.size + 1) (w := w) (w' := w1) (by
      have := KA.out
      exact this) (by omega))
    go_wp2_with (first
      | (go_at_call 18; refine (encT_c q (w1.alloc (.cells #[.int .i64 1, .bool q, .int .i64 0, .string ⟨#[]⟩, .string ⟨#[]⟩, .string ⟨#[]⟩, .slice none 0 0, .slice none 0 0] 29))).mono ?_; rintro e w2 ⟨ao2, cap2, rfl, O2, L2⟩; have LB := Low.trans (Low.alloc LA.out (.cells #[.int .i64 1, .bool q, .int .i64 0, .string ⟨#[]⟩, .string ⟨#[]⟩, .string ⟨#[]⟩, .slice none 0 0, .slice none 0 0] 29)) L2; obtain ⟨⟨c0, c1, c2, c3, c4, c5, c6, c7⟩, fz⟩ := NB.out; have C0 := (Low.trans (Low.alloc (Low.refl w1) (.cells #[.int .i64 1, .bool q, .int .i64 0, .string ⟨#[]⟩, .string ⟨#[]⟩, .string ⟨#[]⟩, .slice none 0 0, .slice none 0 0] 29)) L2); have g0 := C0.keep c0; have g1 := C0.keep c1; have g2 := C0.keep c2; have g3 := C0.keep c3; have g4 := C0.keep c4; have g5 := C0.keep c5; have g6 := C0.keep c6; have g7 := C0.keep c7; have y0 := (C0.frozen (p := ⟨w.heap.size, 0, none⟩) (show w.heap.size < w1.heap.size by omega)).trans (fz 0); have y1 := (C0.frozen (p := ⟨w.heap.size, 1, none⟩) (show w.heap.size < w1.heap.size by omega)).trans (fz 1); have y2 := (C0.frozen (p := ⟨w.heap.size, 2, none⟩) (show w.heap.size < w1.heap.size by omega)).trans (fz 2); have y3 := (C0.frozen (p := ⟨w.heap.size, 3, none⟩) (show w.heap.size < w1.heap.size by omega)).trans (fz 3); have y4 := (C0.frozen (p := ⟨w.heap.size, 4, none⟩) (show w.heap.size < w1.heap.size by omega)).trans (fz 4); have y5 := (C0.frozen (p := ⟨w.heap.size, 5, none⟩) (show w.heap.size < w1.heap.size by omega)).trans (fz 5); have y6 := (C0.frozen (p := ⟨w.heap.size, 6, none⟩) (show w.heap.size < w1.heap.size by omega)).trans (fz 6); have y7 := (C0.frozen (p := ⟨w.heap.size, 7, none⟩) (show w.heap.size < w1.heap.size by omega)).trans (fz 7); clear c0 c1 c2 c3 c4 c5 c6 c7; obtain ⟨b0, b1, b2, b3, b4, b5, b6, b7⟩ := othbox (Oth.of_low L2))
      | (go_at_call 28; refine (Try.bytes_Equal_strs _ _ ⟨#[1, if q then 1 else 0]⟩ ⟨#[1, z]⟩ w2 (own_conv O2) (conv_bytes (H.out.to LB.2.2.2))).mono ?_; rintro e w3 ⟨rfl, rfl⟩; rw [HOK.out]))
    refine bodyPost_ret (v := .tuple #[.agg #[.int .i64 0, .bool false, .int .i64 0, .string ⟨#[]⟩, .string ⟨#[]⟩, .string ⟨#[]⟩, .slice none 0 0, .slice none 0 0], .int .i64 10]) (by simp [results, Try.results14, go_sem, World.cell?_setCell_same', g0, g1, g2, g3, g4, g5, g6, g7]; try rfl) rfl ?_
    have k8 := kept8 w3 w.heap.size (.int .i64 0) (.bool false) (.int .i64 0) (.string ⟨#[]⟩) (.string ⟨#[]⟩) (.string ⟨#[]⟩) (.slice none 0 0) (.slice none 0 0)
    exact ⟨rfl, LB.kept k8 fun g hg => by simp at hg; omega⟩
end Go.Proofs.Ytbhlgajdoegboaa
namespace Go.Proofs.Ytbhlgajdoegboaa
open Go.RowKit
theorem arr2 (w : World) (z : UInt8) (m : Int) (hm : m = z.toNat) (n : Nat) (hn : n = w.heap.size) : BytesAt (w.alloc (.cells #[.int .u8 1, .int .u8 m] 5)).heap.size (w.alloc (.cells #[.int .u8 1, .int .u8 m] 5)) [1, z] (some ⟨n, 0, none⟩) 2 := by
  subst hm
  subst hn
  refine ⟨⟨Nat.le_refl 2, by decide⟩, .inr ⟨w.heap.size, 0, rfl, by simp, fun j hj => ?_⟩⟩
  rw [World.cell?_alloc_mark]
  match j, hj with
  | 0, _ => rfl
  | 1, _ => rfl
theorem ne_12 : ((⟨#[1, if false = true then 1 else 0]⟩ : ByteArray).toList == (⟨#[1, 2]⟩ : ByteArray).toList) = false := by
  simp
def xV (s : ByteArray) : V := .mk { hd0 with k := 3, s := s } [] []
theorem r_xV (w : World) (s : ByteArray) (h : s.size ≤ 9223372036854775807) : R w (xV s) (.slice none 0 0) (.slice none 0 0) :=
  rep_v.2 ⟨⟨h, Nat.zero_le _, Nat.zero_le _⟩, ⟨none, 0, rfl, Nat.zero_le _, fun x hx => absurd hx (by simp [xV, V.ns]), .inl rfl⟩, none, 0, rfl, ⟨Nat.le_refl _, Nat.zero_le _⟩, .inl rfl⟩
theorem sm_xV (s : ByteArray) : Sm (xV s) := (sm_v _).2 ⟨Nat.zero_le _, Nat.zero_le _, fun x hx => absurd hx (by simp [xV, V.l])⟩
theorem enc_xa : encD (xV ⟨#[97]⟩) = (0, [3, 0, 0, 0, 1, 97]) := by rfl
theorem encA_c (W : World) : Calls Try.prog 18 #[.agg #[.int .i64 3, .bool false, .int .i64 0, .string ⟨#[97]⟩, .string ⟨#[]⟩, .string ⟨#[]⟩, .slice none 0 0, .slice none 0 0]] W
    fun e w' => ∃ ao cap, e = .returned (.tuple #[.slice ao 6 cap, .int .i64 0]) ∧ Own W.heap.size w' (.slice ao 6 cap) [3, 0, 0, 0, 1, 97] ∧ Low W w' := by
  have h := enc_c (xV ⟨#[97]⟩) W _ _ (r_xV W _ (by decide)) (sm_xV _) (by decide)
  unfold EncPost at h
  rw [enc_xa] at h
  exact h
set_option maxHeartbeats 1600000 in
set_option maxRecDepth 100000 in
theorem awake4_c (w : World) : Calls Try.prog 11 #[] w fun e w' => e = .returned (.bool true) ∧ Low w w' := by
  have D1 : Hid (∀ (W : World) (n : Nat), n = W.heap.size → Calls Try.prog 14 #[.slice (some ⟨n, 0, none⟩) 2 2] (W.alloc (.cells #[.int .u8 1, .int .u8 1] 5)) fun e w' =>
      e = .returned (.tuple #[.agg #[.int .i64 1, .bool true, .int .i64 0, .string ⟨#[]⟩, .string ⟨#[]⟩, .string ⟨#[]⟩, .slice none 0 0, .slice none 0 0], .int .i64 0]) ∧ Low (W.alloc (.cells #[.int .u8 1, .int .u8 1] 5)) w') :=
    Lib.hid fun W n hn => (dec_1 1 true true rfl (by simp) _ _ 2 (arr2 W 1 1 rfl n hn)).mono fun e w' ⟨he, l⟩ => ⟨by rw [if_pos rfl] at he; exact he, l⟩
  have D2 : Hid (∀ (W : World) (n : Nat), n = W.heap.size → Calls Try.prog 14 #[.slice (some ⟨n, 0, none⟩) 2 2] (W.alloc (.cells #[.int .u8 1, .int .u8 2] 5)) fun e w' =>
      e = .returned (.tuple #[.agg #[.int .i64 0, .bool false, .int .i64 0, .string ⟨#[]⟩, .string ⟨#[]⟩, .string ⟨#[]⟩, .slice none 0 0, .slice none 0 0], .int .i64 10]) ∧ Low (W.alloc (.cells #[.int .u8 1, .int .u8 2] 5)) w') :=
    Lib.hid fun W n hn => (dec_1 2 false false rfl ne_12 _ _ 2 (arr2 W 2 2 rfl n hn)).mono fun e w' ⟨he, l⟩ => ⟨by rw [if_neg (by decide)] at he; exact he, l⟩
  go_enter Try.func11, Try.ntmps11
  go_wp2_with (first
    | (go_at_call 18; refine (encA_c w).mono ?_; rintro e w1 ⟨ao, cap, rfl, O1, L1⟩)
    | ((fail_if_success (have := L2)); go_at_call 14; refine (D1.out w1 _ (by simp)).mono ?_; rintro e w2 ⟨rfl, L2⟩; have LA := (Low.alloc (Low.refl w1) _).trans L2)
    | (go_at_call 14; refine (D2.out _ _ (by simp)).mono ?_; rintro e w3 ⟨rfl, L3⟩; have LC := Low.trans (Low.alloc (Low.refl _) _) L3; have LB := Low.trans (Low.alloc LA _) LC; have C1 := Lib.hid (fun X => own_conv ((O1.low LB).alloc X)); obtain ⟨b0, b1, b2, b3, b4, b5, b6, b7⟩ := othbox (Oth.alloc (Oth.of_low LC) (.cells #[.int .i64 0, .bool false, .int .i64 0, .string ⟨#[]⟩, .string ⟨#[]⟩, .string ⟨#[]⟩, .slice none 0 0, .slice none 0 0] 29)); have c1 := C1.out (.cells #[.int .i64 0, .bool false, .int .i64 0, .string ⟨#[]⟩, .string ⟨#[]⟩, .string ⟨#[]⟩, .slice none 0 0, .slice none 0 0] 29); clear D1 D2 O1))
  go_ret
  exact ⟨rfl, Low.alloc (L1.trans LB) _⟩
end Go.Proofs.Ytbhlgajdoegboaa
namespace Go.Proofs.Ytbhlgajdoegboaa
open Go.RowKit
end Go.Proofs.Ytbhlgajdoegboaa
