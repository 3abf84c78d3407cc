/- codec.Decode of two bytes, the first one 1. No condition. Layer 4's examples: its statements' awake answers yes. No condition. CodecEncodes: any value's bytes are the document's, or it is refused. Condition: the value is no larger than 2^40. -/
import Derived.Test.YtgpdcelfnpoenaaRdB
import Derived.Test.YtgpdcelfnpoenaaPutA
import Derived.Test.YtgpdcelfnpoenaaShelE
import Derived.Test.YtgpdcelfnpoenaaFindL
namespace Go.Proofs.Ytgpdcelfnpoenaa
open Go.RowKit
def tV (q : Bool) : V := .mk { hd0 with k := 1, b := q } [] []
theorem r_tV (w : World) (q : Bool) : R w (tV q) (.slice none 0 0) (.slice none 0 0) :=
  rep_v.2 ⟨⟨Nat.zero_le _, Nat.zero_le _, Nat.zero_le _⟩, ⟨none, 0, rfl, Nat.zero_le _, fun x hx => absurd hx (by simp [tV, V.ns]), .inl rfl⟩, none, 0, rfl, ⟨Nat.le_refl _, Nat.zero_le _⟩, .inl rfl⟩
theorem enc_tV (q : Bool) : encD (tV q) = (0, [1, if q then 1 else 0]) := by cases q <;> rfl
theorem rd_new {w : World} {l : List UInt8} {ao : Option Addr} {cap : Nat} (h : BytesAt w.heap.size w l ao cap) (W : World) (hW : Low w W) : RdAt w.heap.size (W.alloc (.cells #[.slice ao l.length cap, .bool false] 55)) W.heap.size l false := by
  have hs := hW.size
  refine ⟨hs, ao, cap, by rw [World.cell?_alloc_mark]; rfl, by rw [World.cell?_alloc_mark]; rfl, ?_, ?_, h.to fun b hb => ?_⟩
  · have hb : (W.alloc (.cells #[.slice ao l.length cap, .bool false] 55)).heap[W.heap.size]? = some (.cells #[.slice ao l.length cap, .bool false] 55) := heap_alloc_new W _
    unfold World.frozen?
    rw [hb]; rfl
  · have hb : (W.alloc (.cells #[.slice ao l.length cap, .bool false] 55)).heap[W.heap.size]? = some (.cells #[.slice ao l.length cap, .bool false] 55) := heap_alloc_new W _
    unfold World.frozen?
    rw [hb]; rfl
  · rw [heap_alloc_old W _ (by omega)]; exact hW.2.2.2 b hb
theorem sm_tV (q : Bool) : Sm (tV q) := (sm_v _).2 ⟨Nat.zero_le _, Nat.zero_le _, fun x hx => absurd hx (by simp [tV, V.l])⟩
theorem encT_c (q : Bool) (W : World) : Calls Try.prog 16 #[.agg #[.int .i64 1, .bool q, .int .i64 0, .string ⟨#[]⟩, .string ⟨#[]⟩, .string ⟨#[]⟩, .slice none 0 0, .slice none 0 0]] W
    fun e w' => ∃ ao cap, e = .returned (.tuple #[.slice ao 2 cap, .int .i64 0]) ∧ Own W.heap.size w' (.slice ao 2 cap) [1, if q then 1 else 0] ∧ Low W w' := by
  have h := enc_c (tV q) W _ _ (r_tV W q) (sm_tV q) (by cases q <;> decide)
  unfold EncPost at h
  rw [enc_tV] at h
  exact h
set_option maxHeartbeats 1600000 in
set_option maxRecDepth 100000 in
theorem dec_1 (z : UInt8) (q ok : Bool) (hq : (z.toNat == 1) = q) (hok : ((⟨#[1, if q then 1 else 0]⟩ : ByteArray).toList == (⟨#[1, z]⟩ : ByteArray).toList) = ok) (w : World) (ao : Option Addr) (cap : Nat) (h : BytesAt w.heap.size w [1, z] ao cap) :
    Calls Try.prog 18 #[.slice ao 2 cap] w fun e w' => (if ok then e = .returned (.tuple #[.agg #[.int .i64 1, .bool q, .int .i64 0, .string ⟨#[]⟩, .string ⟨#[]⟩, .string ⟨#[]⟩, .slice none 0 0, .slice none 0 0], .int .i64 0]) else
      e = .returned (.tuple #[.agg #[.int .i64 0, .bool false, .int .i64 0, .string ⟨#[]⟩, .string ⟨#[]⟩, .string ⟨#[]⟩, .slice none 0 0, .slice none 0 0], .int .i64 10])) ∧ Low w w' := by
  have rn := rd_new h (w.alloc (.cells #[.int .i64 0, .bool false, .int .i64 0, .string ⟨#[]⟩, .string ⟨#[]⟩, .string ⟨#[]⟩, .slice none 0 0, .slice none 0 0] 29)) (Low.alloc (Low.refl w) _)
  rw [show (w.alloc (.cells #[.int .i64 0, .bool false, .int .i64 0, .string ⟨#[]⟩, .string ⟨#[]⟩, .string ⟨#[]⟩, .slice none 0 0, .slice none 0 0] 29)).heap.size = w.heap.size + 1 by simp, show ([1, z] : List UInt8).length = 2 from rfl] at rn
  have hv := value_1 w.heap.size (w.heap.size + 1) [1, z] false _ rn (by simp; omega) rfl
  rw [show ofB (tkB 1 (tkR 1 [1, z])) = z.toNat by simp [tkB, tkR, ofB], hq] at hv
  have HV := Lib.hid hv
  have H := Lib.hid h
  have HOK := Lib.hid hok
  clear h hq hok rn hv
  cases ok with
  | true =>
    go_enter Try.func18, Try.ntmps18
    go_wp2_with (first
      | (go_at_call 31; refine HV.out.mono ?_; rintro e w1 ⟨rfl, T1⟩; have s1 : w.heap.size + 2 ≤ w1.heap.size := (by have := T1.2.2.2.1; simp at this; omega)))
    have KA : Hid (KeptBut (w.alloc (.cells #[.int .i64 0, .bool false, .int .i64 0, .string ⟨#[]⟩, .string ⟨#[]⟩, .string ⟨#[]⟩, .slice none 0 0, .slice none 0 0] 29)) w1 (some (w.heap.size + 1))) := Lib.hid ((KeptBut.of_low (Low.alloc (Low.refl _) _)).trans T1.2)
    have LA : Hid (Low w w1) := Lib.hid ((Low.alloc (Low.refl w) _).kept KA.out fun g hg => by simp at hg; omega)
    clear T1
    have NB := Lib.hid (kept_new (rb := w.heap.size + 1) (w := w) (w' := w1) (by
      have := KA.out
      exact this) (by omega))
    go_wp2_with (first
      | (go_at_call 16; refine (encT_c q (w1.alloc (.cells #[.int .i64 1, .bool q, .int .i64 0, .string ⟨#[]⟩, .string ⟨#[]⟩, .string ⟨#[]⟩, .slice none 0 0, .slice none 0 0] 29))).mono ?_; rintro e w2 ⟨ao2, cap2, rfl, O2, L2⟩; have LB := Low.trans (Low.alloc LA.out (.cells #[.int .i64 1, .bool q, .int .i64 0, .string ⟨#[]⟩, .string ⟨#[]⟩, .string ⟨#[]⟩, .slice none 0 0, .slice none 0 0] 29)) L2; obtain ⟨⟨c0, c1, c2, c3, c4, c5, c6, c7⟩, fz⟩ := NB.out; have C0 := (Low.trans (Low.alloc (Low.refl w1) (.cells #[.int .i64 1, .bool q, .int .i64 0, .string ⟨#[]⟩, .string ⟨#[]⟩, .string ⟨#[]⟩, .slice none 0 0, .slice none 0 0] 29)) L2); have g0 := C0.keep c0; have g1 := C0.keep c1; have g2 := C0.keep c2; have g3 := C0.keep c3; have g4 := C0.keep c4; have g5 := C0.keep c5; have g6 := C0.keep c6; have g7 := C0.keep c7; have y0 := (C0.frozen (p := ⟨w.heap.size, 0, none⟩) (show w.heap.size < w1.heap.size by omega)).trans (fz 0); have y1 := (C0.frozen (p := ⟨w.heap.size, 1, none⟩) (show w.heap.size < w1.heap.size by omega)).trans (fz 1); have y2 := (C0.frozen (p := ⟨w.heap.size, 2, none⟩) (show w.heap.size < w1.heap.size by omega)).trans (fz 2); have y3 := (C0.frozen (p := ⟨w.heap.size, 3, none⟩) (show w.heap.size < w1.heap.size by omega)).trans (fz 3); have y4 := (C0.frozen (p := ⟨w.heap.size, 4, none⟩) (show w.heap.size < w1.heap.size by omega)).trans (fz 4); have y5 := (C0.frozen (p := ⟨w.heap.size, 5, none⟩) (show w.heap.size < w1.heap.size by omega)).trans (fz 5); have y6 := (C0.frozen (p := ⟨w.heap.size, 6, none⟩) (show w.heap.size < w1.heap.size by omega)).trans (fz 6); have y7 := (C0.frozen (p := ⟨w.heap.size, 7, none⟩) (show w.heap.size < w1.heap.size by omega)).trans (fz 7); clear c0 c1 c2 c3 c4 c5 c6 c7; obtain ⟨b0, b1, b2, b3, b4, b5, b6, b7⟩ := othbox (Oth.of_low L2))
      | (go_at_call 32; refine (Try.bytes_Equal_strs _ _ ⟨#[1, if q then 1 else 0]⟩ ⟨#[1, z]⟩ w2 (own_conv O2) (conv_bytes (H.out.to LB.2.2.2))).mono ?_; rintro e w3 ⟨rfl, rfl⟩; rw [HOK.out]))
    refine bodyPost_ret (v := .tuple #[.agg #[.int .i64 1, .bool q, .int .i64 0, .string ⟨#[]⟩, .string ⟨#[]⟩, .string ⟨#[]⟩, .slice none 0 0, .slice none 0 0], .int .i64 0]) (by simp [results, Try.results18, go_sem, World.cell?_setCell_same', g0, g1, g2, g3, g4, g5, g6, g7]; try rfl) rfl ?_
    have k8 := kept8 w3 w.heap.size (.int .i64 1) (.bool q) (.int .i64 0) (.string ⟨#[]⟩) (.string ⟨#[]⟩) (.string ⟨#[]⟩) (.slice none 0 0) (.slice none 0 0)
    exact ⟨rfl, LB.kept k8 fun g hg => by simp at hg; omega⟩
  | false =>
    go_enter Try.func18, Try.ntmps18
    go_wp2_with (first
      | (go_at_call 31; refine HV.out.mono ?_; rintro e w1 ⟨rfl, T1⟩; have s1 : w.heap.size + 2 ≤ w1.heap.size := (by have := T1.2.2.2.1; simp at this; omega)))
    have KA : Hid (KeptBut (w.alloc (.cells #[.int .i64 0, .bool false, .int .i64 0, .string ⟨#[]⟩, .string ⟨#[]⟩, .string ⟨#[]⟩, .slice none 0 0, .slice none 0 0] 29)) w1 (some (w.heap.size + 1))) := Lib.hid ((KeptBut.of_low (Low.alloc (Low.refl _) _)).trans T1.2)
    have LA : Hid (Low w w1) := Lib.hid ((Low.alloc (Low.refl w) _).kept KA.out fun g hg => by simp at hg; omega)
    clear T1
    have NB := Lib.hid (kept_new (rb := w.heap.size + 1) (w := w) (w' := w1) (by
      have := KA.out
      exact this) (by omega))
    go_wp2_with (first
      | (go_at_call 16; refine (encT_c q (w1.alloc (.cells #[.int .i64 1, .bool q, .int .i64 0, .string ⟨#[]⟩, .string ⟨#[]⟩, .string ⟨#[]⟩, .slice none 0 0, .slice none 0 0] 29))).mono ?_; rintro e w2 ⟨ao2, cap2, rfl, O2, L2⟩; have LB := Low.trans (Low.alloc LA.out (.cells #[.int .i64 1, .bool q, .int .i64 0, .string ⟨#[]⟩, .string ⟨#[]⟩, .string ⟨#[]⟩, .slice none 0 0, .slice none 0 0] 29)) L2; obtain ⟨⟨c0, c1, c2, c3, c4, c5, c6, c7⟩, fz⟩ := NB.out; have C0 := (Low.trans (Low.alloc (Low.refl w1) (.cells #[.int .i64 1, .bool q, .int .i64 0, .string ⟨#[]⟩, .string ⟨#[]⟩, .string ⟨#[]⟩, .slice none 0 0, .slice none 0 0] 29)) L2); have g0 := C0.keep c0; have g1 := C0.keep c1; have g2 := C0.keep c2; have g3 := C0.keep c3; have g4 := C0.keep c4; have g5 := C0.keep c5; have g6 := C0.keep c6; have g7 := C0.keep c7; have y0 := (C0.frozen (p := ⟨w.heap.size, 0, none⟩) (show w.heap.size < w1.heap.size by omega)).trans (fz 0); have y1 := (C0.frozen (p := ⟨w.heap.size, 1, none⟩) (show w.heap.size < w1.heap.size by omega)).trans (fz 1); have y2 := (C0.frozen (p := ⟨w.heap.size, 2, none⟩) (show w.heap.size < w1.heap.size by omega)).trans (fz 2); have y3 := (C0.frozen (p := ⟨w.heap.size, 3, none⟩) (show w.heap.size < w1.heap.size by omega)).trans (fz 3); have y4 := (C0.frozen (p := ⟨w.heap.size, 4, none⟩) (show w.heap.size < w1.heap.size by omega)).trans (fz 4); have y5 := (C0.frozen (p := ⟨w.heap.size, 5, none⟩) (show w.heap.size < w1.heap.size by omega)).trans (fz 5); have y6 := (C0.frozen (p := ⟨w.heap.size, 6, none⟩) (show w.heap.size < w1.heap.size by omega)).trans (fz 6); have y7 := (C0.frozen (p := ⟨w.heap.size, 7, none⟩) (show w.heap.size < w1.heap.size by omega)).trans (fz 7); clear c0 c1 c2 c3 c4 c5 c6 c7; obtain ⟨b0, b1, b2, b3, b4, b5, b6, b7⟩ := othbox (Oth.of_low L2))
      | (go_at_call 32; refine (Try.bytes_Equal_strs _ _ ⟨#[1, if q then 1 else 0]⟩ ⟨#[1, z]⟩ w2 (own_conv O2) (conv_bytes (H.out.to LB.2.2.2))).mono ?_; rintro e w3 ⟨rfl, rfl⟩; rw [HOK.out]))
    refine bodyPost_ret (v := .tuple #[.agg #[.int .i64 0, .bool false, .int .i64 0, .string ⟨#[]⟩, .string ⟨#[]⟩, .string ⟨#[]⟩, .slice none 0 0, .slice none 0 0], .int .i64 10]) (by simp [results, Try.results18, go_sem, World.cell?_setCell_same', g0, g1, g2, g3, g4, g5, g6, g7]; try rfl) rfl ?_
    have k8 := kept8 w3 w.heap.size (.int .i64 0) (.bool false) (.int .i64 0) (.string ⟨#[]⟩) (.string ⟨#[]⟩) (.string ⟨#[]⟩) (.slice none 0 0) (.slice none 0 0)
    exact ⟨rfl, LB.kept k8 fun g hg => by simp at hg; omega⟩
end Go.Proofs.Ytgpdcelfnpoenaa
namespace Go.Proofs.Ytgpdcelfnpoenaa
open Go.RowKit
theorem arr2 (w : World) (z : UInt8) (m : Int) (hm : m = z.toNat) (n : Nat) (hn : n = w.heap.size) : BytesAt (w.alloc (.cells #[.int .u8 1, .int .u8 m] 5)).heap.size (w.alloc (.cells #[.int .u8 1, .int .u8 m] 5)) [1, z] (some ⟨n, 0, none⟩) 2 := by
  subst hm
  subst hn
  refine ⟨⟨Nat.le_refl 2, by decide⟩, .inr ⟨w.heap.size, 0, rfl, by simp, fun j hj => ?_⟩⟩
  rw [World.cell?_alloc_mark]
  match j, hj with
  | 0, _ => rfl
  | 1, _ => rfl
theorem ne_12 : ((⟨#[1, if false = true then 1 else 0]⟩ : ByteArray).toList == (⟨#[1, 2]⟩ : ByteArray).toList) = false := by
  simp
def xV (s : ByteArray) : V := .mk { hd0 with k := 3, s := s } [] []
theorem r_xV (w : World) (s : ByteArray) (h : s.size ≤ 9223372036854775807) : R w (xV s) (.slice none 0 0) (.slice none 0 0) :=
  rep_v.2 ⟨⟨h, Nat.zero_le _, Nat.zero_le _⟩, ⟨none, 0, rfl, Nat.zero_le _, fun x hx => absurd hx (by simp [xV, V.ns]), .inl rfl⟩, none, 0, rfl, ⟨Nat.le_refl _, Nat.zero_le _⟩, .inl rfl⟩
theorem sm_xV (s : ByteArray) : Sm (xV s) := (sm_v _).2 ⟨Nat.zero_le _, Nat.zero_le _, fun x hx => absurd hx (by simp [xV, V.l])⟩
theorem enc_xa : encD (xV ⟨#[97]⟩) = (0, [3, 0, 0, 0, 1, 97]) := by rfl
theorem encA_c (W : World) : Calls Try.prog 16 #[.agg #[.int .i64 3, .bool false, .int .i64 0, .string ⟨#[97]⟩, .string ⟨#[]⟩, .string ⟨#[]⟩, .slice none 0 0, .slice none 0 0]] W
    fun e w' => ∃ ao cap, e = .returned (.tuple #[.slice ao 6 cap, .int .i64 0]) ∧ Own W.heap.size w' (.slice ao 6 cap) [3, 0, 0, 0, 1, 97] ∧ Low W w' := by
  have h := enc_c (xV ⟨#[97]⟩) W _ _ (r_xV W _ (by decide)) (sm_xV _) (by decide)
  unfold EncPost at h
  rw [enc_xa] at h
  exact h
set_option maxHeartbeats 1600000 in
set_option maxRecDepth 100000 in
theorem awake4_c (w : World) : Calls Try.prog 13 #[] w fun e w' => e = .returned (.bool true) ∧ Low w w' := by
  have D1 : Hid (∀ (W : World) (n : Nat), n = W.heap.size → Calls Try.prog 18 #[.slice (some ⟨n, 0, none⟩) 2 2] (W.alloc (.cells #[.int .u8 1, .int .u8 1] 5)) fun e w' =>
      e = .returned (.tuple #[.agg #[.int .i64 1, .bool true, .int .i64 0, .string ⟨#[]⟩, .string ⟨#[]⟩, .string ⟨#[]⟩, .slice none 0 0, .slice none 0 0], .int .i64 0]) ∧ Low (W.alloc (.cells #[.int .u8 1, .int .u8 1] 5)) w') :=
    Lib.hid fun W n hn => (dec_1 1 true true rfl (by simp) _ _ 2 (arr2 W 1 1 rfl n hn)).mono fun e w' ⟨he, l⟩ => ⟨by rw [if_pos rfl] at he; exact he, l⟩
  have D2 : Hid (∀ (W : World) (n : Nat), n = W.heap.size → Calls Try.prog 18 #[.slice (some ⟨n, 0, none⟩) 2 2] (W.alloc (.cells #[.int .u8 1, .int .u8 2] 5)) fun e w' =>
      e = .returned (.tuple #[.agg #[.int .i64 0, .bool false, .int .i64 0, .string ⟨#[]⟩, .string ⟨#[]⟩, .string ⟨#[]⟩, .slice none 0 0, .slice none 0 0], .int .i64 10]) ∧ Low (W.alloc (.cells #[.int .u8 1, .int .u8 2] 5)) w') :=
    Lib.hid fun W n hn => (dec_1 2 false false rfl ne_12 _ _ 2 (arr2 W 2 2 rfl n hn)).mono fun e w' ⟨he, l⟩ => ⟨by rw [if_neg (by decide)] at he; exact he, l⟩
  go_enter Try.func13, Try.ntmps13
  go_wp2_with (first
    | (go_at_call 16; refine (encA_c w).mono ?_; rintro e w1 ⟨ao, cap, rfl, O1, L1⟩)
    | ((fail_if_success (have := L2)); go_at_call 18; refine (D1.out w1 _ (by simp)).mono ?_; rintro e w2 ⟨rfl, L2⟩; have LA := (Low.alloc (Low.refl w1) _).trans L2)
    | (go_at_call 18; refine (D2.out _ _ (by simp)).mono ?_; rintro e w3 ⟨rfl, L3⟩; have LC := Low.trans (Low.alloc (Low.refl _) _) L3; have LB := Low.trans (Low.alloc LA _) LC; have C1 := Lib.hid (fun X => own_conv ((O1.low LB).alloc X)); obtain ⟨b0, b1, b2, b3, b4, b5, b6, b7⟩ := othbox (Oth.alloc (Oth.of_low LC) (.cells #[.int .i64 0, .bool false, .int .i64 0, .string ⟨#[]⟩, .string ⟨#[]⟩, .string ⟨#[]⟩, .slice none 0 0, .slice none 0 0] 29)); have c1 := C1.out (.cells #[.int .i64 0, .bool false, .int .i64 0, .string ⟨#[]⟩, .string ⟨#[]⟩, .string ⟨#[]⟩, .slice none 0 0, .slice none 0 0] 29); clear D1 D2 O1))
  go_ret
  exact ⟨rfl, Low.alloc (L1.trans LB) _⟩
end Go.Proofs.Ytgpdcelfnpoenaa
namespace Go.Proofs.Ytgpdcelfnpoenaa
open Go.RowKit
set_option maxHeartbeats 4000000 in
set_option maxRecDepth 100000 in
theorem codecEncodes_v (v : V) (w : World) (v0 v1 : Value) (hr : R w v v0 v1) (hvb : vb v ≤ 1099511627776) :
    Calls Try.prog 4 #[av v.h v0 v1] w fun e w' => e = .returned (.bool true) ∧ Low w w' := by
  obtain ⟨ai, ci, an, cn, rfl, rfl⟩ := r_slices hr
  have HR := Lib.hid hr
  have HB := Lib.hid hvb
  have FW := Lib.hid (fun W (h : Low w W) => few_c (dep v) v (fun _ => True) 0 W _ _ (Nat.le_refl _) (hr.low h) (by omega) (by omega))
  have SZ := Lib.hid (fun W (h : Low w W) => size_c (dep v) v (fun _ => True) W _ _ (Nat.le_refl _) (hr.low h))
  have L0 := Lib.hid (Low.alloc (Low.refl w) (.cells #[.int .i64 v.h.k, .bool v.h.b, .int .i64 v.h.n, .string v.h.s, .string v.h.t, .string v.h.i, .slice ai v.l.length ci, .slice an v.ns.length cn] 29))
  unfold av at FW SZ ⊢
  clear hr hvb
  go_enter Try.func4, Try.ntmps4
  go_wp2_with (first
    | (go_at_call 13; refine (awake4_c _).mono ?_; rintro e w1 ⟨rfl, L1⟩; have LA := L0.out.trans L1; obtain ⟨a0, a1, a2, a3, a4, a5, a6, a7⟩ := low_box L1))
  refine (FW.out w1 LA).mono ?_
  rintro e w2 ⟨b, rfl, hb, g⟩
  have HF := Lib.hid hb
  have L2 := g.low
  clear hb g
  obtain ⟨b0, b1, b2, b3, b4, b5, b6, b7⟩ := low_box (L1.trans L2)
  cases b with
  | false =>
    go_wp2_with fail
    go_ret
    exact ⟨rfl, LA.trans L2⟩
  | true =>
    obtain ⟨hsm, hdp⟩ := HF.out rfl
    have HS := Lib.hid hsm
    have HD := Lib.hid hdp
    clear hsm hdp a0 a1 a2 a3 a4 a5 a6 a7
    go_wp2_with fail
    refine (SZ.out w2 (LA.trans L2)).mono ?_
    rintro e w3 ⟨n, rfl, g⟩
    have L3 := g.low
    clear g
    by_cases hn : (500 : Int) < n
    all_goals obtain ⟨c0, c1, c2, c3, c4, c5, c6, c7⟩ := low_box ((L1.trans L2).trans L3)
    · go_wp2_with fail
      go_ret
      exact ⟨rfl, (LA.trans L2).trans L3⟩
    · have LW := Lib.hid ((LA.trans L2).trans L3)
      have LX := Lib.hid ((L1.trans L2).trans L3)
      have E1 := Lib.hid (fun W (h : Low w W) => enc_c v W _ _ (HR.out.low h) HS.out HB.out)
      have E2 := Lib.hid (fun W (h : Low w W) => rEnc_c v W _ _ (HR.out.low h) HS.out (by have := HD.out; omega) HB.out)
      unfold av EncPost at E1 E2
      obtain ⟨bs, hbs⟩ : ∃ bs, bs = (encD v).2 := ⟨_, rfl⟩
      obtain ⟨er, her⟩ : ∃ er, er = (encD v).1 := ⟨_, rfl⟩
      rw [← hbs, ← her] at E1 E2
      clear hbs her LA L1 L2 L3 b0 b1 b2 b3 b4 b5 b6 b7 FW SZ
      go_wp2_with (first
        | (go_at_call 16; refine (E1.out w3 LW.out).mono ?_; rintro e w4 ⟨ao, cap, rfl, O4, L4⟩; have LY := LX.out.trans L4; obtain ⟨d0, d1, d2, d3, d4, d5, d6, d7⟩ := low_box LY)
        | (go_at_call 17; refine (E2.out w4 (LW.out.trans L4)).mono ?_; rintro e w5 ⟨ao5, cap5, rfl, O5, L5⟩; have C4 := own_conv (O4.low L5); have C5 := own_conv O5))
      go_ret
      exact ⟨by simp, (LW.out.trans L4).trans L5⟩
end Go.Proofs.Ytgpdcelfnpoenaa
