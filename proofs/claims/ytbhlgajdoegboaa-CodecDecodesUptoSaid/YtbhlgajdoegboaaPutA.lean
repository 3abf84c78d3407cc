/- The reference's bytes: of a length, of a text. Condition: the row of bytes is no longer than 2^46. The reference's bytes of a value. Condition: the bytes are no more than 2^46. Encode, the program's and the reference's. Condition: the rows are no longer than 70000, the value is no larger than 2^40. -/
import Derived.Test.YtbhlgajdoegboaaLayA
import Derived.Test.YtbhlgajdoegboaaLayQ
import Derived.Test.YtbhlgajdoegboaaRCanon
namespace Go.Proofs.Ytbhlgajdoegboaa
open Go.RowKit
theorem be4_at (n : Nat) (m : Int) (hm : m = n) : #[Value.int .u8 (m / 16777216 % 256), .int .u8 (m / 65536 % 256), .int .u8 (m / 256 % 256), .int .u8 (m % 256)] = ((be 4 n).map byV).toArray := by
  subst hm
  simp only [be, List.map_cons, List.map_nil, byV]
  simp
set_option maxHeartbeats 1600000 in
set_option maxRecDepth 100000 in
theorem rlen_c (n : Nat) (m : Int) (hm : m = (n : Int)) (h0 : 0 ≤ m) (h1 : m ≤ 9223372036854775807) (B : Nat) (v : Value) (l : List UInt8) (w : World) (O : Own B w v l) (hl : l.length ≤ 70368744177664) (hB : B ≤ w.heap.size) :
    Calls Try.prog 53 #[v, .int .i64 m] w (App B w (l ++ be 4 n)) := by
  have HO := Lib.hid O
  have HM := Lib.hid hm
  clear O hm
  go_enter Try.func53, Try.ntmps53
  go_wp2_with (first
    | (at_builtin; refine own_app2 rfl _ _ _ rfl Try.underlying38 B _ _ (be 4 n) rfl (HO.out.alloc _) ⟨w.heap.size, 0, none⟩ 4 _ rfl rfl (cells_new _ (be 4 n) _ _ (be4_at n m HM.out)) (by omega) (by simp; omega) ?_; intro v2 w2 h2 b2 t2))
  go_ret
  exact ⟨v2, rfl, h2, ((Below.refl B w).alloc hB _).trans b2, ((Oth.refl w).alloc _).trans t2⟩
set_option maxHeartbeats 1600000 in
theorem rtext_c (s : ByteArray) (B : Nat) (v : Value) (l : List UInt8) (w : World) (O : Own B w v l) (hl : (l ++ layT s).length ≤ 70368744177664) (hB : B ≤ w.heap.size) :
    Calls Try.prog 52 #[v, .string s] w (App B w (l ++ layT s)) := by
  have HO := Lib.hid O
  rw [List.length_append, layT_len] at hl
  obtain ⟨m, hm⟩ : ∃ m : Int, m = (s.size : Int) := ⟨_, rfl⟩
  have HM := Lib.hid hm
  have hm0 : 0 ≤ m := by omega
  have hm1 : m ≤ 70368744177664 := by omega
  clear O
  go_enter Try.func52, Try.ntmps52
  go_wp2_with (first
    | (go_at_call 53; rw [← HM.out]; refine (rlen_c s.size m HM.out hm0 (by omega) B _ l _ HO.out (by omega) hB).mono ?_; rintro e w1 ⟨v1, rfl, O1, B1, T1⟩; have s1 := B1.size; have hl1 : (l ++ be 4 s.size).length + s.size ≤ 70368744177664 := by rw [List.length_append, be_len]; omega)
    | (at_builtin; refine own_str rfl _ _ _ _ rfl Try.underlying38 Try.underlying9 B _ _ rfl O1 s rfl (by omega) (by omega) ?_; intro v2 w2 O2 B2 T2))
  go_ret
  exact ⟨v2, rfl, by rw [layT, ← List.append_assoc]; exact O2, B1.trans B2, T1.trans T2⟩
theorem top_byte (k i : Nat) (hi : i < 8) (X : Int) (hX : X = ((k * 256 ^ i % 18446744073709551616 : Nat) : Int)) : Value.int .u8 (X / 72057594037927936 % 256) = byV (UInt8.ofNat (k / 256 ^ (7 - i))) := by
  have h : k * 256 ^ i % 18446744073709551616 / 72057594037927936 % 256 = k / 256 ^ (7 - i) % 256 := by
    obtain rfl | rfl | rfl | rfl | rfl | rfl | rfl | rfl : i = 0 ∨ i = 1 ∨ i = 2 ∨ i = 3 ∨ i = 4 ∨ i = 5 ∨ i = 6 ∨ i = 7 := by omega
    all_goals simp only [Nat.reducePow, Nat.reduceSub]; omega
  subst hX
  unfold byV
  simp only [UInt8.toNat_ofNat']
  rw [← h]
  simp
theorem next_x (k i : Nat) : k * 256 ^ i % 18446744073709551616 * 256 % 18446744073709551616 = k * 256 ^ (i + 1) % 18446744073709551616 := by
  rw [Nat.pow_succ, ← Nat.mul_assoc]
  generalize k * 256 ^ i = a
  omega
end Go.Proofs.Ytbhlgajdoegboaa
namespace Go.Proofs.Ytbhlgajdoegboaa
open Go.RowKit
def PutC (f : Nat) (v : V) : Prop := ∀ (B : Nat) (bv : Value) (l : List UInt8) (w : World) (it nm : Value), Own B w bv l → Rep (fun b => b < B) w v it nm → B ≤ w.heap.size → Cn v → (l ++ lay v).length ≤ 70368744177664 →
  Calls Try.prog f #[bv, av v.h it nm] w (App B w (l ++ lay v))
theorem cells_newN (w : World) (l : List UInt8) (C : Array Value) (t : TypeId) (n : Nat) (hn : n = w.heap.size) (hC : C = (l.map byV).toArray) :
    ∀ j (hj : j < l.length), (w.alloc (.cells C t)).cell? ((⟨n, 0, none⟩ : Addr).add j) = some (byV l[j]) := by subst hn; exact cells_new w l C t hC
theorem back_oth {B : Nat} {w w0 w' : World} {L M : List UInt8} {v' : Value} (o : Obj) (hw : w0 = w.alloc o) (O : Own B w' v' M) (h : M = L) (b : Below B w w') (t : Oth w0 w') : App B w L (.returned v') w' := by
  subst h
  exact ⟨v', rfl, O, b, fun b c t' h1 h2 => t b c t' (by rw [hw]; exact (heap_alloc_old w _ (lt_of_heap h1)).trans h1) h2⟩
set_option maxHeartbeats 8000000 in
set_option maxRecDepth 100000 in
theorem put_n (n : Nat) : ∀ v : V, dep v ≤ n → PutC 30 v := by
  induction n with
  | zero => intro v h; rw [dep_v] at h; omega
  | succ n ih =>
    intro v hd B bv l w it nm O hr hB hc hlen
    rw [lay_v] at hlen ⊢
    obtain ⟨-, ⟨an, cn, rfl, hln, -, hnx⟩, ai, ci, rfl, ⟨hli, hci⟩, hx⟩ := rep_v.1 hr
    have HO := Lib.hid O
    have HR := Lib.hid hr
    have hl0 : l.length + 1 ≤ 70368744177664 := by simp only [List.length_append, be_len] at hlen; omega
    rcases cn_v.1 hc with ⟨e, el, en⟩ | ⟨e, el, en⟩ | ⟨e, el, en⟩ | ⟨e, el, en⟩ | ⟨e, en, hci'⟩ | ⟨e, en, hci'⟩
    · obtain ⟨x, hx0⟩ : ∃ x, x = v.h.b := ⟨_, rfl⟩
      rw [← hx0] at e
      have hR : layR v = be 1 (if x then 1 else 0) := by
        unfold layR
        rw [e]
        simp
      rw [hR, e] at hlen ⊢
      obtain ⟨L, hL⟩ : ∃ L, L = l ++ (be 1 1 ++ (be 1 (if x then 1 else 0))) := ⟨_, rfl⟩
      show Calls _ _ #[bv, .agg #[.int .i64 1, .bool x, .int .i64 0, .string ⟨#[]⟩, .string ⟨#[]⟩, .string ⟨#[]⟩, _, _]] _ (App B w (l ++ (be 1 1 ++ (be 1 (if x then 1 else 0)))))
      rw [← hL]
      have HL := Lib.hid hL
      have B0 := Lib.hid ((Below.refl B w).alloc hB (.cells #[.int .i64 1, .bool x, .int .i64 0, .string ⟨#[]⟩, .string ⟨#[]⟩, .string ⟨#[]⟩, .slice ai v.l.length ci, .slice an v.ns.length cn] 29))
      have O0 := Lib.hid (HO.out.alloc (.cells #[.int .i64 1, .bool x, .int .i64 0, .string ⟨#[]⟩, .string ⟨#[]⟩, .string ⟨#[]⟩, .slice ai v.l.length ci, .slice an v.ns.length cn] 29))
      simp only [List.length_append, be_len] at hlen
      clear hx
      cases x with
      | false =>
        clear hR e hr hc O hlen hnx hx0 el en hL
        go_enter Try.func30, Try.ntmps30
        go_wp2_with (first
          | ((fail_if_success (have := O1)); at_builtin; refine own_app2 rfl _ _ _ rfl Try.underlying38 B _ _ (be 1 1) rfl (O0.out.alloc _) ⟨w.heap.size + 1, 0, none⟩ 1 _ rfl rfl (cells_newN _ (be 1 1) _ _ (w.heap.size + 1) (by simp) rfl) (by omega) (by simp; omega) ?_; intro v1 w1 O1 b1 t1; have B1 := (B0.out.alloc (by simp; omega) _).trans b1; have T1 := ((Oth.refl _).alloc _).trans t1; obtain ⟨c0, c1, c2, c3, c4, c5, c6, c7⟩ := othbox T1; have s1 := B1.size)
          | (at_builtin; refine own_app2 rfl _ _ _ rfl Try.underlying38 B _ _ [0] rfl (O1.alloc _) ⟨w1.heap.size, 0, none⟩ 1 _ rfl rfl (cells_new _ [0] _ _ rfl) (by rw [List.length_append, be_len]; omega) (by simp; omega) ?_; intro v2 w2 O2 b2 t2))
        go_ret
        exact back_oth _ rfl O2 (by rw [HL.out, List.append_assoc]; rfl) ((B1.alloc (by omega) _).trans b2) ((T1.alloc _).trans t2)
      | true =>
        clear hR e hr hc O hlen hnx hx0 el en hL
        go_enter Try.func30, Try.ntmps30
        go_wp2_with (first
          | ((fail_if_success (have := O1)); at_builtin; refine own_app2 rfl _ _ _ rfl Try.underlying38 B _ _ (be 1 1) rfl (O0.out.alloc _) ⟨w.heap.size + 1, 0, none⟩ 1 _ rfl rfl (cells_newN _ (be 1 1) _ _ (w.heap.size + 1) (by simp) rfl) (by omega) (by simp; omega) ?_; intro v1 w1 O1 b1 t1; have B1 := (B0.out.alloc (by simp; omega) _).trans b1; have T1 := ((Oth.refl _).alloc _).trans t1; obtain ⟨c0, c1, c2, c3, c4, c5, c6, c7⟩ := othbox T1; have s1 := B1.size)
          | (at_builtin; refine own_app2 rfl _ _ _ rfl Try.underlying38 B _ _ [1] rfl (O1.alloc _) ⟨w1.heap.size, 0, none⟩ 1 _ rfl rfl (cells_new _ [1] _ _ rfl) (by rw [List.length_append, be_len]; omega) (by simp; omega) ?_; intro v2 w2 O2 b2 t2))
        go_ret
        exact back_oth _ rfl O2 (by rw [HL.out, List.append_assoc]; rfl) ((B1.alloc (by omega) _).trans b2) ((T1.alloc _).trans t2)
    · obtain ⟨x, hx0⟩ : ∃ x, x = v.h.n := ⟨_, rfl⟩
      rw [← hx0] at e
      have hR : layR v = be 8 (x % 18446744073709551616).toNat := by
        unfold layR
        rw [e]
        simp
      rw [hR, e] at hlen ⊢
      obtain ⟨L, hL⟩ : ∃ L, L = l ++ (be 1 2 ++ (be 8 (x % 18446744073709551616).toNat)) := ⟨_, rfl⟩
      show Calls _ _ #[bv, .agg #[.int .i64 2, .bool false, .int .i64 x, .string ⟨#[]⟩, .string ⟨#[]⟩, .string ⟨#[]⟩, _, _]] _ (App B w (l ++ (be 1 2 ++ (be 8 (x % 18446744073709551616).toNat))))
      rw [← hL]
      have HL := Lib.hid hL
      have B0 := Lib.hid ((Below.refl B w).alloc hB (.cells #[.int .i64 2, .bool false, .int .i64 x, .string ⟨#[]⟩, .string ⟨#[]⟩, .string ⟨#[]⟩, .slice ai v.l.length ci, .slice an v.ns.length cn] 29))
      have O0 := Lib.hid (HO.out.alloc (.cells #[.int .i64 2, .bool false, .int .i64 x, .string ⟨#[]⟩, .string ⟨#[]⟩, .string ⟨#[]⟩, .slice ai v.l.length ci, .slice an v.ns.length cn] 29))
      simp only [List.length_append, be_len] at hlen
      obtain ⟨k, hk⟩ : ∃ k : Nat, k = (x % 18446744073709551616).toNat := ⟨_, rfl⟩
      have HW := Lib.hid (show IntKind.u64.wrap x = ((k * 256 ^ 0 % 18446744073709551616 : Nat) : Int) by rw [IntKind.wrap_u64, hk]; omega)
      rw [← hk] at HL
      have hbe : (be 8 k).length = 8 := be_len 8 k
      clear hR e hr hc O hlen hnx hx el en hL hx0 hk
      go_enter Try.func30, Try.ntmps30
      go_wp2_with (first
        | ((fail_if_success (have := O1)); at_builtin; refine own_app2 rfl _ _ _ rfl Try.underlying38 B _ _ (be 1 2) rfl (O0.out.alloc _) ⟨w.heap.size + 1, 0, none⟩ 1 _ rfl rfl (cells_newN _ (be 1 2) _ _ (w.heap.size + 1) (by simp) rfl) (by omega) (by simp; omega) ?_; intro v1 w1 O1 b1 t1; have B1 := (B0.out.alloc (by simp; omega) _).trans b1; have T1 := ((Oth.refl _).alloc _).trans t1; obtain ⟨c0, c1, c2, c3, c4, c5, c6, c7⟩ := othbox T1; have s1 := B1.size))
      rw [HW.out]
      obtain ⟨X0, hX0⟩ : ∃ X : Int, X = ((k * 256 ^ 0 % 18446744073709551616 : Nat) : Int) := ⟨_, rfl⟩
      rw [← hX0]
      have HX0 := Lib.hid hX0
      have OA := Lib.hid O1
      have BA := Lib.hid B1
      have TA := Lib.hid T1
      clear O1 B1 T1 b1 t1 c0 c1 c2 c3 c4 c5 c6 c7 hX0
      go_loopg [0, 5, 6] 8 (fun gk vs vx vi wr => ∃ (bv : Value) (X : Int) (i : Nat), bv = vs ∧ vx = .int .u64 X ∧ vi = .int .i64 (i : Int) ∧ i ≤ 8 ∧ 8 - i ≤ gk ∧ Hid (X = ((k * 256 ^ i % 18446744073709551616 : Nat) : Int)) ∧ Hid (Own B wr bv (l ++ be 1 2 ++ (be 8 k).take i)) ∧ Hid (Below B w wr) ∧ Hid (Oth (w.alloc (.cells #[.int .i64 2, .bool false, .int .i64 x, .string ⟨#[]⟩, .string ⟨#[]⟩, .string ⟨#[]⟩, .slice ai v.l.length ci, .slice an v.ns.length cn] 29)) wr))
      case atStart => exact ⟨_, X0, 0, rfl, rfl, rfl, by omega, by omega, HX0, Lib.hid (by rw [List.take_zero, List.append_nil]; exact OA.out), BA, TA⟩
      case round =>
        obtain ⟨bv2, X, i, rfl, rfl, rfl, hi, hg, HX, O, BL, OT⟩ := hrel
        clear OA BA TA
        by_cases hlt : i < 8
        · have z1 : (i : Int) < 8 := by omega
          have hwr : B ≤ wr.heap.size := Nat.le_trans hB BL.out.size
          have hbl : ((be 8 k).take i).length ≤ 8 := by rw [List.length_take]; omega
          have hnx : IntKind.u64.wrap (X * 256) = ((k * 256 ^ (i + 1) % 18446744073709551616 : Nat) : Int) := by
            rw [IntKind.wrap_u64, HX.out, ← next_x]
            omega
          have HNX := Lib.hid hnx
          clear hnx
          go_wp2_with (first
            | (at_builtin; refine own_app2 rfl _ _ _ rfl Try.underlying38 B _ _ [UInt8.ofNat (k / 256 ^ (7 - i))] rfl (O.out.alloc _) ⟨wr.heap.size, 0, none⟩ 1 _ rfl rfl (cells_new _ [UInt8.ofNat (k / 256 ^ (7 - i))] _ _ (one_byte (top_byte k i hlt X HX.out))) (by rw [List.length_append, List.length_append, be_len]; omega) (by simp; omega) ?_; intro v2 w2 O2 b2 t2))
          rw [HNX.out]
          obtain ⟨X1, hX1⟩ : ∃ X : Int, X = ((k * 256 ^ (i + 1) % 18446744073709551616 : Nat) : Int) := ⟨_, rfl⟩
          rw [← hX1]
          have HX1 := Lib.hid hX1
          have O4 := Lib.hid O2
          have B4 := Lib.hid ((BL.out.alloc hwr _).trans b2)
          have T4 := Lib.hid ((OT.out.alloc _).trans t2)
          clear O2 b2 t2 hX1
          go_roundg (8 - (i + 1))
          case measure => omega
          case rel => exact ⟨v2, X1, i + 1, rfl, rfl, by go_num, by omega, by omega, HX1, Lib.hid (by rw [be_take hlt, ← List.append_assoc]; exact O4.out), B4, T4⟩
        · have z1 : ¬ (i : Int) < 8 := by omega
          have e8 : (be 8 k).take i = be 8 k := List.take_of_length_le (by omega)
          rw [e8] at O
          go_wp2_with fail
          go_ret
          exact back_oth _ rfl O.out (by rw [HL.out, List.append_assoc]) BL.out OT.out
    · obtain ⟨x, hx0⟩ : ∃ x, x = v.h.s := ⟨_, rfl⟩
      rw [← hx0] at e
      have hR : layR v = layT x := by
        unfold layR
        rw [e]
        simp
      rw [hR, e] at hlen ⊢
      obtain ⟨L, hL⟩ : ∃ L, L = l ++ (be 1 3 ++ (layT x)) := ⟨_, rfl⟩
      show Calls _ _ #[bv, .agg #[.int .i64 3, .bool false, .int .i64 0, .string x, .string ⟨#[]⟩, .string ⟨#[]⟩, _, _]] _ (App B w (l ++ (be 1 3 ++ (layT x))))
      rw [← hL]
      have HL := Lib.hid hL
      have B0 := Lib.hid ((Below.refl B w).alloc hB (.cells #[.int .i64 3, .bool false, .int .i64 0, .string x, .string ⟨#[]⟩, .string ⟨#[]⟩, .slice ai v.l.length ci, .slice an v.ns.length cn] 29))
      have O0 := Lib.hid (HO.out.alloc (.cells #[.int .i64 3, .bool false, .int .i64 0, .string x, .string ⟨#[]⟩, .string ⟨#[]⟩, .slice ai v.l.length ci, .slice an v.ns.length cn] 29))
      simp only [List.length_append, be_len, layT_len] at hlen
      have N3 := Lib.hid (fun W bw (h : Own B W bw (l ++ be 1 3)) (hb : B ≤ W.heap.size) => rtext_c x B bw (l ++ be 1 3) W h (by rw [List.length_append, List.length_append, be_len, layT_len]; omega) hb)
      clear hR e hr hc O hlen hnx hx el en hL hx0
      go_enter Try.func30, Try.ntmps30
      go_wp2_with (first
        | ((fail_if_success (have := O1)); at_builtin; refine own_app2 rfl _ _ _ rfl Try.underlying38 B _ _ (be 1 3) rfl (O0.out.alloc _) ⟨w.heap.size + 1, 0, none⟩ 1 _ rfl rfl (cells_newN _ (be 1 3) _ _ (w.heap.size + 1) (by simp) rfl) (by omega) (by simp; omega) ?_; intro v1 w1 O1 b1 t1; have B1 := (B0.out.alloc (by simp; omega) _).trans b1; have T1 := ((Oth.refl _).alloc _).trans t1; obtain ⟨c0, c1, c2, c3, c4, c5, c6, c7⟩ := othbox T1; have s1 := B1.size)
        | (go_at_call 52; refine (N3.out _ _ O1 (Nat.le_trans hB s1)).mono ?_; rintro e w2 ⟨v2, rfl, O2, B2, T2⟩))
      go_ret
      exact back_oth _ rfl O2 (by rw [HL.out, List.append_assoc]) (B1.trans B2) (T1.trans T2)
    · obtain ⟨x, hx0⟩ : ∃ x, x = v.h.t := ⟨_, rfl⟩
      obtain ⟨y, hy⟩ : ∃ y, y = v.h.i := ⟨_, rfl⟩
      rw [← hx0, ← hy] at e
      have hR : layR v = layT x ++ layT y := by
        unfold layR
        rw [e]
        simp
      rw [hR, e] at hlen ⊢
      obtain ⟨L, hL⟩ : ∃ L, L = l ++ (be 1 4 ++ (layT x ++ layT y)) := ⟨_, rfl⟩
      show Calls _ _ #[bv, .agg #[.int .i64 4, .bool false, .int .i64 0, .string ⟨#[]⟩, .string x, .string y, _, _]] _ (App B w (l ++ (be 1 4 ++ (layT x ++ layT y))))
      rw [← hL]
      have HL := Lib.hid hL
      have B0 := Lib.hid ((Below.refl B w).alloc hB (.cells #[.int .i64 4, .bool false, .int .i64 0, .string ⟨#[]⟩, .string x, .string y, .slice ai v.l.length ci, .slice an v.ns.length cn] 29))
      have O0 := Lib.hid (HO.out.alloc (.cells #[.int .i64 4, .bool false, .int .i64 0, .string ⟨#[]⟩, .string x, .string y, .slice ai v.l.length ci, .slice an v.ns.length cn] 29))
      simp only [List.length_append, be_len, layT_len] at hlen
      have N3 := Lib.hid (fun W bw (h : Own B W bw (l ++ be 1 4)) (hb : B ≤ W.heap.size) => rtext_c x B bw (l ++ be 1 4) W h (by rw [List.length_append, List.length_append, be_len, layT_len]; omega) hb)
      have N4 := Lib.hid (fun W bw (h : Own B W bw (l ++ be 1 4 ++ layT x)) (hb : B ≤ W.heap.size) => rtext_c y B bw (l ++ be 1 4 ++ layT x) W h (by rw [List.length_append, List.length_append, List.length_append, be_len, layT_len, layT_len]; omega) hb)
      clear hR e hr hc O hlen hnx hx el en hL hx0 hy
      go_enter Try.func30, Try.ntmps30
      go_wp2_with (first
        | ((fail_if_success (have := O1)); at_builtin; refine own_app2 rfl _ _ _ rfl Try.underlying38 B _ _ (be 1 4) rfl (O0.out.alloc _) ⟨w.heap.size + 1, 0, none⟩ 1 _ rfl rfl (cells_newN _ (be 1 4) _ _ (w.heap.size + 1) (by simp) rfl) (by omega) (by simp; omega) ?_; intro v1 w1 O1 b1 t1; have B1 := (B0.out.alloc (by simp; omega) _).trans b1; have T1 := ((Oth.refl _).alloc _).trans t1; obtain ⟨c0, c1, c2, c3, c4, c5, c6, c7⟩ := othbox T1; have s1 := B1.size))
      have H3 := Lib.hid (N3.out w1.drew v1 O1.drew (Nat.le_trans hB s1))
      go_region_law (first
        | (go_simp; go_at_call 52; (with_reducible refine H3.out.mono ?_); rintro e w2 ⟨v2, rfl, O2, B2, T2⟩; obtain ⟨d0, d1, d2, d3, d4, d5, d6, d7⟩ := othbox (T1.trans T2); have s2 := Nat.le_trans s1 B2.size; have H4 := Lib.hid (N4.out w2 v2 O2 (Nat.le_trans hB s2)))
        | (go_simp; go_at_call 52; (with_reducible refine H4.out.mono ?_); rintro e w3 ⟨v3, rfl, O3, B3, T3⟩))
      all_goals
        go_wp2_with fail
        go_ret
        exact back_oth _ rfl O3 (by rw [HL.out]; simp only [List.append_assoc]) (((B1.drew).trans B2).trans B3) ((T1.trans T2).trans T3)
    · have hR : layR v = be 4 v.l.length ++ layL false v.l v.ns := by
        unfold layR
        rw [e]
        simp
      rw [hR, e] at hlen ⊢
      obtain ⟨L, hL⟩ : ∃ L, L = l ++ (be 1 5 ++ (be 4 v.l.length ++ layL false v.l v.ns)) := ⟨_, rfl⟩
      show Calls _ _ #[bv, .agg #[.int .i64 5, .bool false, .int .i64 0, .string ⟨#[]⟩, .string ⟨#[]⟩, .string ⟨#[]⟩, _, _]] _ (App B w (l ++ (be 1 5 ++ (be 4 v.l.length ++ layL false v.l v.ns))))
      rw [← hL]
      have HL := Lib.hid hL
      have B0 := Lib.hid ((Below.refl B w).alloc hB (.cells #[.int .i64 5, .bool false, .int .i64 0, .string ⟨#[]⟩, .string ⟨#[]⟩, .string ⟨#[]⟩, .slice ai v.l.length ci, .slice an v.ns.length cn] 29))
      have O0 := Lib.hid (HO.out.alloc (.cells #[.int .i64 5, .bool false, .int .i64 0, .string ⟨#[]⟩, .string ⟨#[]⟩, .string ⟨#[]⟩, .slice ai v.l.length ci, .slice an v.ns.length cn] 29))
      simp only [List.length_append, be_len] at hlen
      have HX := Lib.hid hx
      have HN := Lib.hid hnx
      have HI := Lib.hid (fun x (hx : x ∈ v.l) => ih x (by have := dep_mem hx; rw [dep_v] at hd; omega))
      have HC := Lib.hid hci'
      have hple := pre_le false v.l v.ns (by simp)
      have HPL := Lib.hid hple
      have HF := Lib.hid (fun i h => pre_full false v.l v.ns i h (by simp))
      have N3 := Lib.hid (fun W bw (h : Own B W bw (l ++ be 1 5)) (hb : B ≤ W.heap.size) => rlen_c v.l.length (v.l.length : Int) rfl (by omega) (by omega) B bw (l ++ be 1 5) W h (by rw [List.length_append, be_len]; omega) hb)
      have hlen' := hlen
      clear hR e hr hc O hlen hnx hx en hL hci' hple
      go_enter Try.func30, Try.ntmps30
      go_wp2_with (first
        | ((fail_if_success (have := O1)); at_builtin; refine own_app2 rfl _ _ _ rfl Try.underlying38 B _ _ (be 1 5) rfl (O0.out.alloc _) ⟨w.heap.size + 1, 0, none⟩ 1 _ rfl rfl (cells_newN _ (be 1 5) _ _ (w.heap.size + 1) (by simp) rfl) (by omega) (by simp; omega) ?_; intro v1 w1 O1 b1 t1; have B1 := (B0.out.alloc (by simp; omega) _).trans b1; have T1 := ((Oth.refl _).alloc _).trans t1; obtain ⟨c0, c1, c2, c3, c4, c5, c6, c7⟩ := othbox T1; have s1 := B1.size)
        | (go_at_call 53; refine (N3.out _ _ O1 (Nat.le_trans hB s1)).mono ?_; rintro e w2 ⟨v2, rfl, O2, B2, T2⟩; obtain ⟨d0, d1, d2, d3, d4, d5, d6, d7⟩ := othbox (T1.trans T2)))
      have OA := Lib.hid O2
      have BA := Lib.hid (B1.trans B2)
      have TA := Lib.hid (T1.trans T2)
      clear O1 B1 T1 b1 t1 c0 c1 c2 c3 c4 c5 c6 c7 O2 B2 T2 d0 d1 d2 d3 d4 d5 d6 d7
      go_loopg [0, 7] v.l.length (fun gk vs vi wr => ∃ (bv : Value) (i : Nat), bv = vs ∧ vi = .int .i64 (i : Int) ∧ i ≤ v.l.length ∧ v.l.length - i ≤ gk ∧ Hid (Own B wr bv (l ++ be 1 5 ++ be 4 v.l.length ++ pre false v.l v.ns i)) ∧ Hid (Below B w wr) ∧ Hid (Oth (w.alloc (.cells #[.int .i64 5, .bool false, .int .i64 0, .string ⟨#[]⟩, .string ⟨#[]⟩, .string ⟨#[]⟩, .slice ai v.l.length ci, .slice an v.ns.length cn] 29)) wr))
      case atStart => exact ⟨_, 0, rfl, rfl, Nat.zero_le _, Nat.le_refl _, Lib.hid (by rw [pre_zero, List.append_nil]; exact OA.out), BA, TA⟩
      case round =>
        obtain ⟨bv2, i, rfl, rfl, hi, hg, O, BL, OT⟩ := hrel
        clear OA BA TA
        obtain ⟨c0, c1, c2, c3, c4, c5, c6, c7⟩ := othbox OT.out
        by_cases hlt : i < v.l.length
        · have z1 : (i : Int) < (v.l.length : Int) := by omega
          rcases HX.out with hx0 | ⟨xb, xo, rfl, hxb, hxf⟩
          · rw [hx0] at hlt; exact absurd hlt (Nat.not_lt_zero _)
          obtain ⟨xit, xnm, hcs, hrx⟩ := repF_at hxf i hlt
          obtain ⟨-, ⟨xan, xcn, rfl, -⟩, xai, xci, rfl, -⟩ := rep_v.1 hrx
          have hwr : B ≤ wr.heap.size := Nat.le_trans hB BL.out.size
          have HRX := Lib.hid hrx
          have HCS := Lib.hid (fun W (kk : Below B w W) => cells8 (fun j u hu => cell_to (hcs j u hu) fun _ => kk.block xb hxb : CellsAt W xb (xo + i * 8) (hdc v.l[i].h (.slice xai v.l[i].l.length xci) (.slice xan v.l[i].ns.length xcn))))
          have CNX := Lib.hid (HC.out _ (List.getElem_mem hlt))
          have hpl := HPL.out (i + 1)
          have hpe := pre_set v.l v.ns i hlt
          rw [hpe] at hpl
          have HPE := Lib.hid hpe
          have hl2 : (l ++ be 1 5 ++ be 4 v.l.length ++ pre false v.l v.ns i ++ lay v.l[i]).length ≤ 70368744177664 := by
            simp only [List.length_append, be_len] at hpl ⊢
            omega
          have HVX := Lib.hid (HI.out _ (List.getElem_mem hlt) B _ _ _ _ _ O.out (below_rep BL.out HRX.out) hwr CNX.out hl2)
          obtain ⟨e0, e1, e2, e3, e4, e5, e6, e7⟩ := HCS.out wr BL.out
          unfold av at HVX
          clear hcs hrx hxf hpe hpl hl2
          go_wp2_with (first
            | (go_at_call 30; refine HVX.out.mono ?_; rintro e w3 ⟨v3, rfl, O3, B3, T3⟩))
          have O4 := Lib.hid O3
          have B4 := Lib.hid (BL.out.trans B3)
          have T4 := Lib.hid (OT.out.trans T3)
          clear O3 B3 T3
          go_wp2_with fail
          go_roundg (v.l.length - (i + 1))
          case measure => omega
          case rel => exact ⟨v3, i + 1, rfl, by go_num, by omega, by omega, Lib.hid (by
            have h := O4.out
            rw [HPE.out]
            simpa only [List.append_assoc] using h), B4, T4⟩
        · have z1 : ¬ (i : Int) < (v.l.length : Int) := by omega
          have hf := HF.out i (by omega)
          rw [hf] at O
          clear hf
          go_wp2_with fail
          go_ret
          exact back_oth _ rfl O.out (by rw [HL.out]; simp only [List.append_assoc]) BL.out OT.out
    · have hR : layR v = be 4 v.l.length ++ layL true v.l v.ns := by
        unfold layR
        rw [e]
        simp
      rw [hR, e] at hlen ⊢
      obtain ⟨L, hL⟩ : ∃ L, L = l ++ (be 1 6 ++ (be 4 v.l.length ++ layL true v.l v.ns)) := ⟨_, rfl⟩
      show Calls _ _ #[bv, .agg #[.int .i64 6, .bool false, .int .i64 0, .string ⟨#[]⟩, .string ⟨#[]⟩, .string ⟨#[]⟩, _, _]] _ (App B w (l ++ (be 1 6 ++ (be 4 v.l.length ++ layL true v.l v.ns))))
      rw [← hL]
      have HL := Lib.hid hL
      have B0 := Lib.hid ((Below.refl B w).alloc hB (.cells #[.int .i64 6, .bool false, .int .i64 0, .string ⟨#[]⟩, .string ⟨#[]⟩, .string ⟨#[]⟩, .slice ai v.l.length ci, .slice an v.ns.length cn] 29))
      have O0 := Lib.hid (HO.out.alloc (.cells #[.int .i64 6, .bool false, .int .i64 0, .string ⟨#[]⟩, .string ⟨#[]⟩, .string ⟨#[]⟩, .slice ai v.l.length ci, .slice an v.ns.length cn] 29))
      simp only [List.length_append, be_len] at hlen
      have HX := Lib.hid hx
      have HN := Lib.hid hnx
      have HI := Lib.hid (fun x (hx : x ∈ v.l) => ih x (by have := dep_mem hx; rw [dep_v] at hd; omega))
      have HC := Lib.hid hci'
      have hple := pre_le true v.l v.ns (fun _ => en)
      have HPL := Lib.hid hple
      have HF := Lib.hid (fun i h => pre_full true v.l v.ns i h (fun _ => en))
      have HNL := Lib.hid en
      have N3 := Lib.hid (fun W bw (h : Own B W bw (l ++ be 1 6)) (hb : B ≤ W.heap.size) => rlen_c v.l.length (v.l.length : Int) rfl (by omega) (by omega) B bw (l ++ be 1 6) W h (by rw [List.length_append, be_len]; omega) hb)
      have hlen' := hlen
      clear hR e hr hc O hlen hnx hx en hL hci' hple
      go_enter Try.func30, Try.ntmps30
      go_wp2_with (first
        | ((fail_if_success (have := O1)); at_builtin; refine own_app2 rfl _ _ _ rfl Try.underlying38 B _ _ (be 1 6) rfl (O0.out.alloc _) ⟨w.heap.size + 1, 0, none⟩ 1 _ rfl rfl (cells_newN _ (be 1 6) _ _ (w.heap.size + 1) (by simp) rfl) (by omega) (by simp; omega) ?_; intro v1 w1 O1 b1 t1; have B1 := (B0.out.alloc (by simp; omega) _).trans b1; have T1 := ((Oth.refl _).alloc _).trans t1; obtain ⟨c0, c1, c2, c3, c4, c5, c6, c7⟩ := othbox T1; have s1 := B1.size)
        | (go_at_call 53; refine (N3.out _ _ O1 (Nat.le_trans hB s1)).mono ?_; rintro e w2 ⟨v2, rfl, O2, B2, T2⟩; obtain ⟨d0, d1, d2, d3, d4, d5, d6, d7⟩ := othbox (T1.trans T2)))
      have OA := Lib.hid O2
      have BA := Lib.hid (B1.trans B2)
      have TA := Lib.hid (T1.trans T2)
      clear O1 B1 T1 b1 t1 c0 c1 c2 c3 c4 c5 c6 c7 O2 B2 T2 d0 d1 d2 d3 d4 d5 d6 d7
      go_loopg [0, 7] v.l.length (fun gk vs vi wr => ∃ (bv : Value) (i : Nat), bv = vs ∧ vi = .int .i64 (i : Int) ∧ i ≤ v.l.length ∧ v.l.length - i ≤ gk ∧ Hid (Own B wr bv (l ++ be 1 6 ++ be 4 v.l.length ++ pre true v.l v.ns i)) ∧ Hid (Below B w wr) ∧ Hid (Oth (w.alloc (.cells #[.int .i64 6, .bool false, .int .i64 0, .string ⟨#[]⟩, .string ⟨#[]⟩, .string ⟨#[]⟩, .slice ai v.l.length ci, .slice an v.ns.length cn] 29)) wr))
      case atStart => exact ⟨_, 0, rfl, rfl, Nat.zero_le _, Nat.le_refl _, Lib.hid (by rw [pre_zero, List.append_nil]; exact OA.out), BA, TA⟩
      case round =>
        obtain ⟨bv2, i, rfl, rfl, hi, hg, O, BL, OT⟩ := hrel
        clear OA BA TA
        obtain ⟨c0, c1, c2, c3, c4, c5, c6, c7⟩ := othbox OT.out
        by_cases hlt : i < v.l.length
        · have z1 : (i : Int) < (v.l.length : Int) := by omega
          rcases HX.out with hx0 | ⟨xb, xo, rfl, hxb, hxf⟩
          · rw [hx0] at hlt; exact absurd hlt (Nat.not_lt_zero _)
          obtain ⟨xit, xnm, hcs, hrx⟩ := repF_at hxf i hlt
          obtain ⟨-, ⟨xan, xcn, rfl, -⟩, xai, xci, rfl, -⟩ := rep_v.1 hrx
          have hwr : B ≤ wr.heap.size := Nat.le_trans hB BL.out.size
          have HRX := Lib.hid hrx
          have HCS := Lib.hid (fun W (kk : Below B w W) => cells8 (fun j u hu => cell_to (hcs j u hu) fun _ => kk.block xb hxb : CellsAt W xb (xo + i * 8) (hdc v.l[i].h (.slice xai v.l[i].l.length xci) (.slice xan v.l[i].ns.length xcn))))
          have CNX := Lib.hid (HC.out _ (List.getElem_mem hlt))
          have hpl := HPL.out (i + 1)
          have hin : i < v.ns.length := by have := HNL.out; omega
          have zin : (i : Int) < (v.ns.length : Int) := by omega
          rcases HN.out with hn0 | ⟨nb, no, rfl, hnb, hnc⟩
          · rw [hn0] at hin; exact absurd hin (Nat.not_lt_zero _)
          obtain ⟨nx, hnx⟩ : ∃ nx, nx = v.ns[i] := ⟨_, rfl⟩
          have cn1 : wr.cell? ⟨nb, no + i, none⟩ = some (.string nx) := by rw [hnx]; exact cell_to (hnc i hin) fun _ => BL.out.block nb hnb
          have hpe := pre_rec v.l v.ns i hlt hin
          rw [← hnx] at hpe
          rw [hpe] at hpl
          have HPE := Lib.hid hpe
          have hl2 : (l ++ be 1 6 ++ be 4 v.l.length ++ pre true v.l v.ns i ++ layT nx ++ lay v.l[i]).length ≤ 70368744177664 := by
            simp only [List.length_append, be_len] at hpl ⊢
            omega
          have hl1 : (l ++ be 1 6 ++ be 4 v.l.length ++ pre true v.l v.ns i ++ layT nx).length ≤ 70368744177664 := by
            rw [List.length_append] at hl2
            omega
          have HL2 := Lib.hid hl2
          have HTX := Lib.hid (rtext_c nx B _ _ _ O.out hl1 hwr)
          have HVX := Lib.hid (fun W bw (h : Own B W bw (l ++ be 1 6 ++ be 4 v.l.length ++ pre true v.l v.ns i ++ layT nx)) (kk : Below B w W) (hb : B ≤ W.heap.size) => HI.out _ (List.getElem_mem hlt) B bw _ W _ _ h (below_rep kk HRX.out) hb CNX.out HL2.out)
          unfold av at HVX
          clear hcs hrx hxf hpe hpl hl2 hl1 hnx hnc
          go_wp2_with (first
            | (go_at_call 52; refine HTX.out.mono ?_; rintro e w2 ⟨v2, rfl, O2, B2, T2⟩; obtain ⟨d0, d1, d2, d3, d4, d5, d6, d7⟩ := othbox (OT.out.trans T2); obtain ⟨e0, e1, e2, e3, e4, e5, e6, e7⟩ := HCS.out w2 (BL.out.trans B2))
            | (go_at_call 30; refine (HVX.out _ _ O2 (BL.out.trans B2) (Nat.le_trans hwr B2.size)).mono ?_; rintro e w3 ⟨v3, rfl, O3, B3, T3⟩))
          have O4 := Lib.hid O3
          have B4 := Lib.hid ((BL.out.trans B2).trans B3)
          have T4 := Lib.hid ((OT.out.trans T2).trans T3)
          clear O3 B3 T3 O2 B2 T2 d0 d1 d2 d3 d4 d5 d6 d7 e0 e1 e2 e3 e4 e5 e6 e7
          go_wp2_with fail
          go_roundg (v.l.length - (i + 1))
          case measure => omega
          case rel => exact ⟨v3, i + 1, rfl, by go_num, by omega, by omega, Lib.hid (by
            have h := O4.out
            rw [HPE.out]
            simpa only [List.append_assoc] using h), B4, T4⟩
        · have z1 : ¬ (i : Int) < (v.l.length : Int) := by omega
          have hf := HF.out i (by omega)
          rw [hf] at O
          clear hf
          go_wp2_with fail
          go_ret
          exact back_oth _ rfl O.out (by rw [HL.out]; simp only [List.append_assoc]) BL.out OT.out
theorem put_c (v : V) : PutC 30 v := put_n (dep v) v (Nat.le_refl _)
end Go.Proofs.Ytbhlgajdoegboaa
namespace Go.Proofs.Ytbhlgajdoegboaa
open Go.RowKit
/-- A value's bytes, or an error's number. -/
def encD (v : V) : Int × List UInt8 := if (canD v).1 = 0 then (if 65536 < (lay (canD v).2).length then (12, []) else (0, lay (canD v).2)) else ((canD v).1, [])
def EncPost (v : V) (w : World) (e : Ending) (w' : World) : Prop := ∃ ao cap, e = .returned (.tuple #[.slice ao (encD v).2.length cap, .int .i64 (encD v).1]) ∧ Own w.heap.size w' (.slice ao (encD v).2.length cap) (encD v).2 ∧ Low w w'
theorem encD_bad {v : V} (h : (canD v).1 ≠ 0) : encD v = ((canD v).1, []) := by unfold encD; rw [if_neg h]
theorem encD_long {v : V} (h : (canD v).1 = 0) (k : 65536 < (lay (canD v).2).length) : encD v = (12, []) := by unfold encD; rw [if_pos h, if_pos k]
theorem encD_ok {v : V} (h : (canD v).1 = 0) (k : ¬ 65536 < (lay (canD v).2).length) : encD v = (0, lay (canD v).2) := by unfold encD; rw [if_pos h, if_neg k]
set_option maxHeartbeats 4000000 in
set_option maxRecDepth 100000 in
theorem enc_c (v : V) (w : World) (it nm : Value) (hr : R w v it nm) (hsm : Sm v) (hvb : vb v ≤ 1099511627776) : Calls Try.prog 18 #[av v.h it nm] w (EncPost v w) := by
  obtain ⟨ai, ci, an, cn, rfl, rfl⟩ := r_slices hr
  have LA : Low w (w.alloc (.cells #[.int .i64 v.h.k, .bool v.h.b, .int .i64 v.h.n, .string v.h.s, .string v.h.t, .string v.h.i, .slice ai v.l.length ci, .slice an v.ns.length cn] 29)) := Low.alloc (Low.refl w) _
  have hcon := Canon_c v _ _ _ (hr.low LA) hsm
  obtain ⟨c, hc⟩ : ∃ c, c = (canD v).2 := ⟨_, rfl⟩
  obtain ⟨err, herr⟩ : ∃ err, err = (canD v).1 := ⟨_, rfl⟩
  rw [← hc, ← herr] at hcon
  unfold av at hcon ⊢
  have HC := Lib.hid hc
  have HE := Lib.hid herr
  have HCON := Lib.hid hcon
  have HLA := Lib.hid LA
  clear hr hsm LA hcon hc herr
  go_enter Try.func18, Try.ntmps18
  go_wp2_with fail
  refine HCON.out.mono ?_
  rintro e w5 ⟨bi, di, bn, dn, rfl, hrep, g⟩
  have HR := Lib.hid hrep
  have G := Lib.hid (HLA.out.trans g)
  clear hrep g
  by_cases he : err = 0
  · subst he
    have h0 : (canD v).1 = 0 := HE.out.symm
    have hcn : Cn c := by
      rw [HC.out, (canD_ok h0).1]
      exact can_cn (by rw [← (canD_ok h0).1]; exact h0)
    have hlb : (lay c).length ≤ 70368744177664 := by
      have h1 := lay_bound c
      have h2 : vb c ≤ vb v := by rw [HC.out]; exact vb_canD h0
      omega
    have hR2 : Rep (fun b => b < w5.heap.size) (w5.alloc (.cells #[.int .i64 c.h.k, .bool c.h.b, .int .i64 c.h.n, .string c.h.s, .string c.h.t, .string c.h.i, .slice bi c.l.length di, .slice bn c.ns.length dn] 29)) c (.slice bi c.l.length di) (.slice bn c.ns.length dn) := Rep.to (fun b _ hb => ⟨hb, heap_alloc_old w5 _ hb⟩) _ HR.out
    have HV := Lib.hid (layV_c c w5.heap.size (.slice none 0 0) [] _ _ _ (Own.nil _ _) hR2 (by simp) hcn (by rw [List.nil_append]; exact hlb))
    unfold av at HV
    rw [List.nil_append] at HV
    have GB := Lib.hid (Low.alloc G.out (.cells #[.int .i64 c.h.k, .bool c.h.b, .int .i64 c.h.n, .string c.h.s, .string c.h.t, .string c.h.i, .slice bi c.l.length di, .slice bn c.ns.length dn] 29))
    have H0 := Lib.hid h0
    clear hcn hlb hR2 h0
    go_wp2_with fail
    refine HV.out.mono ?_
    rintro e w6 ⟨l', ⟨v3, rfl, O3, B3, T3⟩, C3, L3⟩
    obtain ⟨ao, cap, hv3, hcap, hcm⟩ := O3.shape
    subst hv3
    have hs5 : w.heap.size ≤ w5.heap.size := G.out.size
    have L6 := Lib.hid (Low.trans_below GB.out B3 hs5)
    have O6 := Lib.hid (O3.base hs5)
    have C6 := Lib.hid C3
    clear C3 L3 O3 B3 T3
    by_cases hbig : 65536 < l'.length
    · have zb : (65536 : Int) < (l'.length : Int) := by omega
      have hen : encD v = (12, []) := encD_long H0.out (by rw [← HC.out]; have := C6.out.le; omega)
      have HEN := Lib.hid hen
      clear hen hbig
      go_wp2_with fail
      go_ret2
      unfold EncPost
      rw [HEN.out]
      exact ⟨none, 0, rfl, Own.nil _ _, L6.out⟩
    · have zb : ¬ (65536 : Int) < (l'.length : Int) := by omega
      have hen : encD v = (0, l') := by
        have h := C6.out.short hbig
        rw [h, HC.out]
        exact encD_ok H0.out (by rw [← HC.out, ← h]; exact hbig)
      have HEN := Lib.hid hen
      clear hen hbig
      go_wp2_with fail
      go_ret2
      unfold EncPost
      rw [HEN.out]
      exact ⟨ao, cap, rfl, O6.out, L6.out⟩
  · have hen : encD v = (err, []) := by rw [HE.out]; exact encD_bad (by rw [← HE.out]; exact he)
    have HEN := Lib.hid hen
    have hb : (err == 0) = false := by simpa using he
    have GB := Lib.hid (Low.alloc G.out (.cells #[.int .i64 c.h.k, .bool c.h.b, .int .i64 c.h.n, .string c.h.s, .string c.h.t, .string c.h.i, .slice bi c.l.length di, .slice bn c.ns.length dn] 29))
    clear hen he
    go_wp2_with fail
    go_ret2
    unfold EncPost
    rw [HEN.out]
    exact ⟨none, 0, rfl, Own.nil _ _, GB.out⟩
set_option maxHeartbeats 4000000 in
set_option maxRecDepth 100000 in
theorem rEnc_c (v : V) (w : World) (it nm : Value) (hr : R w v it nm) (hsm : Sm v) (hdp : dep v ≤ 1000000) (hvb : vb v ≤ 1099511627776) : Calls Try.prog 17 #[av v.h it nm] w (EncPost v w) := by
  obtain ⟨ai, ci, an, cn, rfl, rfl⟩ := r_slices hr
  have LA : Low w (w.alloc (.cells #[.int .i64 v.h.k, .bool v.h.b, .int .i64 v.h.n, .string v.h.s, .string v.h.t, .string v.h.i, .slice ai v.l.length ci, .slice an v.ns.length cn] 29)) := Low.alloc (Low.refl w) _
  have hcon := rCanon_c v _ _ _ (hr.low LA) hsm hdp
  obtain ⟨c, hc⟩ : ∃ c, c = (canD v).2 := ⟨_, rfl⟩
  obtain ⟨err, herr⟩ : ∃ err, err = (canD v).1 := ⟨_, rfl⟩
  rw [← hc, ← herr] at hcon
  unfold av at hcon ⊢
  have HC := Lib.hid hc
  have HE := Lib.hid herr
  have HCON := Lib.hid hcon
  have HLA := Lib.hid LA
  clear hr hsm LA hcon hc herr
  go_enter Try.func17, Try.ntmps17
  go_wp2_with fail
  refine HCON.out.mono ?_
  rintro e w5 ⟨bi, di, bn, dn, rfl, hrep, g⟩
  have HR := Lib.hid hrep
  have G := Lib.hid (HLA.out.trans g)
  clear hrep g
  by_cases he : err = 0
  · subst he
    have h0 : (canD v).1 = 0 := HE.out.symm
    have hcn : Cn c := by
      rw [HC.out, (canD_ok h0).1]
      exact can_cn (by rw [← (canD_ok h0).1]; exact h0)
    have hlb : (lay c).length ≤ 70368744177664 := by
      have h1 := lay_bound c
      have h2 : vb c ≤ vb v := by rw [HC.out]; exact vb_canD h0
      omega
    have hR2 : Rep (fun b => b < w5.heap.size) (w5.alloc (.cells #[.int .i64 c.h.k, .bool c.h.b, .int .i64 c.h.n, .string c.h.s, .string c.h.t, .string c.h.i, .slice bi c.l.length di, .slice bn c.ns.length dn] 29)) c (.slice bi c.l.length di) (.slice bn c.ns.length dn) := Rep.to (fun b _ hb => ⟨hb, heap_alloc_old w5 _ hb⟩) _ HR.out
    have HV := Lib.hid (put_c c w5.heap.size (.slice none 0 0) [] _ _ _ (Own.nil _ _) hR2 (by simp) hcn (by rw [List.nil_append]; exact hlb))
    unfold av at HV
    rw [List.nil_append] at HV
    have GB := Lib.hid (Low.alloc G.out (.cells #[.int .i64 c.h.k, .bool c.h.b, .int .i64 c.h.n, .string c.h.s, .string c.h.t, .string c.h.i, .slice bi c.l.length di, .slice bn c.ns.length dn] 29))
    have H0 := Lib.hid h0
    clear hcn hlb hR2 h0
    go_wp2_with fail
    refine HV.out.mono ?_
    rintro e w6 ⟨v3, rfl, O3, B3, T3⟩
    obtain ⟨ao, cap, hv3, hcap, hcm⟩ := O3.shape
    subst hv3
    have hs5 : w.heap.size ≤ w5.heap.size := G.out.size
    have L6 := Lib.hid (Low.trans_below GB.out B3 hs5)
    have O6 := Lib.hid (O3.base hs5)
    clear O3 B3 T3
    by_cases hbig : 65536 < (lay c).length
    · have zb : (65536 : Int) < ((lay c).length : Int) := by omega
      have hen : encD v = (12, []) := encD_long H0.out (by rw [← HC.out]; exact hbig)
      have HEN := Lib.hid hen
      clear hen hbig
      go_wp2_with fail
      go_ret2
      unfold EncPost
      rw [HEN.out]
      exact ⟨none, 0, rfl, Own.nil _ _, L6.out⟩
    · have zb : ¬ (65536 : Int) < ((lay c).length : Int) := by omega
      have hen : encD v = (0, lay c) := by
        rw [HC.out]
        exact encD_ok H0.out (by rw [← HC.out]; exact hbig)
      have HEN := Lib.hid hen
      clear hen hbig
      go_wp2_with fail
      go_ret2
      unfold EncPost
      rw [HEN.out]
      exact ⟨ao, cap, rfl, O6.out, L6.out⟩
  · have hen : encD v = (err, []) := by rw [HE.out]; exact encD_bad (by rw [← HE.out]; exact he)
    have HEN := Lib.hid hen
    have hb : (err == 0) = false := by simpa using he
    have GB := Lib.hid (Low.alloc G.out (.cells #[.int .i64 c.h.k, .bool c.h.b, .int .i64 c.h.n, .string c.h.s, .string c.h.t, .string c.h.i, .slice bi c.l.length di, .slice bn c.ns.length dn] 29))
    clear hen he
    go_wp2_with fail
    go_ret2
    unfold EncPost
    rw [HEN.out]
    exact ⟨none, 0, rfl, Own.nil _ _, GB.out⟩
end Go.Proofs.Ytbhlgajdoegboaa
