/- A reader of bytes: what lies in memory, what it takes; numbers of bytes. No condition. codec.reader's take, number, text. No condition. codec.reader's text. No condition. codec.reader's value where a truth is read. No condition. -/
import Derived.Test.YtbhlgajdoegboaaLayA
import Derived.Test.YtbhlgajdoegboaaCanF
import Derived.Test.YtbhlgajdoegboaaCanR
import Derived.Deep.LoopGhost
import Derived.Laws.Bits64b
namespace Go.Proofs.Ytbhlgajdoegboaa
open Go.RowKit
def ofB (l : List UInt8) : Nat := l.foldl (fun n c => n * 256 + c.toNat) 0
theorem fold_be (w n : Nat) : ∀ a : Nat, (be w n).foldl (fun n c => n * 256 + c.toNat) a = a * 256 ^ w + n % 256 ^ w := by
  induction w with
  | zero => intro a; simp [be]; omega
  | succ w ih =>
    intro a
    have h1 : n % 256 ^ (w + 1) = n % 256 ^ w + 256 ^ w * (n / 256 ^ w % 256) := by rw [Nat.pow_succ, Nat.mod_mul]
    have h2 : (UInt8.ofNat (n / 256 ^ w)).toNat = n / 256 ^ w % 256 := by rw [UInt8.toNat_ofNat']
    rw [be, List.foldl_cons, ih, h2, h1, Nat.pow_succ, Nat.add_mul, Nat.mul_assoc, Nat.mul_comm 256 (256 ^ w), Nat.mul_comm (n / 256 ^ w % 256) (256 ^ w)]
    omega
theorem ofB_be {w n : Nat} (h : n < 256 ^ w) : ofB (be w n) = n := by
  unfold ofB
  rw [fold_be, Nat.mod_eq_of_lt h, Nat.zero_mul, Nat.zero_add]
theorem fold_snoc (l : List UInt8) (c : UInt8) : ofB (l ++ [c]) = ofB l * 256 + c.toNat := by simp [ofB]
theorem fold_lt : ∀ (l : List UInt8) (a : Nat), l.foldl (fun n c => n * 256 + c.toNat) a < (a + 1) * 256 ^ l.length
  | [], a => by simp
  | c :: l, a => by
    have h1 := fold_lt l (a * 256 + c.toNat)
    have h2 := c.toNat_lt
    rw [List.foldl_cons, List.length_cons, Nat.pow_succ]
    refine Nat.lt_of_lt_of_le h1 ?_
    rw [Nat.mul_comm (256 ^ l.length) 256, ← Nat.mul_assoc]
    exact Nat.mul_le_mul_right _ (by omega)
theorem ofB_lt (l : List UInt8) : ofB l < 256 ^ l.length := by
  have h := fold_lt l 0
  rw [Nat.zero_add, Nat.one_mul] at h
  exact h
theorem ofB_take {l : List UInt8} {i : Nat} (hi : i < l.length) : ofB (l.take (i + 1)) = ofB (l.take i) * 256 + l[i].toNat := by
  rw [List.take_succ_eq_append_getElem hi, fold_snoc]
/-- Bytes that lie in a row, in blocks below some. -/
def BytesAt (B : Nat) (w : World) (l : List UInt8) (ao : Option Addr) (cap : Nat) : Prop :=
  (l.length ≤ cap ∧ cap ≤ 9223372036854775807) ∧ (l = [] ∨ ∃ b o, ao = some ⟨b, o, none⟩ ∧ b < B ∧ ∀ j (hj : j < l.length), w.cell? ⟨b, o + j, none⟩ = some (byV l[j]))
/-- A reader: its bytes, and whether it was short. -/
def RdAt (B : Nat) (w : World) (rb : Nat) (l : List UInt8) (sh : Bool) : Prop :=
  B ≤ rb ∧ ∃ ao cap, w.cell? ⟨rb, 0, none⟩ = some (.slice ao l.length cap) ∧ w.cell? ⟨rb, 1, none⟩ = some (.bool sh) ∧ w.frozen? ⟨rb, 0, none⟩ = false ∧ w.frozen? ⟨rb, 1, none⟩ = false ∧ BytesAt B w l ao cap
theorem BytesAt.to {B : Nat} {w w' : World} {l : List UInt8} {ao : Option Addr} {cap : Nat} (h : BytesAt B w l ao cap) (hb : ∀ b, b < B → w'.heap[b]? = w.heap[b]?) : BytesAt B w' l ao cap := by
  refine ⟨h.1, h.2.imp id ?_⟩
  rintro ⟨b, o, rfl, h1, h2⟩
  exact ⟨b, o, rfl, h1, fun j hj => cell_to (h2 j hj) fun _ => hb b h1⟩
theorem RdAt.to {B : Nat} {w w' : World} {rb : Nat} {l : List UInt8} {sh : Bool} (h : RdAt B w rb l sh) (hb : ∀ b, b < B → w'.heap[b]? = w.heap[b]?) (hr : w'.heap[rb]? = w.heap[rb]?) : RdAt B w' rb l sh := by
  obtain ⟨h0, ao, cap, h1, h2, h3, h4, h5⟩ := h
  exact ⟨h0, ao, cap, cell_to h1 fun _ => hr, cell_to h2 fun _ => hr, by rw [World.frozen?_of_block (w := w) (w' := w') (a := ⟨rb, 0, none⟩) hr]; exact h3, by rw [World.frozen?_of_block (w := w) (w' := w') (a := ⟨rb, 1, none⟩) hr]; exact h4, h5.to hb⟩
theorem RdAt.lt {B : Nat} {w : World} {rb : Nat} {l : List UInt8} {sh : Bool} (h : RdAt B w rb l sh) : rb < w.heap.size := by
  obtain ⟨h0, ao, cap, h1, -⟩ := h
  exact cell_lt h1
/-- What is taken, what is left, and whether it was short. -/
def tkB (k : Nat) (l : List UInt8) : List UInt8 := if k ≤ l.length then l.take k else []
def tkR (k : Nat) (l : List UInt8) : List UInt8 := if k ≤ l.length then l.drop k else []
def tkS (k : Nat) (l : List UInt8) (sh : Bool) : Bool := if k ≤ l.length then sh else true
theorem tkB_app {k : Nat} {a t : List UInt8} (h : a.length = k) : tkB k (a ++ t) = a := by
  unfold tkB
  rw [if_pos (by rw [List.length_append]; omega), ← h, List.take_left]
theorem tkR_app {k : Nat} {a t : List UInt8} (h : a.length = k) : tkR k (a ++ t) = t := by
  unfold tkR
  rw [if_pos (by rw [List.length_append]; omega), ← h, List.drop_left]
theorem tkS_app {k : Nat} {a t : List UInt8} {sh : Bool} (h : a.length = k) : tkS k (a ++ t) sh = sh := by
  unfold tkS
  rw [if_pos (by rw [List.length_append]; omega)]
theorem tkR_len (k : Nat) (l : List UInt8) : (tkR k l).length ≤ l.length := by
  unfold tkR
  split
  · rw [List.length_drop]; omega
  · simp
/-- What a call that takes bytes off a reader leaves of memory. -/
def Took (B : Nat) (w : World) (rb : Nat) (l : List UInt8) (sh : Bool) (w' : World) : Prop := RdAt B w' rb l sh ∧ KeptBut w w' (some rb)
end Go.Proofs.Ytbhlgajdoegboaa
namespace Go.Proofs.Ytbhlgajdoegboaa
open Go.RowKit
def TakeP (B : Nat) (rb : Nat) (k : Nat) (l : List UInt8) (sh : Bool) (w : World) (e : Ending) (w' : World) : Prop :=
  ∃ ao cap, e = .returned (.slice ao (tkB k l).length cap) ∧ BytesAt B w' (tkB k l) ao cap ∧ Took B w rb (tkR k l) (tkS k l sh) w'
theorem BytesAt.setCell {B : Nat} {w : World} {l : List UInt8} {ao : Option Addr} {cap rb o : Nat} {u : Value} (h : BytesAt B w l ao cap) (hB : B ≤ rb) : BytesAt B (w.setCell ⟨rb, o, none⟩ u) l ao cap :=
  h.to fun b hb => heap_setCell_other w ⟨rb, o, none⟩ b u fun e => by have e' : b = rb := e; omega
theorem take_fin {B rb k : Nat} {l : List UInt8} {sh : Bool} {w : World} {ao ao2 : Option Addr} {cap1 cap2 n1 n2 : Nat} (hB : B ≤ rb) (c0 : ∃ u, w.cell? ⟨rb, 0, none⟩ = some u) (c1 : w.cell? ⟨rb, 1, none⟩ = some (.bool sh)) (f0 : w.frozen? ⟨rb, 0, none⟩ = false) (f1 : w.frozen? ⟨rb, 1, none⟩ = false)
    (hk : k ≤ l.length) (h1 : n1 = k) (h2 : n2 = l.length - k) (hb1 : BytesAt B w (l.take k) ao cap1) (hb2 : BytesAt B w (l.drop k) ao2 cap2) :
    TakeP B rb k l sh w (.returned (.slice ao n1 cap1)) (w.setCell ⟨rb, 0, none⟩ (.slice ao2 n2 cap2)) := by
  obtain ⟨u, c0⟩ := c0
  have e1 : tkB k l = l.take k := by unfold tkB; rw [if_pos hk]
  have e2 : tkR k l = l.drop k := by unfold tkR; rw [if_pos hk]
  have e3 : tkS k l sh = sh := by unfold tkS; rw [if_pos hk]
  have hl1 : (tkB k l).length = n1 := by rw [e1, List.length_take, h1]; omega
  refine ⟨ao, cap1, by rw [hl1], by rw [e1]; exact hb1.setCell hB, ⟨hB, ao2, cap2, ?_, ?_, ?_, ?_, ?_⟩, kept_setCell _ _ _ _⟩
  · have hl2 : (tkR k l).length = n2 := by rw [e2, List.length_drop, h2]
    rw [hl2]
    simp [go_sem, c0]
  · rw [e3]; simp [go_sem, c1]
  · simp [go_sem, f0]
  · simp [go_sem, f1]
  · rw [e2]; exact hb2.setCell hB
set_option maxHeartbeats 1600000 in
set_option maxRecDepth 100000 in
theorem take_c (k : Nat) (m : Int) (hm : m = (k : Int)) (B rb : Nat) (l : List UInt8) (sh : Bool) (w : World) (h : RdAt B w rb l sh) :
    Calls Try.prog 73 #[.pointer (some ⟨rb, 0, none⟩), .int .u64 m] w (TakeP B rb k l sh w) := by
  have hrb := h.lt
  obtain ⟨hB, ao, cap, c0, c1, f0, f1, ⟨hl1, hl2⟩, hb⟩ := h
  have HB := Lib.hid hb
  have HM := Lib.hid hm
  have hm0 : 0 ≤ m := by omega
  by_cases hk : k ≤ l.length
  · have z1 : ¬ (l.length : Int) < m := by omega
    have z2 : m ≤ (l.length : Int) := by omega
    have z3 : m ≤ (cap : Int) := by omega
    have HK := Lib.hid hk
    have hmk : m.toNat = k := by omega
    have B1 : Hid (BytesAt B w (l.take k) ao cap) := Lib.hid ⟨⟨by rw [List.length_take]; omega, hl2⟩, by
      rcases hb with h0 | ⟨b, o, h0, h1, h2⟩
      · exact .inl (by rw [h0]; simp)
      · exact .inr ⟨b, o, h0, h1, fun j hj => by rw [List.getElem_take]; exact h2 j _⟩⟩
    have B2 : Hid (BytesAt B w (l.drop k) (ao.map fun x => x.add m.toNat) (cap - m.toNat)) := Lib.hid ⟨⟨by rw [List.length_drop]; omega, by omega⟩, by
      rcases hb with h0 | ⟨b, o, h0, h1, h2⟩
      · exact .inl (by rw [h0]; simp)
      · refine .inr ⟨b, o + k, by rw [h0, hmk, Option.map_some, Addr.add_lit], h1, fun j hj => ?_⟩
        have hj' : k + j < l.length := by rw [List.length_drop] at hj; omega
        rw [List.getElem_drop, Nat.add_assoc]
        exact h2 (k + j) hj'⟩
    have B3 : Hid (cap = m.toNat → BytesAt B w (l.drop k) ao 0) := Lib.hid fun e => ⟨⟨by rw [List.length_drop]; omega, by decide⟩, .inl (by apply List.eq_nil_of_length_eq_zero; rw [List.length_drop]; omega)⟩
    have HMK := Lib.hid hmk
    clear hb hm hk hmk
    go_enter Try.func73, Try.ntmps73
    go_wp2_with fail
    all_goals
      go_ret
      first
        | exact take_fin hB ⟨_, c0⟩ c1 f0 f1 HK.out HMK.out (by rw [HMK.out]) B1.out B2.out
        | (have hc : cap = m.toNat := by assumption
           exact take_fin hB ⟨_, c0⟩ c1 f0 f1 HK.out HMK.out (by rw [HMK.out]) (hc ▸ B1.out) (B3.out hc))
  · have z1 : (l.length : Int) < m := by omega
    have HK := Lib.hid hk
    clear hb hm hk
    go_enter Try.func73, Try.ntmps73
    go_wp2_with fail
    go_ret
    have e1 : tkB k l = [] := by unfold tkB; rw [if_neg HK.out]
    have e2 : tkR k l = [] := by unfold tkR; rw [if_neg HK.out]
    have e3 : tkS k l sh = true := by unfold tkS; rw [if_neg HK.out]
    unfold TakeP
    rw [e1, e2, e3]
    refine ⟨none, 0, rfl, ⟨⟨by simp, by decide⟩, .inl rfl⟩, ⟨hB, none, 0, ?_, ?_, ?_, ?_, ⟨⟨by simp, by decide⟩, .inl rfl⟩⟩, (kept_setCell _ _ _ _).trans (kept_setCell _ _ _ _)⟩
    · simp [go_sem, c0]
    · simp [go_sem, c1]
    · simp [go_sem, f0]
    · simp [go_sem, f1]
set_option maxRecDepth 100000 in
theorem or_byte (n : Nat) (c : UInt8) (X : Int) (hX : X = (n : Int)) (h : n * 256 + c.toNat < 18446744073709551616) : bits .or .u64 (IntKind.u64.wrap (X * 256)) (IntKind.u64.wrap (c.toNat : Int)) = ((n * 256 + c.toNat : Nat) : Int) := by
  subst hX
  have h1 := c.toNat_lt
  have h2 := Nat.two_pow_add_eq_or_of_lt (i := 8) (b := c.toNat) (by omega) n
  rw [show (2 : Nat) ^ 8 = 256 from rfl, Nat.mul_comm 256 n] at h2
  rw [show IntKind.u64.wrap ((n : Int) * 256) = ((n * 256 : Nat) : Int) by rw [IntKind.wrap_u64]; omega, show IntKind.u64.wrap (c.toNat : Int) = (c.toNat : Int) by rw [IntKind.wrap_u64]; omega]
  rw [bits_or_u64_nat _ _ (by omega) (by omega), ← h2]
def NumP (B : Nat) (rb : Nat) (k : Nat) (l : List UInt8) (sh : Bool) (w : World) (e : Ending) (w' : World) : Prop :=
  (∃ m : Int, e = .returned (.int .u64 m) ∧ m = (ofB (tkB k l) : Nat)) ∧ Took B w rb (tkR k l) (tkS k l sh) w'
set_option maxHeartbeats 1600000 in
set_option maxRecDepth 100000 in
theorem number_c (k : Nat) (hk : k ≤ 8) (m : Int) (hm : m = (k : Int)) (B rb : Nat) (l : List UInt8) (sh : Bool) (w : World) (h : RdAt B w rb l sh) :
    Calls Try.prog 47 #[.pointer (some ⟨rb, 0, none⟩), .int .u64 m] w (NumP B rb k l sh w) := by
  have ht := take_c k m hm B rb l sh w h
  have htl : (tkB k l).length ≤ 8 := by unfold tkB; split <;> simp <;> omega
  unfold NumP
  unfold TakeP at ht
  obtain ⟨tb, htb⟩ : ∃ tb, tb = tkB k l := ⟨_, rfl⟩
  rw [← htb] at ht htl ⊢
  have HT := Lib.hid ht
  have HTL := Lib.hid htl
  clear ht hk hm h htb
  go_enter Try.func47, Try.ntmps47
  go_wp2_with (first
    | (go_at_call 73; refine HT.out.mono ?_; rintro e w1 ⟨ao, cap, rfl, hby, T1⟩))
  obtain ⟨⟨hc1, hc2⟩, hby2⟩ := hby
  have HBY := Lib.hid hby2
  have HT1 := Lib.hid T1
  clear hby2 T1
  go_loopg [5, 12] tb.length (fun gk vx vi wr => ∃ (X : Int) (i : Nat), vx = .int .u64 X ∧ vi = .int .i64 (i : Int) ∧ i ≤ tb.length ∧ tb.length - i ≤ gk ∧ Hid (X = (ofB (tb.take i) : Nat)) ∧ Hid (w1 = wr))
  case atStart => exact ⟨0, 0, rfl, rfl, Nat.zero_le _, Nat.le_refl _, Lib.hid rfl, Lib.hid rfl⟩
  case round =>
    obtain ⟨X, i, rfl, rfl, hi, hg, HX, HW⟩ := hrel
    obtain rfl := HW.out
    by_cases hlt : i < tb.length
    · have z1 : (i : Int) < (tb.length : Int) := by omega
      rcases HBY.out with h0 | ⟨b, o, rfl, hbb, hcc⟩
      · rw [h0] at hlt; exact absurd hlt (Nat.not_lt_zero _)
      obtain ⟨c, hc⟩ : ∃ c, c = tb[i] := ⟨_, rfl⟩
      have cc := hcc i hlt
      rw [← hc] at cc
      unfold byV at cc
      have hof := ofB_take hlt
      rw [← hc] at hof
      have hbd : ofB (tb.take i) * 256 + c.toNat < 18446744073709551616 := by
        have h1 := ofB_lt (tb.take i)
        have h2 : (tb.take i).length ≤ 7 := by rw [List.length_take]; omega
        have h3 : 256 ^ (tb.take i).length ≤ 256 ^ 7 := Nat.pow_le_pow_right (by decide) h2
        have h4 := c.toNat_lt
        have h5 : (256 : Nat) ^ 7 = 72057594037927936 := by decide
        omega
      have hor := or_byte _ c X HX.out hbd
      have HOR := Lib.hid hor
      have HOF := Lib.hid hof
      clear hcc hc hof hbd hor
      go_wp2_with fail
      rw [HOR.out]
      obtain ⟨X2, hX2⟩ : ∃ X : Int, X = ((ofB (tb.take i) * 256 + c.toNat : Nat) : Int) := ⟨_, rfl⟩
      rw [← hX2]
      have HX2 := Lib.hid hX2
      clear hX2
      go_roundg (tb.length - (i + 1))
      case measure => omega
      case rel => exact ⟨X2, i + 1, rfl, by go_num, by omega, by omega, Lib.hid (by rw [HOF.out]; exact HX2.out), Lib.hid rfl⟩
    · have z1 : ¬ (i : Int) < (tb.length : Int) := by omega
      have ht : tb.take i = tb := List.take_of_length_le (by omega)
      rw [ht] at HX
      clear ht
      go_wp2_with fail
      go_ret
      exact ⟨by show Ending.returned (.int .u64 X) = _; rw [HX.out], HT1.out⟩
theorem conv_bytes {B : Nat} {w : World} {l : List UInt8} {ao : Option Addr} {cap : Nat} (h : BytesAt B w l ao cap) : (convert 38 9 (.slice ao l.length cap)).run Try.prog w = .ok (.string ⟨l.toArray⟩) w := by
  have key : ∀ a, (∀ j (hj : j < l.length), w.cell? ((a : Addr).add j) = some (.int .u8 l[j].toNat)) → (convert 38 9 (.slice (some a) l.length cap)).run Try.prog w = .ok (.string ⟨l.toArray⟩) w := fun a ha =>
    run_convert_bytes_back w _ _ 5 _ cap l Try.underlying38 Try.underlying5 Try.underlying9 ha
  rcases h.2 with h0 | ⟨b, o, rfl, h1, h2⟩
  · cases ao with
    | none =>
      subst h0
      exact run_convert_bytes_nil (P := Try.prog) w 38 5 Try.underlying38 Try.underlying5 0 cap 9 Try.underlying9
    | some a => exact key a fun j hj => by rw [h0] at hj; exact absurd hj (Nat.not_lt_zero _)
  · exact key _ fun j hj => by rw [Addr.add_lit]; exact h2 j hj
def txN (l : List UInt8) : Nat := ofB (tkB 4 l)
def txB (l : List UInt8) : List UInt8 := tkB (txN l) (tkR 4 l)
def txR (l : List UInt8) : List UInt8 := tkR (txN l) (tkR 4 l)
def txS (l : List UInt8) (sh : Bool) : Bool := tkS (txN l) (tkR 4 l) (tkS 4 l sh)
def TextP (B : Nat) (rb : Nat) (l : List UInt8) (sh : Bool) (w : World) (e : Ending) (w' : World) : Prop :=
  (∃ s : ByteArray, e = .returned (.string s) ∧ s = ⟨(txB l).toArray⟩) ∧ Took B w rb (txR l) (txS l sh) w'
end Go.Proofs.Ytbhlgajdoegboaa
namespace Go.Proofs.Ytbhlgajdoegboaa
open Go.RowKit
set_option maxHeartbeats 1600000 in
set_option maxRecDepth 100000 in
theorem text_c (B rb : Nat) (l : List UInt8) (sh : Bool) (w : World) (h : RdAt B w rb l sh) :
    Calls Try.prog 48 #[.pointer (some ⟨rb, 0, none⟩)] w (TextP B rb l sh w) := by
  have hn := number_c 4 (by decide) 4 rfl B rb l sh w h
  have HN := Lib.hid hn
  obtain ⟨s, hs⟩ : ∃ s : ByteArray, s = ⟨(txB l).toArray⟩ := ⟨_, rfl⟩
  have HS := Lib.hid hs
  clear hn h hs
  go_enter Try.func48, Try.ntmps48
  go_wp2_with (first
    | (go_at_call 47; refine HN.out.mono ?_; rintro e w1 ⟨⟨m, rfl, hm⟩, T1⟩; have HM := Lib.hid (show m = (txN l : Nat) from hm); clear hm)
    | (go_at_call 73; refine (take_c (txN l) m HM.out B rb _ _ w1 T1.1).mono ?_; rintro e w2 ⟨ao, cap, rfl, hby, T2⟩; have hcv := conv_bytes hby; change _ = Result.ok (Value.string ⟨(txB l).toArray⟩) _ at hcv; rw [← HS.out] at hcv))
  go_ret
  exact ⟨⟨s, rfl, HS.out⟩, T2.1, T1.2.trans T2.2⟩
end Go.Proofs.Ytbhlgajdoegboaa
namespace Go.Proofs.Ytbhlgajdoegboaa
open Go.RowKit
theorem RdAt.low {B : Nat} {w w' : World} {rb : Nat} {l : List UInt8} {sh : Bool} (h : RdAt B w rb l sh) (hB : B ≤ w.heap.size) (k : Low w w') : RdAt B w' rb l sh :=
  h.to (fun b hb => k.2.2.2 b (by omega)) (k.2.2.2 rb h.lt)
theorem RdAt.kept {B : Nat} {w w' : World} {rb g : Nat} {l : List UInt8} {sh : Bool} (h : RdAt B w rb l sh) (k : KeptBut w w' (some g)) (hg : g ≠ rb) (hgB : B ≤ g) (hB : B ≤ w.heap.size) : RdAt B w' rb l sh :=
  h.to (fun b hb => k.2.2.2 b (by omega) (by simp; omega)) (k.2.2.2 rb h.lt (by simp; omega))
theorem kept_new {w w' : World} {rb : Nat} {c0 c1 c2 c3 c4 c5 c6 c7 : Value} (k : KeptBut (w.alloc (.cells #[c0, c1, c2, c3, c4, c5, c6, c7] 29)) w' (some rb)) (h : rb ≠ w.heap.size) :
    (w'.cell? ⟨w.heap.size, 0, none⟩ = some c0 ∧ w'.cell? ⟨w.heap.size, 1, none⟩ = some c1 ∧ w'.cell? ⟨w.heap.size, 2, none⟩ = some c2 ∧ w'.cell? ⟨w.heap.size, 3, none⟩ = some c3 ∧
    w'.cell? ⟨w.heap.size, 4, none⟩ = some c4 ∧ w'.cell? ⟨w.heap.size, 5, none⟩ = some c5 ∧ w'.cell? ⟨w.heap.size, 6, none⟩ = some c6 ∧ w'.cell? ⟨w.heap.size, 7, none⟩ = some c7) ∧ ∀ o, w'.frozen? ⟨w.heap.size, o, none⟩ = false := by
  have hb : w'.heap[w.heap.size]? = some (.cells #[c0, c1, c2, c3, c4, c5, c6, c7] 29) := by
    rw [k.2.2.2 w.heap.size (by simp) (by simp; omega)]
    exact heap_alloc_new w _
  have key : ∀ (j : Nat) (u : Value), (#[c0, c1, c2, c3, c4, c5, c6, c7] : Array Value)[j]? = some u → w'.cell? ⟨w.heap.size, j, none⟩ = some u := fun j u hu => by
    rw [World.cell?_of_block (w := w.alloc (.cells #[c0, c1, c2, c3, c4, c5, c6, c7] 29)) (w' := w') (a := ⟨w.heap.size, j, none⟩) (hb.trans (heap_alloc_new w _).symm), World.cell?_alloc_mark]
    exact hu
  exact ⟨⟨key 0 _ rfl, key 1 _ rfl, key 2 _ rfl, key 3 _ rfl, key 4 _ rfl, key 5 _ rfl, key 6 _ rfl, key 7 _ rfl⟩, fun o => by simp [World.frozen?, hb]⟩
set_option maxHeartbeats 1600000 in
set_option maxRecDepth 100000 in
theorem value_1 (B rb : Nat) (l : List UInt8) (sh : Bool) (w : World) (h : RdAt B w rb l sh) (hB : B ≤ w.heap.size) (h1 : ofB (tkB 1 l) = 1) :
    Calls Try.prog 27 #[.pointer (some ⟨rb, 0, none⟩)] w fun e w' => e = .returned (.agg #[.int .i64 1, .bool (ofB (tkB 1 (tkR 1 l)) == 1), .int .i64 0, .string ⟨#[]⟩, .string ⟨#[]⟩, .string ⟨#[]⟩, .slice none 0 0, .slice none 0 0]) ∧ Took B w rb (tkR 1 (tkR 1 l)) (tkS 1 (tkR 1 l) (tkS 1 l sh)) w' := by
  have hrb := h.lt
  have R0 := Lib.hid (h.low hB (Low.alloc (Low.refl w) (.cells #[.int .i64 0, .bool false, .int .i64 0, .string ⟨#[]⟩, .string ⟨#[]⟩, .string ⟨#[]⟩, .slice none 0 0, .slice none 0 0] 29)))
  have N1 := Lib.hid (number_c 1 (by decide) 1 rfl B rb l sh _ R0.out)
  have H1 := Lib.hid h1
  clear h h1
  go_enter Try.func27, Try.ntmps27
  obtain ⟨q, hq⟩ : ∃ q : Nat, q = ofB (tkB 1 (tkR 1 l)) := ⟨_, rfl⟩
  rw [← hq]
  have HQ := Lib.hid hq
  clear hq
  go_wp2_with (first
    | ((fail_if_success (have := T1)); go_at_call 47; refine N1.out.mono ?_; rintro e w1 ⟨⟨m, rfl, hm⟩, T1⟩; obtain rfl : m = 1 := (by rw [hm, H1.out]; rfl); clear hm; have s1 : w.heap.size + 1 + 1 ≤ w1.heap.size + 1 := (by have := T1.2.2.2.1; simp at this; omega); have R2 := T1.1.low (by omega) (Low.alloc (Low.refl w1) (.cells #[.int .i64 1, .bool false, .int .i64 0, .string ⟨#[]⟩, .string ⟨#[]⟩, .string ⟨#[]⟩, .slice none 0 0, .slice none 0 0] 29)))
    | (go_at_call 47; refine (number_c 1 (by decide) 1 rfl B rb _ _ _ R2).mono ?_; rintro e w2 ⟨⟨m, rfl, hm⟩, T2⟩; rw [← HQ.out] at hm; have HM := Lib.hid hm; clear hm; obtain ⟨⟨c0, c1, c2, c3, c4, c5, c6, c7⟩, fz⟩ := kept_new T2.2 (by omega); obtain ⟨⟨d0, d1, d2, d3, d4, d5, d6, d7⟩, fy⟩ := kept_new (T1.2.trans ((KeptBut.of_low (Low.alloc (Low.refl w1) _)).trans T2.2)) (by omega); have fz1 := fz 1; have g0 := fy 0; have g1 := fy 1; have g2 := fy 2; have g3 := fy 3; have g4 := fy 4; have g5 := fy 5; have g6 := fy 6; have g7 := fy 7))
  refine bodyPost_ret (v := .agg #[.int .i64 1, .bool (m == 1), .int .i64 0, .string ⟨#[]⟩, .string ⟨#[]⟩, .string ⟨#[]⟩, .slice none 0 0, .slice none 0 0]) (by simp [results, Try.results27, go_sem, World.cell?_setCell_same', d0, d1, d2, d3, d4, d5, d6, d7]; try rfl) rfl ?_
  have s2 := T2.2.2.2.1
  have s3 : w1.heap.size + 1 ≤ w2.heap.size := by simpa using s2
  have K1 : KeptBut w w2 (some rb) := ((KeptBut.of_low (Low.alloc (Low.refl w) _)).trans T1.2).trans ((KeptBut.of_low (Low.alloc (Low.refl w1) _)).trans T2.2)
  have k2 := kept_setCell w2 w1.heap.size 1 (.bool (m == 1))
  have k8 := kept8 (w2.setCell ⟨w1.heap.size, 1, none⟩ (.bool (m == 1))) w.heap.size (.int .i64 1) (.bool (m == 1)) (.int .i64 0) (.string ⟨#[]⟩) (.string ⟨#[]⟩) (.string ⟨#[]⟩) (.slice none 0 0) (.slice none 0 0)
  refine ⟨?_, ?_, ?_⟩
  · have e : (m == 1) = (q == 1) := by rw [HM.out]; rw [Bool.eq_iff_iff]; simp; omega
    rw [e]
  · exact (T2.1.kept k2 (by omega) (by omega) (by omega)).kept k8 (by omega) (by omega) (by have := k2.2.2.1; omega)
  · exact (K1.more k2 fun g hg => by simp at hg; omega).more k8 fun g hg => by simp at hg; omega
end Go.Proofs.Ytbhlgajdoegboaa
