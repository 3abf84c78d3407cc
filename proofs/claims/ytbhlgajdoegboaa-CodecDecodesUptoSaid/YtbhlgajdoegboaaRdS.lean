/- What codec.reader's value answers, whatever lies there; where no items are read. Condition: no more than 65536 bytes. -/
import Derived.Test.YtbhlgajdoegboaaRdV
import Derived.Test.YtbhlgajdoegboaaLongA
import Derived.Test.YtbhlgajdoegboaaOpenB
namespace Go.Proofs.Ytbhlgajdoegboaa
open Go.RowKit
/-- What is answered: some tree; the one whose bytes lie there, if they do. -/
def VP (B rb : Nat) (l : List UInt8) (sh : Bool) (w : World) (e : Ending) (w' : World) : Prop :=
  ∃ (x : V) (ai : Option Addr) (ci : Nat) (an : Option Addr) (cn : Nat) (l' : List UInt8) (sh' : Bool),
    e = .returned (.agg #[.int .i64 x.h.k, .bool x.h.b, .int .i64 x.h.n, .string x.h.s, .string x.h.t, .string x.h.i, .slice ai x.l.length ci, .slice an x.ns.length cn]) ∧
    Rep (fun b => w.heap.size ≤ b) w' x (.slice ai x.l.length ci) (.slice an x.ns.length cn) ∧ Took B w rb l' sh' w' ∧ (Sm x ∧ Iv x) ∧
    (l'.length ≤ l.length ∧ vb x + 20 * l'.length ≤ 20 * l.length + 8 ∧ (l ≠ [] → vb x + 20 * l'.length ≤ 20 * l.length ∧ l'.length < l.length) ∧ (l = [] → sh' = true)) ∧
    ∀ c t, l = lay c ++ t → Cn c → Iv c → x = c ∧ l' = t ∧ sh' = sh
theorem tk_len (k : Nat) (l : List UInt8) : (tkB k l).length + (tkR k l).length ≤ l.length := by
  unfold tkB tkR
  split
  · rw [List.length_take, List.length_drop]; omega
  · simp
theorem tx_len (l : List UInt8) : (txB l).length + (txR l).length ≤ l.length := by
  have h1 := tk_len 4 l
  have h2 := tk_len (txN l) (tkR 4 l)
  unfold txB txR
  omega
theorem kind_of {c : V} {t l : List UInt8} (hc : Cn c) (h : l = lay c ++ t) : ((ofB (tkB 1 l) : Nat) : Int) = c.h.k ∧ tkR 1 l = layR c ++ t ∧ ∀ sh, tkS 1 l sh = sh := by
  have hk : 1 ≤ c.h.k ∧ c.h.k ≤ 6 := by
    rcases cn_v.1 hc with ⟨e, -⟩ | ⟨e, -⟩ | ⟨e, -⟩ | ⟨e, -⟩ | ⟨e, -⟩ | ⟨e, -⟩ <;> rw [kd e] <;> decide
  have e : l = be 1 c.h.k.toNat ++ (layR c ++ t) := by rw [h, lay_v, List.append_assoc]
  refine ⟨?_, by rw [e, tkR_app (be_len _ _)], fun sh => by rw [e, tkS_app (be_len _ _)]⟩
  rw [e, tkB_app (be_len _ _), ofB_be (by omega)]
  omega
theorem nil_of {l : List UInt8} (h : ofB (tkB 1 l) ≠ 0) : l ≠ [] := fun e => h (by subst e; rfl)
theorem step_len {l : List UInt8} (h : l ≠ []) : (tkR 1 l).length + 1 = l.length := by
  cases l with
  | nil => exact absurd rfl h
  | cons a l => simp [tkR]
theorem rep_flat (A : Nat → Prop) (w : World) (h : Hd) (hb : Bh h) : Rep A w (.mk h [] []) (.slice none 0 0) (.slice none 0 0) :=
  rep_v.2 ⟨hb, ⟨none, 0, rfl, Nat.zero_le _, fun x hx => absurd hx (by simp [V.ns]), .inl rfl⟩, none, 0, rfl, ⟨Nat.le_refl _, Nat.zero_le _⟩, .inl rfl⟩
theorem sm_flat (h : Hd) : Sm (.mk h [] []) := (sm_v _).2 ⟨Nat.zero_le _, Nat.zero_le _, fun x hx => absurd hx (by simp [V.l])⟩
theorem iv_flat {h : Hd} (hn : -9223372036854775808 ≤ h.n ∧ h.n ≤ 9223372036854775807) : Iv (.mk h [] []) := iv_v.2 ⟨hn, fun x hx => absurd hx (by simp [V.l])⟩
theorem vb_flat (h : Hd) : vb (.mk h [] []) = 8 + h.s.size + h.t.size + h.i.size := by rw [vb]; simp [vbL, nbL]
theorem size_of (l : List UInt8) : (⟨l.toArray⟩ : ByteArray).size = l.length := rfl
theorem iv_zero : -9223372036854775808 ≤ (0 : Int) ∧ (0 : Int) ≤ 9223372036854775807 := by decide
theorem cost_flat {l l' : List UInt8} {h : Hd} {sh' : Bool} (hl : l ≠ []) (hc : h.s.size + h.t.size + h.i.size + l'.length ≤ (tkR 1 l).length) :
    l'.length ≤ l.length ∧ vb (.mk h [] []) + 20 * l'.length ≤ 20 * l.length + 8 ∧ (l ≠ [] → vb (.mk h [] []) + 20 * l'.length ≤ 20 * l.length ∧ l'.length < l.length) ∧ (l = [] → sh' = true) := by
  have h1 := step_len hl
  have h2 := vb_flat h
  exact ⟨by omega, by omega, fun _ => ⟨by omega, by omega⟩, fun e => absurd e hl⟩
theorem vp_1 {B rb : Nat} {l : List UInt8} {sh : Bool} {w : World} (h : RdAt B w rb l sh) (hB : B ≤ w.heap.size) (_ : l.length ≤ 65536) (h1 : ofB (tkB 1 l) = 1) : Calls Try.prog 27 #[.pointer (some ⟨rb, 0, none⟩)] w (VP B rb l sh w) := by
  refine (value_1 B rb l sh w h hB h1).mono fun e w' ⟨he, ht⟩ => ?_
  have hl := nil_of (l := l) (by omega)
  have hs := step_len hl
  have h3 := tkR_len 1 (tkR 1 l)
  have h3' : 0 + 0 + 0 + (tkR 1 (tkR 1 l)).length ≤ (tkR 1 l).length := by omega
  refine ⟨tV (ofB (tkB 1 (tkR 1 l)) == 1), none, 0, none, 0, _, _, he, rep_flat _ _ _ ⟨Nat.zero_le _, Nat.zero_le _, Nat.zero_le _⟩, ht, ⟨sm_flat _, iv_flat iv_zero⟩, cost_flat hl ?_, ?_⟩
  · exact h3'
  · intro c t hl hc hi
    obtain ⟨k1, k2, k3⟩ := kind_of hc hl
    rw [h1] at k1
    rcases cn_v.1 hc with ⟨e, el, en⟩ | ⟨e, el, en⟩ | ⟨e, el, en⟩ | ⟨e, el, en⟩ | ⟨e, -⟩ | ⟨e, -⟩
    · have hR : layR c = be 1 (if c.h.b then 1 else 0) := by
        unfold layR
        rw [if_pos (kd e)]
      rw [k2, hR, k3, tkB_app (be_len _ _), tkR_app (be_len _ _), tkS_app (be_len _ _)]
      refine ⟨v_ext ?_ el.symm en.symm, rfl, rfl⟩
      rw [e]
      cases c.h.b <;> rfl
    · have := kd e; omega
    · have := kd e; omega
    · have := kd e; omega
    · have := kd e; omega
    · have := kd e; omega
theorem wrap64_range (n : Int) : -9223372036854775808 ≤ wrap64 n ∧ wrap64 n ≤ 9223372036854775807 := by unfold wrap64; omega
theorem vp_2 {B rb : Nat} {l : List UInt8} {sh : Bool} {w : World} (h : RdAt B w rb l sh) (hB : B ≤ w.heap.size) (_ : l.length ≤ 65536) (h1 : ofB (tkB 1 l) = 2) : Calls Try.prog 27 #[.pointer (some ⟨rb, 0, none⟩)] w (VP B rb l sh w) := by
  refine (value_2 B rb l sh w h hB h1 (wrap64 ((ofB (tkB 8 (tkR 1 l)) : Nat) : Int)) rfl).mono fun e w' ⟨he, ht⟩ => ?_
  have hl := nil_of (l := l) (by omega)
  have hs := step_len hl
  have h3 := tkR_len 8 (tkR 1 l)
  have h3' : 0 + 0 + 0 + (tkR 8 (tkR 1 l)).length ≤ (tkR 1 l).length := by omega
  refine ⟨.mk { hd0 with k := 2, n := wrap64 ((ofB (tkB 8 (tkR 1 l)) : Nat) : Int) } [] [], none, 0, none, 0, _, _, he, rep_flat _ _ _ ⟨Nat.zero_le _, Nat.zero_le _, Nat.zero_le _⟩, ht, ⟨sm_flat _, iv_flat (wrap64_range _)⟩, cost_flat hl ?_, ?_⟩
  · exact h3'
  · intro c t hl hc hi
    obtain ⟨k1, k2, k3⟩ := kind_of hc hl
    rw [h1] at k1
    rcases cn_v.1 hc with ⟨e, el, en⟩ | ⟨e, el, en⟩ | ⟨e, el, en⟩ | ⟨e, el, en⟩ | ⟨e, -⟩ | ⟨e, -⟩
    · have := kd e; omega
    · have hR : layR c = be 8 (c.h.n % 18446744073709551616).toNat := by
        unfold layR
        rw [if_neg (by rw [kd e]; decide), if_pos (kd e)]
      have hn := (iv_v.1 hi).1
      have hw : wrap64 (((c.h.n % 18446744073709551616).toNat : Nat) : Int) = c.h.n := by unfold wrap64; omega
      rw [k2, hR, k3, tkB_app (be_len _ _), tkR_app (be_len _ _), tkS_app (be_len _ _), ofB_be (by have q : (256 : Nat) ^ 8 = 18446744073709551616 := (by decide); omega), hw]
      refine ⟨v_ext ?_ el.symm en.symm, rfl, rfl⟩
      rw [e]
      rfl
    · have := kd e; omega
    · have := kd e; omega
    · have := kd e; omega
    · have := kd e; omega
theorem vp_3 {B rb : Nat} {l : List UInt8} {sh : Bool} {w : World} (h : RdAt B w rb l sh) (hB : B ≤ w.heap.size) (hlen : l.length ≤ 65536) (h1 : ofB (tkB 1 l) = 3) : Calls Try.prog 27 #[.pointer (some ⟨rb, 0, none⟩)] w (VP B rb l sh w) := by
  refine (value_3 B rb l sh w h hB h1 _ rfl).mono fun e w' ⟨he, ht⟩ => ?_
  have hl := nil_of (l := l) (by omega)
  have hs := step_len hl
  have h3 := tx_len (tkR 1 l)
  have h3' : (txB (tkR 1 l)).length + 0 + 0 + (txR (tkR 1 l)).length ≤ (tkR 1 l).length := by omega
  refine ⟨xV ⟨(txB (tkR 1 l)).toArray⟩, none, 0, none, 0, _, _, he, rep_flat _ _ _ ⟨(by show (txB (tkR 1 l)).length ≤ _; omega), Nat.zero_le _, Nat.zero_le _⟩, ht, ⟨sm_flat _, iv_flat iv_zero⟩, cost_flat hl ?_, ?_⟩
  · exact h3'
  · intro c t hl hc hi
    obtain ⟨k1, k2, k3⟩ := kind_of hc hl
    rw [h1] at k1
    rcases cn_v.1 hc with ⟨e, el, en⟩ | ⟨e, el, en⟩ | ⟨e, el, en⟩ | ⟨e, el, en⟩ | ⟨e, -⟩ | ⟨e, -⟩
    · have := kd e; omega
    · have := kd e; omega
    · have hR : layR c = layT c.h.s := by
        unfold layR
        rw [if_neg (by rw [kd e]; decide), if_neg (by rw [kd e]; decide), if_pos (kd e)]
      have hz : c.h.s.size < 4294967296 := by
        have q := congrArg List.length hl
        rw [List.length_append, lay_v, hR, List.length_append, layT_len] at q
        omega
      obtain ⟨q1, q2, q3⟩ := tx_layT c.h.s hz t (tkS 1 l sh)
      rw [k2, hR, q1, q2, q3, k3]
      refine ⟨v_ext ?_ el.symm en.symm, rfl, rfl⟩
      rw [e]
      rfl
    · have := kd e; omega
    · have := kd e; omega
    · have := kd e; omega
theorem vp_4 {B rb : Nat} {l : List UInt8} {sh : Bool} {w : World} (h : RdAt B w rb l sh) (hB : B ≤ w.heap.size) (hlen : l.length ≤ 65536) (h1 : ofB (tkB 1 l) = 4) : Calls Try.prog 27 #[.pointer (some ⟨rb, 0, none⟩)] w (VP B rb l sh w) := by
  obtain ⟨a, ha⟩ : ∃ a : ByteArray, a = ⟨(txB (tkR 1 l)).toArray⟩ := ⟨_, rfl⟩
  obtain ⟨b, hb⟩ : ∃ b : ByteArray, b = ⟨(txB (txR (tkR 1 l))).toArray⟩ := ⟨_, rfl⟩
  have za : a.size = (txB (tkR 1 l)).length := by rw [ha]; rfl
  have zb : b.size = (txB (txR (tkR 1 l))).length := by rw [hb]; rfl
  refine (value_4 B rb l sh w h hB h1 a b ha hb).mono fun e w' ⟨he, ht⟩ => ?_
  have hl := nil_of (l := l) (by omega)
  have hs := step_len hl
  have h3 := tx_len (tkR 1 l)
  have h4 := tx_len (txR (tkR 1 l))
  have h3' : 0 + a.size + b.size + (txR (txR (tkR 1 l))).length ≤ (tkR 1 l).length := by omega
  refine ⟨.mk { hd0 with k := 4, t := a, i := b } [] [], none, 0, none, 0, _, _, he, rep_flat _ _ _ ⟨Nat.zero_le _, (by show a.size ≤ _; omega), (by show b.size ≤ _; omega)⟩, ht, ⟨sm_flat _, iv_flat iv_zero⟩, cost_flat hl ?_, ?_⟩
  · exact h3'
  · intro c t hl hc hi
    obtain ⟨k1, k2, k3⟩ := kind_of hc hl
    rw [h1] at k1
    rcases cn_v.1 hc with ⟨e, el, en⟩ | ⟨e, el, en⟩ | ⟨e, el, en⟩ | ⟨e, el, en⟩ | ⟨e, -⟩ | ⟨e, -⟩
    · have := kd e; omega
    · have := kd e; omega
    · have := kd e; omega
    · have hR : layR c = layT c.h.t ++ layT c.h.i := by
        unfold layR
        rw [if_neg (by rw [kd e]; decide), if_neg (by rw [kd e]; decide), if_neg (by rw [kd e]; decide), if_pos (kd e)]
      have hz : c.h.t.size < 4294967296 ∧ c.h.i.size < 4294967296 := by
        have q := congrArg List.length hl
        rw [List.length_append, lay_v, hR, List.length_append, List.length_append, layT_len, layT_len] at q
        omega
      obtain ⟨q1, q2, q3⟩ := tx_layT c.h.t hz.1 (layT c.h.i ++ t) (tkS 1 l sh)
      obtain ⟨p1, p2, p3⟩ := tx_layT c.h.i hz.2 t (tkS 1 l sh)
      have e1 : a = c.h.t := by rw [ha, k2, hR, List.append_assoc, q1]
      have e2 : b = c.h.i := by rw [hb, k2, hR, List.append_assoc, q2, p1]
      rw [k2, hR, List.append_assoc, q2, q3, p2, p3, k3, e1, e2]
      refine ⟨v_ext ?_ el.symm en.symm, rfl, rfl⟩
      rw [e]
      rfl
    · have := kd e; omega
    · have := kd e; omega
theorem vp_0 {B rb : Nat} {l : List UInt8} {sh : Bool} {w : World} (h : RdAt B w rb l sh) (hB : B ≤ w.heap.size) (h1 : ofB (tkB 1 l) = 0 ∨ 6 < ofB (tkB 1 l)) : Calls Try.prog 27 #[.pointer (some ⟨rb, 0, none⟩)] w (VP B rb l sh w) := by
  obtain ⟨m, hm⟩ : ∃ m : Int, m = ((ofB (tkB 1 l) : Nat) : Int) := ⟨_, rfl⟩
  refine (value_0 B rb l sh w h hB m hm (by omega)).mono fun e w' ⟨he, ht⟩ => ?_
  have hv := vb_flat { hd0 with k := m }
  have e0 : (⟨#[]⟩ : ByteArray).size = 0 := rfl
  simp only [hd0, e0] at hv
  have h3 := tkR_len 1 l
  refine ⟨.mk { hd0 with k := m } [] [], none, 0, none, 0, _, _, he, rep_flat _ _ _ ⟨Nat.zero_le _, Nat.zero_le _, Nat.zero_le _⟩, ht, ⟨sm_flat _, iv_flat iv_zero⟩, ⟨h3, ?_, fun hl => ?_, fun hl => by subst hl; rfl⟩, ?_⟩
  · simp only [hd0]
    omega
  · have := step_len hl
    simp only [hd0]
    exact ⟨by omega, by omega⟩
  · intro c t hl hc hi
    obtain ⟨k1, k2, k3⟩ := kind_of hc hl
    rcases cn_v.1 hc with ⟨e, -⟩ | ⟨e, -⟩ | ⟨e, -⟩ | ⟨e, -⟩ | ⟨e, -⟩ | ⟨e, -⟩
    all_goals
      have := kd e
      omega
end Go.Proofs.Ytbhlgajdoegboaa
