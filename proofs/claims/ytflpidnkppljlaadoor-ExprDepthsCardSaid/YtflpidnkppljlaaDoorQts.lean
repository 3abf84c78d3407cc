/- Plain texts in quotes. No condition. Plain texts out of quotes. No condition. Plain texts out of quotes, more: what a strict reading, byte by byte, comes to. No condition. The small tests of bytes: texts.marked, texts.printed. No condition. -/
import Derived.WalkKit
import Derived.Test.YtflpidnkppljlaaDoorNms
set_option linter.unusedVariables false
set_option linter.unnecessarySimpa false
set_option linter.unusedSimpArgs false
namespace Go.Proofs.YtflpidnkppljlaaDoor
def markB (c : UInt8) : Bool := c == 34 || c == 92
def prinB (c : UInt8) : Bool := decide (32 ≤ (c.toNat : Int) ∧ (c.toNat : Int) ≤ 126)
def hexN (n : Nat) : UInt8 := if n < 10 then UInt8.ofNat (48 + n) else UInt8.ofNat (87 + n)
def quo1 (c : UInt8) : List UInt8 := if markB c = true then [92, c] else if prinB c = true then [c] else [92, 120, hexN (c.toNat / 16), hexN (c.toNat % 16)]
def quoI (l : List UInt8) : List UInt8 := l.flatMap quo1
def quoteL (l : List UInt8) : List UInt8 := 34 :: (quoI l ++ [34])
theorem quo1_mark {c : UInt8} (h : markB c = true) : quo1 c = [92, c] := if_pos h
theorem quo1_plain {c : UInt8} (h : markB c = false) (h2 : prinB c = true) : quo1 c = [c] := by unfold quo1; rw [if_neg (by simp [h]), if_pos h2]
theorem quo1_hex {c : UInt8} (h : markB c = false) (h2 : prinB c = false) : quo1 c = [92, 120, hexN (c.toNat / 16), hexN (c.toNat % 16)] := by unfold quo1; rw [if_neg (by simp [h]), if_neg (by simp [h2])]
theorem quo1_len (c : UInt8) : (quo1 c).length ≤ 4 := by
  unfold quo1; repeat' split
  all_goals simp
theorem quoI_len (l : List UInt8) : (quoI l).length ≤ 4 * l.length := by
  induction l with
  | nil => simp [quoI]
  | cons c r ih => unfold quoI at *; rw [List.flatMap_cons, List.length_append, List.length_cons]; have := quo1_len c; omega
theorem quoI_take {l : List UInt8} {k : Nat} (h : k < l.length) : quoI (l.take (k + 1)) = quoI (l.take k) ++ quo1 l[k] := by
  rw [List.take_succ_eq_append_getElem h]; unfold quoI; rw [List.flatMap_append]; simp
theorem quoI_take_len (l : List UInt8) (k : Nat) : (quoI (l.take k)).length ≤ 4 * l.length := Nat.le_trans (quoI_len _) (by rw [List.length_take]; omega)
theorem quoI_cons (c : UInt8) (l : List UInt8) : quoI (c :: l) = quo1 c ++ quoI l := rfl
theorem quoI_append (a b : List UInt8) : quoI (a ++ b) = quoI a ++ quoI b := by simp [quoI]
theorem hexN_at : ∀ n : Fin 16, (ByteArray.mk #[48, 49, 50, 51, 52, 53, 54, 55, 56, 57, 97, 98, 99, 100, 101, 102])[n.val]'(by show n.val < 16; exact n.isLt) = hexN n.val := by decide
theorem and15 (c : UInt8) : Go.bits .and .u8 (c.toNat : Int) 15 = (c.toNat : Int) % 16 := by
  have h : ∀ n : Fin 256, Go.bits .and .u8 (n.val : Int) 15 = (n.val : Int) % 16 := by decide +kernel
  exact h ⟨c.toNat, c.toNat_lt⟩
end Go.Proofs.YtflpidnkppljlaaDoor
namespace Go.Proofs.YtflpidnkppljlaaDoor
/-- A small hexadecimal digit's number; 16: it is none. -/
def hexV (c : UInt8) : Nat := if 48 ≤ c.toNat ∧ c.toNat ≤ 57 then c.toNat - 48 else if 97 ≤ c.toNat ∧ c.toNat ≤ 102 then c.toNat - 87 else 16
theorem hexV_le (c : UInt8) : hexV c ≤ 16 := by
  unfold hexV; repeat' split
  all_goals omega
def hexB (a b : UInt8) : UInt8 := UInt8.ofNat (16 * hexV a + hexV b)
theorem hexB_nat {a b : UInt8} (ha : hexV a < 16) (hb : hexV b < 16) : (hexB a b).toNat = 16 * hexV a + hexV b := by unfold hexB; simp; omega
theorem hexN_v (n : Nat) (h : n < 16) : hexV (hexN n) = n := by
  have : ∀ m : Fin 16, hexV (hexN m.val) = m.val := by decide
  exact this ⟨n, h⟩
theorem hexV_n (c : UInt8) (h : hexV c < 16) : hexN (hexV c) = c := by
  have : ∀ m : Fin 256, hexV (UInt8.ofNat m.val) < 16 → hexN (hexV (UInt8.ofNat m.val)) = UInt8.ofNat m.val := by decide +kernel
  have e : UInt8.ofNat c.toNat = c := by simp
  have := this ⟨c.toNat, c.toNat_lt⟩
  simp only [e] at this
  exact this h
/-- The strict reading of one byte. -/
def fstL (l : List UInt8) : Option (UInt8 × Nat) := match l with
  | [] => none
  | c :: r =>
    if c == 92 then
      match r with
      | [] => none
      | d :: r2 =>
        if markB d = true then some (d, 2)
        else match r2 with
          | a :: b :: _ => if d == 120 && decide (hexV a < 16) && decide (hexV b < 16) && !prinB (hexB a b) then some (hexB a b, 4) else none
          | _ => none
    else if c == 34 || !prinB c then none else some (c, 1)
/-- The loose reading of one byte: what isn't understood stands for itself. -/
def looL (c : UInt8) (r : List UInt8) : UInt8 × Nat :=
  if c == 92 then
    match r with
    | d :: r2 => if markB d = true then (d, 2) else match r2 with
      | a :: b :: _ => if d == 120 && decide (hexV a < 16) && decide (hexV b < 16) then (hexB a b, 4) else (c, 1)
      | _ => (c, 1)
    | [] => (c, 1)
  else (c, 1)
theorem looL_pos (c : UInt8) (r : List UInt8) : 1 ≤ (looL c r).2 := by
  unfold looL; repeat' split
  all_goals simp
def looF : Nat → List UInt8 → List UInt8
  | 0, _ => []
  | _, [] => []
  | n + 1, c :: r => (looL c r).1 :: looF n ((c :: r).drop (looL c r).2)
theorem looF_more : ∀ (n : Nat) (l : List UInt8), l.length ≤ n → looF n l = looF l.length l := by
  intro n
  induction n using Nat.strongRecOn with
  | ind n ih =>
    intro l hl
    match n, l with
    | 0, [] => rfl
    | n + 1, [] => rfl
    | n + 1, c :: r =>
      have hp := looL_pos c r
      have hd : ((c :: r).drop (looL c r).2).length ≤ r.length := by rw [List.length_drop]; simp; omega
      simp only [List.length_cons] at hl
      rw [List.length_cons, looF, looF, ih n (by omega) _ (by omega)]
      rcases Nat.lt_or_ge r.length (n + 1) with h | h
      · rw [ih r.length (by omega) _ hd]
      · omega
def loo (l : List UInt8) : List UInt8 := looF l.length l
theorem loo_nil : loo [] = [] := rfl
theorem loo_cons (c : UInt8) (r : List UInt8) : loo (c :: r) = (looL c r).1 :: loo ((c :: r).drop (looL c r).2) := by
  have hp := looL_pos c r
  unfold loo
  rw [List.length_cons, looF, looF_more]
  rw [List.length_drop]; simp; omega
/-- One byte of a quote is read as that byte. -/
theorem looL_quo (c : UInt8) (r : List UInt8) : ∃ d r', quo1 c ++ r = d :: r' ∧ looL d r' = (c, (quo1 c).length) := by
  cases hm : markB c with
  | true => rw [quo1_mark hm]; exact ⟨92, c :: r, rfl, by simp [looL, hm]⟩
  | false =>
    cases hp : prinB c with
    | true =>
      rw [quo1_plain hm hp]
      refine ⟨c, r, rfl, ?_⟩
      have : (c == 92) = false := by unfold markB at hm; simp at hm; simpa using hm.2
      simp [looL, this]
    | false =>
      rw [quo1_hex hm hp]
      refine ⟨92, 120 :: hexN (c.toNat / 16) :: hexN (c.toNat % 16) :: r, rfl, ?_⟩
      have h1 := hexN_v (c.toNat / 16) (by have := c.toNat_lt; omega)
      have h2 := hexN_v (c.toNat % 16) (by omega)
      have h3 : 16 * (c.toNat / 16) + c.toNat % 16 = c.toNat := by omega
      have l1 : c.toNat / 16 < 16 := by have := c.toNat_lt; omega
      have l2 : c.toNat % 16 < 16 := by omega
      have m120 : markB 120 = false := by decide
      have h4 : hexB (hexN (c.toNat / 16)) (hexN (c.toNat % 16)) = c := by unfold hexB; rw [h1, h2, h3]; simp
      simp [looL, m120, h1, h2, h4, l1, l2]
theorem loo_quo (t : List UInt8) : loo (quoI t) = t := by
  induction t with
  | nil => rfl
  | cons c r ih =>
    rw [quoI_cons]
    obtain ⟨d, r', e, hl⟩ := looL_quo c (quoI r)
    have hd : (d :: r').drop (quo1 c).length = quoI r := by rw [← e]; simp
    rw [e, loo_cons, hl, hd, ih]
/-- What is strictly read of a quote's beginning is that byte. -/
theorem fst_quo (c : UInt8) (r : List UInt8) : fstL (quo1 c ++ r) = some (c, (quo1 c).length) := by
  cases hm : markB c with
  | true => rw [quo1_mark hm]; simp [fstL, hm]
  | false =>
    cases hp : prinB c with
    | true =>
      rw [quo1_plain hm hp]
      unfold markB at hm; simp at hm
      simp [fstL, hm, hp]
    | false =>
      rw [quo1_hex hm hp]
      have h1 := hexN_v (c.toNat / 16) (by have := c.toNat_lt; omega)
      have h2 := hexN_v (c.toNat % 16) (by omega)
      have h3 : 16 * (c.toNat / 16) + c.toNat % 16 = c.toNat := by omega
      have l1 : c.toNat / 16 < 16 := by have := c.toNat_lt; omega
      have l2 : c.toNat % 16 < 16 := by omega
      have m120 : markB 120 = false := by decide
      have h4 : hexB (hexN (c.toNat / 16)) (hexN (c.toNat % 16)) = c := by unfold hexB; rw [h1, h2, h3]; simp
      simp [fstL, m120, h1, h2, h4, l1, l2, hp]
/-- What is strictly read is a quote's beginning. -/
theorem fst_back {l : List UInt8} {c : UInt8} {n : Nat} (h : fstL l = some (c, n)) : l.take n = quo1 c ∧ 1 ≤ n ∧ n ≤ l.length := by
  match l with
  | [] => simp [fstL] at h
  | d :: r =>
    unfold fstL at h
    simp only at h
    split at h
    · rename_i h92
      have h92 : d = 92 := by simpa using h92
      subst h92
      match r with
      | [] => simp at h
      | e :: r2 =>
        simp only at h
        split at h
        · rename_i hm
          simp at h
          obtain ⟨rfl, rfl⟩ := h
          exact ⟨by rw [quo1_mark hm]; rfl, by omega, by simp⟩
        · rename_i hm
          match r2 with
          | [] => simp at h
          | [_] => simp at h
          | a :: b :: r3 =>
            simp only at h
            split at h
            · rename_i hc
              simp at hc
              obtain ⟨⟨⟨rfl, ha⟩, hb⟩, hp⟩ := hc
              simp at h
              obtain ⟨hc, rfl⟩ := h
              have hl : 16 * hexV a + hexV b < 256 := by omega
              have ht := hexB_nat ha hb
              have hmk : markB (hexB a b) = false := by
                cases hmm : markB (hexB a b) with
                | false => rfl
                | true =>
                  exfalso
                  have : prinB (hexB a b) = true := by
                    unfold markB at hmm
                    simp only [Bool.or_eq_true, beq_iff_eq] at hmm
                    rcases hmm with e | e <;> rw [e] <;> decide
                  rw [hp] at this; exact absurd this (by decide)
              rw [← hc]
              refine ⟨?_, by omega, by simp⟩
              have hd : (16 * hexV a + hexV b) / 16 = hexV a := by omega
              have hr : (16 * hexV a + hexV b) % 16 = hexV b := by omega
              rw [quo1_hex hmk hp, ht, hd, hr, hexV_n a ha, hexV_n b hb]; rfl
            · simp at h
    · split at h
      · simp at h
      · rename_i h1 h2
        simp at h h1 h2
        obtain ⟨rfl, rfl⟩ := h
        refine ⟨?_, by omega, by simp⟩
        have hm : markB d = false := by unfold markB; simp [h1, h2]
        rw [quo1_plain hm h2.2]; rfl
end Go.Proofs.YtflpidnkppljlaaDoor
namespace Go.Proofs.YtflpidnkppljlaaDoor
/-- What stands between the first and the last byte. -/
def midL (s : List UInt8) : List UInt8 := (s.drop 1).dropLast
def unqL (s : List UInt8) : Option (List UInt8) := if quoteL (loo (midL s)) = s then some (loo (midL s)) else none
def unqT (s : List UInt8) : List UInt8 := (unqL s).getD []
def unqE (s : List UInt8) : Int := if (unqL s).isSome then 0 else 10
theorem mid_quote (t : List UInt8) : midL (quoteL t) = quoI t := by simp [midL, quoteL]
theorem unq_some {s t : List UInt8} (h : quoteL t = s) : unqL s = some t := by
  unfold unqL
  rw [← h, mid_quote, loo_quo, if_pos rfl]
theorem unq_none {s : List UInt8} (h : ∀ t, quoteL t ≠ s) : unqL s = none := if_neg (h _)
theorem unq_back {s t : List UInt8} (h : unqL s = some t) : quoteL t = s := by
  unfold unqL at h
  split at h
  · simp at h; rw [← h]; assumption
  · simp at h
theorem unqT_some {s t : List UInt8} (h : quoteL t = s) : unqT s = t ∧ unqE s = 0 := by unfold unqT unqE; rw [unq_some h]; exact ⟨rfl, rfl⟩
theorem unqT_none {s : List UInt8} (h : ∀ t, quoteL t ≠ s) : unqT s = [] ∧ unqE s = 10 := by unfold unqT unqE; rw [unq_none h]; exact ⟨rfl, rfl⟩
theorem quote_parts {s : List UInt8} (h : 2 ≤ s.length) (h0 : s.head? = some 34) (h1 : s.getLast? = some 34) : s = 34 :: (midL s ++ [34]) := by
  match s, h with
  | c :: d :: r, _ =>
    simp at h0
    have : (c :: d :: r).getLast? = (d :: r).getLast? := by simp
    rw [this] at h1
    have hd : midL (c :: d :: r) = (d :: r).dropLast := rfl
    rw [hd, h0]
    congr 1
    have hne : d :: r ≠ [] := by simp
    rw [List.getLast?_eq_some_getLast hne] at h1
    have h1 : (d :: r).getLast hne = 34 := by simpa using h1
    have := List.dropLast_concat_getLast hne
    rw [h1] at this
    exact this.symm
theorem quote_iff {s : List UInt8} (h : s = 34 :: (midL s ++ [34])) (t : List UInt8) : quoteL t = s ↔ quoI t = midL s := by
  constructor
  · intro e; rw [← e, mid_quote]
  · intro e; rw [h]; unfold quoteL; rw [e]
theorem quote_ends (t s : List UInt8) (h : quoteL t = s) : 2 ≤ s.length ∧ s.head? = some 34 ∧ s.getLast? = some 34 := by
  subst h
  unfold quoteL
  refine ⟨by simp, rfl, ?_⟩
  rw [← List.cons_append, List.getLast?_concat]
theorem quo1_pos (c : UInt8) : 1 ≤ (quo1 c).length := by
  unfold quo1; repeat' split
  all_goals simp
/-- Where the strict reading stands: 'p' bytes are read, and tell 't'; whatever is told by all begins with it. -/
def UAt (l t : List UInt8) (p : Nat) : Prop := p ≤ l.length ∧ quoI t = l.take p ∧ ∀ t', quoI t' = l → ∃ t2, t' = t ++ t2 ∧ quoI t2 = l.drop p
theorem uat_start (l : List UInt8) : UAt l [] 0 := ⟨Nat.zero_le _, rfl, fun t' h => ⟨t', rfl, h⟩⟩
theorem uat_next {l t : List UInt8} {p n : Nat} {c : UInt8} (h : UAt l t p) (hf : fstL (l.drop p) = some (c, n)) : UAt l (t ++ [c]) (p + n) ∧ 1 ≤ n ∧ p + n ≤ l.length := by
  obtain ⟨h1, h2, h3⟩ := h
  obtain ⟨g1, g2, g3⟩ := fst_back hf
  rw [List.length_drop] at g3
  refine ⟨⟨by omega, ?_, fun t' e => ?_⟩, g2, by omega⟩
  · rw [quoI_append, h2, List.take_add, g1]; simp [quoI]
  · obtain ⟨t2, e1, e2⟩ := h3 t' e
    match t2 with
    | [] =>
      have e2 : [] = l.drop p := e2
      rw [← e2] at hf; simp [fstL] at hf
    | d :: t3 =>
      rw [quoI_cons] at e2
      rw [← e2, fst_quo] at hf
      simp at hf
      obtain ⟨rfl, rfl⟩ := hf
      refine ⟨t3, by rw [e1]; simp, ?_⟩
      rw [← List.drop_drop, ← e2]; simp
theorem uat_none {l t : List UInt8} {p : Nat} (h : UAt l t p) (hp : p < l.length) (hf : fstL (l.drop p) = none) (t' : List UInt8) : quoI t' ≠ l := by
  intro e
  obtain ⟨t2, e1, e2⟩ := h.2.2 t' e
  match t2 with
  | [] =>
    have : (l.drop p).length = 0 := by rw [← e2]; rfl
    rw [List.length_drop] at this; omega
  | d :: t3 => rw [quoI_cons] at e2; rw [← e2, fst_quo] at hf; simp at hf
theorem uat_end {l t : List UInt8} (h : UAt l t l.length) : quoI t = l := by rw [h.2.1, List.take_length]
theorem uat_len {l t : List UInt8} {p : Nat} (h : UAt l t p) : t.length ≤ p := by
  have e : (quoI t).length ≤ p := by rw [h.2.1, List.length_take]; omega
  have : t.length ≤ (quoI t).length := by
    clear h e
    induction t with
    | nil => exact Nat.le_refl _
    | cons c r ih =>
      rw [quoI_cons, List.length_append, List.length_cons]
      have : 1 ≤ (quo1 c).length := quo1_pos c
      omega
  omega
end Go.Proofs.YtflpidnkppljlaaDoor
namespace Go.Proofs.YtflpidnkppljlaaDoor
open Go.RowKit
theorem eq_byte (c n : UInt8) : ((c.toNat : Int) == (n.toNat : Int)) = (c == n) := by
  rw [Bool.eq_iff_iff, beq_iff_eq, beq_iff_eq]
  exact ⟨fun h => UInt8.toNat_inj.1 (by omega), fun h => by rw [h]⟩
set_option maxHeartbeats 400000 in
theorem marked_c (c : UInt8) (w : World) : Calls Tryd.prog 63 #[.int .u8 c.toNat] w fun e w' => e = .returned (.bool (markB c)) ∧ w = w' := by
  have E : Hid (markB c = (((c.toNat : Int) == 34) || ((c.toNat : Int) == 92))) := by
    show _ = _; unfold markB; rw [← eq_byte c 34, ← eq_byte c 92]; rfl
  cases h1 : ((c.toNat : Int) == 34) <;> cases h2 : ((c.toNat : Int) == 92)
  all_goals
    rw [h1, h2] at E
    go_enter Tryd.func63, Tryd.ntmps63
    go_wp2
    go_ret
    exact ⟨retB (by rw [E.out]; rfl), rfl⟩
set_option maxHeartbeats 400000 in
theorem printed_c (c : UInt8) (w : World) : Calls Tryd.prog 62 #[.int .u8 c.toNat] w fun e w' => e = .returned (.bool (prinB c)) ∧ w = w' := by
  by_cases h1 : 32 ≤ (c.toNat : Int)
  · by_cases h2 : (c.toNat : Int) ≤ 126
    all_goals
      have E : Hid (prinB c = decide ((c.toNat : Int) ≤ 126)) := by show _ = _; unfold prinB; simp only [h1, h2, true_and]
      go_enter Tryd.func62, Tryd.ntmps62
      go_wp2
      go_ret
      exact ⟨retB (by rw [E.out]; simp [h2]), rfl⟩
  · have E : Hid (prinB c = false) := by show _ = _; unfold prinB; simp only [h1, false_and, decide_false]
    go_enter Tryd.func62, Tryd.ntmps62
    go_wp2
    go_ret
    exact ⟨retB (by rw [E.out]), rfl⟩
end Go.Proofs.YtflpidnkppljlaaDoor
