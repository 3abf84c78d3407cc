/- Plain words of a text: how far blanks, names, numbers, quotes and marks go, and the words of a row of bytes. No condition. -/
import Derived.Test.YtdblkjcimegoeaaDoorNameP
import Derived.Test.YtdblkjcimegoeaaDoorUnqL
import Derived.Test.YtdblkjcimegoeaaDoorText
namespace Go.Proofs.YtdblkjcimegoeaaDoor
def blkB (c : UInt8) : Bool := c == 9 || c == 10 || c == 13 || c == 32
/-- How many bytes ahead are such. -/
def spanN (p : UInt8 → Bool) : List UInt8 → Nat
  | [] => 0
  | c :: r => if p c = true then spanN p r + 1 else 0
/-- How many bytes of blanks and remarks stand ahead; 'o': in a remark. -/
def skp : Bool → List UInt8 → Nat
  | _, [] => 0
  | true, c :: r => if c == 10 then skp false r + 1 else skp true r + 1
  | false, c :: r => if blkB c = true then skp false r + 1 else if (c == 47 && r.head? == some 47) = true then skp true r + 1 else 0
theorem spanN_le (p : UInt8 → Bool) (l : List UInt8) : spanN p l ≤ l.length := by
  induction l with
  | nil => simp [spanN]
  | cons c r ih => unfold spanN; split <;> simp <;> omega
theorem spanN_eq {p : UInt8 → Bool} : ∀ {l : List UInt8} {k : Nat}, k ≤ l.length → (∀ i (h : i < l.length), i < k → p l[i] = true) → (∀ h : k < l.length, p l[k] = false) → spanN p l = k
  | [], k, hk, _, _ => by simp at hk; simp [spanN, hk]
  | c :: r, 0, _, _, h0 => by
    have := h0 (by simp)
    simp at this
    simp [spanN, this]
  | c :: r, k + 1, hk, h1, h0 => by
    have hc := h1 0 (by simp) (by omega)
    simp at hc
    rw [spanN, if_pos hc, spanN_eq (k := k) (by simpa using hk) (fun i h hi => by have := h1 (i + 1) (by simpa using h) (by omega); rwa [List.getElem_cons_succ] at this) (fun h => by have := h0 (by simpa using h); rwa [List.getElem_cons_succ] at this)]
theorem spanN_stop {p : UInt8 → Bool} : ∀ {l : List UInt8} (h : spanN p l < l.length), p (l[spanN p l]) = false
  | [], h => by simp at h
  | c :: r, h => by
    by_cases hc : p c = true
    · have e : spanN p (c :: r) = spanN p r + 1 := by rw [spanN, if_pos hc]
      simp only [e]
      rw [List.getElem_cons_succ]
      exact spanN_stop _
    · have e : spanN p (c :: r) = 0 := by rw [spanN, if_neg hc]
      simp only [e]
      simpa using hc
theorem spanN_all {p : UInt8 → Bool} : ∀ {l : List UInt8}, ∀ x ∈ l.take (spanN p l), p x = true
  | [], x, hx => by simp at hx
  | c :: r, x, hx => by
    by_cases hc : p c = true
    · rw [spanN, if_pos hc, List.take_succ_cons] at hx
      rcases List.mem_cons.1 hx with rfl | hx
      · exact hc
      · exact spanN_all x hx
    · rw [spanN, if_neg hc] at hx; simp at hx
theorem skp_le : ∀ (o : Bool) (l : List UInt8), skp o l ≤ l.length
  | _, [] => by simp [skp]
  | true, c :: r => by
    have h1 := skp_le true r
    have h2 := skp_le false r
    unfold skp; split <;> simp <;> omega
  | false, c :: r => by
    have h1 := skp_le true r
    have h2 := skp_le false r
    unfold skp; split
    · simp; omega
    · split <;> simp; omega
/-- Blanks ahead are left out. -/
theorem skp_blanks : ∀ (l : List UInt8), skp false l = spanN blkB l + skp false (l.drop (spanN blkB l))
  | [] => by simp [skp, spanN]
  | c :: r => by
    by_cases hc : blkB c = true
    · rw [skp, if_pos hc, spanN, if_pos hc, List.drop_succ_cons]
      have := skp_blanks r
      omega
    · rw [spanN, if_neg hc]; simp
def notLf (c : UInt8) : Bool := !(c == 10)
theorem skp_in : ∀ (l : List UInt8), skp true l = spanN notLf l + skp false (l.drop (spanN notLf l))
  | [] => by simp [skp, spanN]
  | c :: r => by
    by_cases hc : (c == 10) = true
    · have hb : blkB c = true := by unfold blkB; simp at hc; simp [hc]
      have hn : ¬ notLf c = true := by unfold notLf; simp [hc]
      rw [skp, if_pos hc, spanN, if_neg hn, List.drop_zero, skp, if_pos hb]; omega
    · have hn : notLf c = true := by unfold notLf; simpa using hc
      rw [skp, if_neg hc, spanN, if_pos hn, List.drop_succ_cons]
      have := skp_in r
      omega
/-- A remark ahead is left out. -/
theorem skp_remark (r : List UInt8) : skp false (47 :: 47 :: r) = spanN notLf (47 :: 47 :: r) + skp false ((47 :: 47 :: r).drop (spanN notLf (47 :: 47 :: r))) := by
  have h1 : skp false (47 :: 47 :: r) = skp true (47 :: 47 :: r) := rfl
  rw [h1, skp_in]
theorem skp_stop {c : UInt8} {r : List UInt8} (h1 : blkB c = false) (h2 : ¬ (c = 47 ∧ r.head? = some 47)) : skp false (c :: r) = 0 := by
  rw [skp, if_neg (by simp [h1]), if_neg (by simpa using h2)]
/-! ### One word -/
/-- What stands ahead: its error, its kind, its text, its number, how many bytes it has. -/
structure Fw where
  e : Int
  k : Int
  t : List UInt8
  n : Int
  w : Nat
deriving DecidableEq
def nameN : List UInt8 → Nat
  | [] => 0
  | c :: r => if letR c = true then spanN namB r + 1 else 0
/-- How many bytes stand ahead of the quote that ends; 'o': behind an odd number of backslashes. -/
def endQ : Bool → List UInt8 → Nat
  | _, [] => 0
  | o, c :: r => if (c == 34 && !o) = true then 0 else endQ (c == 92 && !o) r + 1
def mrk1 (c : UInt8) : Bool := [40, 41, 123, 125, 91, 93, 44, 59, 58, 46, 60, 62, 33, 43, 45, 42, 64].contains c
def mrk2 (c d : UInt8) : Bool := (c == 58 && d == 58) || (c == 61 && d == 61) || (c == 33 && d == 61) || (c == 60 && d == 61) || (c == 62 && d == 61) || (c == 38 && d == 38) || (c == 124 && d == 124)
def mrkN : List UInt8 → Nat
  | [] => 0
  | [c] => if mrk1 c = true then 1 else 0
  | c :: d :: _ => if mrk2 c d = true then 2 else if mrk1 c = true then 1 else 0
def badW (e : Int) : Fw := ⟨e, 0, [], 0, 0⟩
def numW (l : List UInt8) : Fw := if readE (l.take (spanN digB l)) = 0 then ⟨0, 2, l.take (spanN digB l), readV (l.take (spanN digB l)), spanN digB l⟩ else badW (readE (l.take (spanN digB l)))
def quoW (l : List UInt8) : Fw :=
  if endQ false (l.drop 1) + 1 < l.length then (if unqE (l.take (endQ false (l.drop 1) + 2)) = 0 then ⟨0, 3, unqT (l.take (endQ false (l.drop 1) + 2)), 0, endQ false (l.drop 1) + 2⟩ else badW (unqE (l.take (endQ false (l.drop 1) + 2)))) else badW 10
def sloW (l : List UInt8) : Fw := if nameN (l.drop 1) = 0 then badW 10 else ⟨0, 4, (l.drop 1).take (nameN (l.drop 1)), 0, nameN (l.drop 1) + 1⟩
def mrkW (l : List UInt8) : Fw := if mrkN l = 0 then badW 10 else ⟨0, 5, l.take (mrkN l), 0, mrkN l⟩
def fst1 (l : List UInt8) : Fw :=
  match l with
  | [] => badW 10
  | c :: _ =>
    if (c == 34) = true then quoW l
    else if (c == 63) = true then sloW l
    else if digB c = true then numW l
    else if letR c = true then ⟨0, 1, l.take (nameN l), 0, nameN l⟩
    else mrkW l
theorem nameN_le : ∀ l, nameN l ≤ l.length
  | [] => by simp [nameN]
  | c :: r => by
    have := spanN_le namB r
    show (if letR c = true then spanN namB r + 1 else 0) ≤ _
    split <;> simp; omega
theorem endQ_le : ∀ o l, endQ o l ≤ l.length
  | _, [] => by simp [endQ]
  | o, c :: r => by
    have := endQ_le (c == 92 && !o) r
    show (if (c == 34 && !o) = true then 0 else endQ (c == 92 && !o) r + 1) ≤ _
    split <;> simp; omega
theorem mrkN_le : ∀ l, mrkN l ≤ l.length
  | [] => by simp [mrkN]
  | [c] => by
    show (if mrk1 c = true then 1 else 0) ≤ _
    split <;> simp
  | c :: d :: r => by
    show (if mrk2 c d = true then 2 else if mrk1 c = true then 1 else 0) ≤ _
    split
    · simp
    · split <;> simp
theorem fst1_cons (c : UInt8) (r : List UInt8) : fst1 (c :: r) = if (c == 34) = true then quoW (c :: r) else if (c == 63) = true then sloW (c :: r) else if digB c = true then numW (c :: r) else if letR c = true then ⟨0, 1, (c :: r).take (nameN (c :: r)), 0, nameN (c :: r)⟩ else mrkW (c :: r) := rfl
theorem quoW_w {l : List UInt8} (h : (quoW l).e = 0) : 1 ≤ (quoW l).w ∧ (quoW l).w ≤ l.length := by
  unfold quoW at *
  by_cases h1 : endQ false (l.drop 1) + 1 < l.length
  · rw [if_pos h1] at *
    by_cases h2 : unqE (l.take (endQ false (l.drop 1) + 2)) = 0
    · rw [if_pos h2]
      exact ⟨Nat.le_add_left 1 _, h1⟩
    · rw [if_neg h2] at h
      exact absurd h h2
  · rw [if_neg h1] at h
    exact absurd h (by decide)
theorem sloW_w {l : List UInt8} (h0 : 0 < l.length) (h : (sloW l).e = 0) : 1 ≤ (sloW l).w ∧ (sloW l).w ≤ l.length := by
  unfold sloW at *
  by_cases h1 : nameN (l.drop 1) = 0
  · rw [if_pos h1] at h
    exact absurd h (by decide)
  · rw [if_neg h1]
    have := nameN_le (l.drop 1)
    rw [List.length_drop] at this
    exact ⟨by show 1 ≤ nameN (l.drop 1) + 1; omega, by show nameN (l.drop 1) + 1 ≤ _; omega⟩
theorem numW_w {c : UInt8} {r : List UInt8} (hd : digB c = true) (h : (numW (c :: r)).e = 0) : 1 ≤ (numW (c :: r)).w ∧ (numW (c :: r)).w ≤ (c :: r).length := by
  have h1 : 0 < spanN digB (c :: r) := by rw [spanN, if_pos hd]; omega
  unfold numW at *
  by_cases h2 : readE ((c :: r).take (spanN digB (c :: r))) = 0
  · rw [if_pos h2]
    exact ⟨h1, spanN_le _ _⟩
  · rw [if_neg h2] at h
    exact absurd h h2
theorem mrkW_w {l : List UInt8} (h : (mrkW l).e = 0) : 1 ≤ (mrkW l).w ∧ (mrkW l).w ≤ l.length := by
  unfold mrkW at *
  by_cases h1 : mrkN l = 0
  · rw [if_pos h1] at h
    exact absurd h (by decide)
  · rw [if_neg h1]
    exact ⟨by simp; omega, mrkN_le _⟩
theorem nameN_pos {c : UInt8} {r : List UInt8} (h : letR c = true) : 0 < nameN (c :: r) := by
  show 0 < if letR c = true then spanN namB r + 1 else 0
  rw [if_pos h]; omega
theorem fst1_w {l : List UInt8} (h : (fst1 l).e = 0) : 1 ≤ (fst1 l).w ∧ (fst1 l).w ≤ l.length := by
  match l with
  | [] => exact absurd h (by decide)
  | c :: r =>
    rw [fst1_cons] at *
    by_cases h1 : (c == 34) = true
    · rw [if_pos h1] at *
      exact quoW_w h
    · rw [if_neg h1] at *
      by_cases h2 : (c == 63) = true
      · rw [if_pos h2] at *
        exact sloW_w (by simp) h
      · rw [if_neg h2] at *
        by_cases h3 : digB c = true
        · rw [if_pos h3] at *
          exact numW_w h3 h
        · rw [if_neg h3] at *
          by_cases h4 : letR c = true
          · rw [if_pos h4] at *
            exact ⟨nameN_pos h4, nameN_le (c :: r)⟩
          · rw [if_neg h4] at *
            exact mrkW_w h
/-! ### All words -/
structure Wd where
  k : Int
  t : List UInt8
  n : Int
  a : Nat
deriving DecidableEq
def lexF : Nat → List UInt8 → Nat → Int × Nat × List Wd
  | 0, _, a => (0, 0, [⟨0, [], 0, a⟩])
  | f + 1, l, a =>
    if l.isEmpty = true then (0, 0, [⟨0, [], 0, a⟩])
    else if (fst1 l).e = 0 then
      (if (lexF f (l.drop ((fst1 l).w + skp false (l.drop (fst1 l).w))) (a + ((fst1 l).w + skp false (l.drop (fst1 l).w)))).1 = 0 then
        (0, 0, ⟨(fst1 l).k, (fst1 l).t, (fst1 l).n, a⟩ :: (lexF f (l.drop ((fst1 l).w + skp false (l.drop (fst1 l).w))) (a + ((fst1 l).w + skp false (l.drop (fst1 l).w)))).2.2)
      else lexF f (l.drop ((fst1 l).w + skp false (l.drop (fst1 l).w))) (a + ((fst1 l).w + skp false (l.drop (fst1 l).w))))
    else ((fst1 l).e, a, [])
def lexR (l : List UInt8) (a : Nat) : Int × Nat × List Wd := lexF l.length l a
theorem lexF_more : ∀ (n : Nat) (l : List UInt8) (a : Nat), l.length ≤ n → lexF n l a = lexF l.length l a := by
  intro n
  induction n using Nat.strongRecOn with
  | ind n ih =>
    intro l a hl
    match n, l with
    | 0, [] => rfl
    | n + 1, [] => rfl
    | n + 1, c :: r =>
      simp only [List.length_cons] at hl
      rw [List.length_cons, lexF, lexF]
      by_cases he : (fst1 (c :: r)).e = 0
      · have hp := (fst1_w he).1
        have hd : ((c :: r).drop ((fst1 (c :: r)).w + skp false ((c :: r).drop (fst1 (c :: r)).w))).length ≤ r.length := by rw [List.length_drop]; simp; omega
        rcases Nat.lt_or_ge r.length (n + 1) with h | h
        · rw [ih n (by omega) _ _ (by omega), ih r.length (by omega) _ _ hd]
        · omega
      · rw [if_neg (by simp), if_neg he, if_neg (by simp), if_neg he]
/-- The words so far, and those of the rest. -/
def comb (ws : List Wd) (r : Int × Nat × List Wd) : Int × Nat × List Wd := if r.1 = 0 then (0, 0, ws ++ r.2.2) else r
theorem lexR_nil (a : Nat) : lexR [] a = (0, 0, [⟨0, [], 0, a⟩]) := rfl
theorem lexR_bad {l : List UInt8} {a : Nat} (h0 : l ≠ []) (he : ¬ (fst1 l).e = 0) : lexR l a = ((fst1 l).e, a, []) := by
  match l with
  | [] => exact absurd rfl h0
  | c :: r => unfold lexR; rw [List.length_cons, lexF, if_neg (by simp), if_neg he]
theorem lexR_step {l : List UInt8} {a : Nat} (h0 : l ≠ []) (he : (fst1 l).e = 0) (ws : List Wd) :
    comb ws (lexR l a) = comb (ws ++ [⟨(fst1 l).k, (fst1 l).t, (fst1 l).n, a⟩]) (lexR (l.drop ((fst1 l).w + skp false (l.drop (fst1 l).w))) (a + ((fst1 l).w + skp false (l.drop (fst1 l).w)))) := by
  match l with
  | [] => exact absurd rfl h0
  | c :: r =>
    have hp := (fst1_w he).1
    have hd : ((c :: r).drop ((fst1 (c :: r)).w + skp false ((c :: r).drop (fst1 (c :: r)).w))).length ≤ r.length := by rw [List.length_drop]; simp; omega
    have e : lexR (c :: r) a = lexF (r.length + 1) (c :: r) a := rfl
    rw [e, lexF, if_neg (by simp), if_pos he, lexF_more _ _ _ hd]
    show comb ws (if (lexR _ _).1 = 0 then _ else lexR _ _) = _
    unfold comb
    unfold lexR
    generalize lexF _ ((c :: r).drop _) _ = R
    by_cases hR : R.1 = 0
    · rw [if_pos hR, if_pos rfl, if_pos hR]; simp
    · rw [if_neg hR, if_neg hR, if_neg hR]
def lexL (l : List UInt8) : Int × Nat × List Wd := if 65536 < l.length then (12, 0, []) else lexR (l.drop (skp false l)) (skp false l)
/-! ### Places moved -/
def shW (n : Nat) (w : Wd) : Wd := { w with a := w.a + n }
def shR (n : Nat) (r : Int × Nat × List Wd) : Int × Nat × List Wd := if r.1 = 0 then (0, 0, r.2.2.map (shW n)) else (r.1, r.2.1 + n, [])
theorem lexF_sh (n : Nat) : ∀ (f : Nat) (l : List UInt8) (a : Nat), lexF f l (a + n) = shR n (lexF f l a)
  | 0, l, a => rfl
  | f + 1, l, a => by
    rw [lexF, lexF]
    by_cases h0 : l.isEmpty = true
    · rw [if_pos h0, if_pos h0]; rfl
    · rw [if_neg h0, if_neg h0]
      by_cases he : (fst1 l).e = 0
      · rw [if_pos he, if_pos he, show a + n + ((fst1 l).w + skp false (l.drop (fst1 l).w)) = a + ((fst1 l).w + skp false (l.drop (fst1 l).w)) + n from by omega, lexF_sh n f]
        generalize lexF f _ _ = R
        unfold shR
        by_cases hR : R.1 = 0
        · rw [if_pos hR, if_pos rfl, if_pos hR, if_pos rfl]; rfl
        · rw [if_neg hR, if_neg hR, if_neg hR, if_neg hR]
      · rw [if_neg he, if_neg he]; unfold shR; rw [if_neg he]
theorem skp_app : ∀ (b l : List UInt8), (∀ x ∈ b, blkB x = true) → skp false (b ++ l) = b.length + skp false l
  | [], l, _ => by simp
  | c :: b, l, h => by
    rw [List.cons_append, skp, if_pos (h c (by simp)), skp_app b l fun x hx => h x (by simp [hx])]
    simp; omega
theorem skp_ahead (b l : List UInt8) (h : ∀ x ∈ b, blkB x = true) : skp false (b ++ [47, 47, 32, 120, 10] ++ l) = b.length + 5 + skp false l := by
  rw [List.append_assoc, skp_app _ _ h]
  have : skp false ([47, 47, 32, 120, 10] ++ l) = 5 + skp false l := by
    show skp false (47 :: 47 :: 32 :: 120 :: 10 :: l) = _
    have e : skp false (47 :: 47 :: 32 :: 120 :: 10 :: l) = skp false l + 1 + 1 + 1 + 1 + 1 := rfl
    omega
  omega
/-- Blanks and a remark ahead move the places alone. -/
theorem lexL_ahead (b l : List UInt8) (h : ∀ x ∈ b, blkB x = true) (hl : b.length + 5 + l.length ≤ 65536) : lexL (b ++ [47, 47, 32, 120, 10] ++ l) = shR (b.length + 5) (lexL l) := by
  unfold lexL
  rw [if_neg (by simp; omega), if_neg (by omega), skp_ahead b l h]
  have : (b ++ [47, 47, 32, 120, 10] ++ l).drop (b.length + 5 + skp false l) = l.drop (skp false l) := by
    rw [show b.length + 5 = (b ++ [47, 47, 32, 120, 10] : List UInt8).length from by simp, ← List.drop_drop, List.drop_left]
  rw [this, Nat.add_comm (b.length + 5)]
  unfold lexR
  rw [lexF_sh]
theorem lexL_blank (b : List UInt8) (h : ∀ x ∈ b, blkB x = true) (hl : b.length ≤ 65536) : lexL b = (0, 0, [⟨0, [], 0, b.length⟩]) := by
  have e := skp_app b [] h
  rw [List.append_nil] at e
  unfold lexL
  rw [if_neg (by omega), e, show skp false [] = 0 from rfl, Nat.add_zero, List.drop_length, lexR_nil]
end Go.Proofs.YtdblkjcimegoeaaDoor
