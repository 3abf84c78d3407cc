/- Plain words of a text: how far blanks, names, numbers, quotes and marks go, and the words of a row of bytes. No condition. Plain: expressions, and how they are read from words, by definition: for the program and for the reference alike (f: how many steps are left; each rule's own measure is a bound). No condition. Plain: what is read goes over words that are there. No condition. A word's four cells; a new block turns nothing that was there. No condition. -/
import Derived.Test.YtflpidnkppljlaaDoorNms
import Derived.Test.YtflpidnkppljlaaDoorQts
import Derived.Test.YtflpidnkppljlaaDoorPln
set_option linter.unusedVariables false
set_option linter.unnecessarySimpa false
set_option linter.unusedSimpArgs false
namespace Go.Proofs.YtflpidnkppljlaaDoor
def blkB (c : UInt8) : Bool := c == 9 || c == 10 || c == 13 || c == 32
/-- How many bytes ahead are such. -/
def spanN (p : UInt8 → Bool) : List UInt8 → Nat
  | [] => 0
  | c :: r => if p c = true then spanN p r + 1 else 0
/-- How many bytes of blanks and remarks stand ahead; 'o': in a remark. -/
def skp : Bool → List UInt8 → Nat
  | _, [] => 0
  | true, c :: r => if c == 10 then skp false r + 1 else skp true r + 1
  | false, c :: r => if blkB c = true then skp false r + 1 else if (c == 47 && r.head? == some 47) = true then skp true r + 1 else 0
theorem spanN_le (p : UInt8 → Bool) (l : List UInt8) : spanN p l ≤ l.length := by
  induction l with
  | nil => simp [spanN]
  | cons c r ih => unfold spanN; split <;> simp <;> omega
theorem spanN_eq {p : UInt8 → Bool} : ∀ {l : List UInt8} {k : Nat}, k ≤ l.length → (∀ i (h : i < l.length), i < k → p l[i] = true) → (∀ h : k < l.length, p l[k] = false) → spanN p l = k
  | [], k, hk, _, _ => by simp at hk; simp [spanN, hk]
  | c :: r, 0, _, _, h0 => by
    have := h0 (by simp)
    simp at this
    simp [spanN, this]
  | c :: r, k + 1, hk, h1, h0 => by
    have hc := h1 0 (by simp) (by omega)
    simp at hc
    rw [spanN, if_pos hc, spanN_eq (k := k) (by simpa using hk) (fun i h hi => by have := h1 (i + 1) (by simpa using h) (by omega); rwa [List.getElem_cons_succ] at this) (fun h => by have := h0 (by simpa using h); rwa [List.getElem_cons_succ] at this)]
theorem spanN_stop {p : UInt8 → Bool} : ∀ {l : List UInt8} (h : spanN p l < l.length), p (l[spanN p l]) = false
  | [], h => by simp at h
  | c :: r, h => by
    by_cases hc : p c = true
    · have e : spanN p (c :: r) = spanN p r + 1 := by rw [spanN, if_pos hc]
      simp only [e]
      rw [List.getElem_cons_succ]
      exact spanN_stop _
    · have e : spanN p (c :: r) = 0 := by rw [spanN, if_neg hc]
      simp only [e]
      simpa using hc
theorem spanN_all {p : UInt8 → Bool} : ∀ {l : List UInt8}, ∀ x ∈ l.take (spanN p l), p x = true
  | [], x, hx => by simp at hx
  | c :: r, x, hx => by
    by_cases hc : p c = true
    · rw [spanN, if_pos hc, List.take_succ_cons] at hx
      rcases List.mem_cons.1 hx with rfl | hx
      · exact hc
      · exact spanN_all x hx
    · rw [spanN, if_neg hc] at hx; simp at hx
theorem skp_le : ∀ (o : Bool) (l : List UInt8), skp o l ≤ l.length
  | _, [] => by simp [skp]
  | true, c :: r => by
    have h1 := skp_le true r
    have h2 := skp_le false r
    unfold skp; split <;> simp <;> omega
  | false, c :: r => by
    have h1 := skp_le true r
    have h2 := skp_le false r
    unfold skp; split
    · simp; omega
    · split <;> simp; omega
/-- Blanks ahead are left out. -/
theorem skp_blanks : ∀ (l : List UInt8), skp false l = spanN blkB l + skp false (l.drop (spanN blkB l))
  | [] => by simp [skp, spanN]
  | c :: r => by
    by_cases hc : blkB c = true
    · rw [skp, if_pos hc, spanN, if_pos hc, List.drop_succ_cons]
      have := skp_blanks r
      omega
    · rw [spanN, if_neg hc]; simp
def notLf (c : UInt8) : Bool := !(c == 10)
theorem skp_in : ∀ (l : List UInt8), skp true l = spanN notLf l + skp false (l.drop (spanN notLf l))
  | [] => by simp [skp, spanN]
  | c :: r => by
    by_cases hc : (c == 10) = true
    · have hb : blkB c = true := by unfold blkB; simp at hc; simp [hc]
      have hn : ¬ notLf c = true := by unfold notLf; simp [hc]
      rw [skp, if_pos hc, spanN, if_neg hn, List.drop_zero, skp, if_pos hb]; omega
    · have hn : notLf c = true := by unfold notLf; simpa using hc
      rw [skp, if_neg hc, spanN, if_pos hn, List.drop_succ_cons]
      have := skp_in r
      omega
/-- A remark ahead is left out. -/
theorem skp_remark (r : List UInt8) : skp false (47 :: 47 :: r) = spanN notLf (47 :: 47 :: r) + skp false ((47 :: 47 :: r).drop (spanN notLf (47 :: 47 :: r))) := by
  have h1 : skp false (47 :: 47 :: r) = skp true (47 :: 47 :: r) := rfl
  rw [h1, skp_in]
theorem skp_stop {c : UInt8} {r : List UInt8} (h1 : blkB c = false) (h2 : ¬ (c = 47 ∧ r.head? = some 47)) : skp false (c :: r) = 0 := by
  rw [skp, if_neg (by simp [h1]), if_neg (by simpa using h2)]
/-! ### One word -/
/-- What stands ahead: its error, its kind, its text, its number, how many bytes it has. -/
structure Fw where
  e : Int
  k : Int
  t : List UInt8
  n : Int
  w : Nat
deriving DecidableEq
def nameN : List UInt8 → Nat
  | [] => 0
  | c :: r => if letR c = true then spanN namB r + 1 else 0
/-- How many bytes stand ahead of the quote that ends; 'o': behind an odd number of backslashes. -/
def endQ : Bool → List UInt8 → Nat
  | _, [] => 0
  | o, c :: r => if (c == 34 && !o) = true then 0 else endQ (c == 92 && !o) r + 1
def mrk1 (c : UInt8) : Bool := [40, 41, 123, 125, 91, 93, 44, 59, 58, 46, 60, 62, 33, 43, 45, 42, 64].contains c
def mrk2 (c d : UInt8) : Bool := (c == 58 && d == 58) || (c == 61 && d == 61) || (c == 33 && d == 61) || (c == 60 && d == 61) || (c == 62 && d == 61) || (c == 38 && d == 38) || (c == 124 && d == 124)
def mrkN : List UInt8 → Nat
  | [] => 0
  | [c] => if mrk1 c = true then 1 else 0
  | c :: d :: _ => if mrk2 c d = true then 2 else if mrk1 c = true then 1 else 0
def badW (e : Int) : Fw := ⟨e, 0, [], 0, 0⟩
def numW (l : List UInt8) : Fw := if readE (l.take (spanN digB l)) = 0 then ⟨0, 2, l.take (spanN digB l), readV (l.take (spanN digB l)), spanN digB l⟩ else badW (readE (l.take (spanN digB l)))
def quoW (l : List UInt8) : Fw :=
  if endQ false (l.drop 1) + 1 < l.length then (if unqE (l.take (endQ false (l.drop 1) + 2)) = 0 then ⟨0, 3, unqT (l.take (endQ false (l.drop 1) + 2)), 0, endQ false (l.drop 1) + 2⟩ else badW (unqE (l.take (endQ false (l.drop 1) + 2)))) else badW 10
def sloW (l : List UInt8) : Fw := if nameN (l.drop 1) = 0 then badW 10 else ⟨0, 4, (l.drop 1).take (nameN (l.drop 1)), 0, nameN (l.drop 1) + 1⟩
def mrkW (l : List UInt8) : Fw := if mrkN l = 0 then badW 10 else ⟨0, 5, l.take (mrkN l), 0, mrkN l⟩
def fst1 (l : List UInt8) : Fw :=
  match l with
  | [] => badW 10
  | c :: _ =>
    if (c == 34) = true then quoW l
    else if (c == 63) = true then sloW l
    else if digB c = true then numW l
    else if letR c = true then ⟨0, 1, l.take (nameN l), 0, nameN l⟩
    else mrkW l
theorem nameN_le : ∀ l, nameN l ≤ l.length
  | [] => by simp [nameN]
  | c :: r => by
    have := spanN_le namB r
    show (if letR c = true then spanN namB r + 1 else 0) ≤ _
    split <;> simp; omega
theorem endQ_le : ∀ o l, endQ o l ≤ l.length
  | _, [] => by simp [endQ]
  | o, c :: r => by
    have := endQ_le (c == 92 && !o) r
    show (if (c == 34 && !o) = true then 0 else endQ (c == 92 && !o) r + 1) ≤ _
    split <;> simp; omega
theorem mrkN_le : ∀ l, mrkN l ≤ l.length
  | [] => by simp [mrkN]
  | [c] => by
    show (if mrk1 c = true then 1 else 0) ≤ _
    split <;> simp
  | c :: d :: r => by
    show (if mrk2 c d = true then 2 else if mrk1 c = true then 1 else 0) ≤ _
    split
    · simp
    · split <;> simp
theorem fst1_cons (c : UInt8) (r : List UInt8) : fst1 (c :: r) = if (c == 34) = true then quoW (c :: r) else if (c == 63) = true then sloW (c :: r) else if digB c = true then numW (c :: r) else if letR c = true then ⟨0, 1, (c :: r).take (nameN (c :: r)), 0, nameN (c :: r)⟩ else mrkW (c :: r) := rfl
theorem quoW_w {l : List UInt8} (h : (quoW l).e = 0) : 1 ≤ (quoW l).w ∧ (quoW l).w ≤ l.length := by
  unfold quoW at *
  by_cases h1 : endQ false (l.drop 1) + 1 < l.length
  · rw [if_pos h1] at *
    by_cases h2 : unqE (l.take (endQ false (l.drop 1) + 2)) = 0
    · rw [if_pos h2]
      exact ⟨Nat.le_add_left 1 _, h1⟩
    · rw [if_neg h2] at h
      exact absurd h h2
  · rw [if_neg h1] at h
    exact absurd h (by decide)
theorem sloW_w {l : List UInt8} (h0 : 0 < l.length) (h : (sloW l).e = 0) : 1 ≤ (sloW l).w ∧ (sloW l).w ≤ l.length := by
  unfold sloW at *
  by_cases h1 : nameN (l.drop 1) = 0
  · rw [if_pos h1] at h
    exact absurd h (by decide)
  · rw [if_neg h1]
    have := nameN_le (l.drop 1)
    rw [List.length_drop] at this
    exact ⟨by show 1 ≤ nameN (l.drop 1) + 1; omega, by show nameN (l.drop 1) + 1 ≤ _; omega⟩
theorem numW_w {c : UInt8} {r : List UInt8} (hd : digB c = true) (h : (numW (c :: r)).e = 0) : 1 ≤ (numW (c :: r)).w ∧ (numW (c :: r)).w ≤ (c :: r).length := by
  have h1 : 0 < spanN digB (c :: r) := by rw [spanN, if_pos hd]; omega
  unfold numW at *
  by_cases h2 : readE ((c :: r).take (spanN digB (c :: r))) = 0
  · rw [if_pos h2]
    exact ⟨h1, spanN_le _ _⟩
  · rw [if_neg h2] at h
    exact absurd h h2
theorem mrkW_w {l : List UInt8} (h : (mrkW l).e = 0) : 1 ≤ (mrkW l).w ∧ (mrkW l).w ≤ l.length := by
  unfold mrkW at *
  by_cases h1 : mrkN l = 0
  · rw [if_pos h1] at h
    exact absurd h (by decide)
  · rw [if_neg h1]
    exact ⟨by simp; omega, mrkN_le _⟩
theorem nameN_pos {c : UInt8} {r : List UInt8} (h : letR c = true) : 0 < nameN (c :: r) := by
  show 0 < if letR c = true then spanN namB r + 1 else 0
  rw [if_pos h]; omega
theorem fst1_w {l : List UInt8} (h : (fst1 l).e = 0) : 1 ≤ (fst1 l).w ∧ (fst1 l).w ≤ l.length := by
  match l with
  | [] => exact absurd h (by decide)
  | c :: r =>
    rw [fst1_cons] at *
    by_cases h1 : (c == 34) = true
    · rw [if_pos h1] at *
      exact quoW_w h
    · rw [if_neg h1] at *
      by_cases h2 : (c == 63) = true
      · rw [if_pos h2] at *
        exact sloW_w (by simp) h
      · rw [if_neg h2] at *
        by_cases h3 : digB c = true
        · rw [if_pos h3] at *
          exact numW_w h3 h
        · rw [if_neg h3] at *
          by_cases h4 : letR c = true
          · rw [if_pos h4] at *
            exact ⟨nameN_pos h4, nameN_le (c :: r)⟩
          · rw [if_neg h4] at *
            exact mrkW_w h
/-! ### All words -/
structure Wd where
  k : Int
  t : List UInt8
  n : Int
  a : Nat
deriving DecidableEq
def lexF : Nat → List UInt8 → Nat → Int × Nat × List Wd
  | 0, _, a => (0, 0, [⟨0, [], 0, a⟩])
  | f + 1, l, a =>
    if l.isEmpty = true then (0, 0, [⟨0, [], 0, a⟩])
    else if (fst1 l).e = 0 then
      (if (lexF f (l.drop ((fst1 l).w + skp false (l.drop (fst1 l).w))) (a + ((fst1 l).w + skp false (l.drop (fst1 l).w)))).1 = 0 then
        (0, 0, ⟨(fst1 l).k, (fst1 l).t, (fst1 l).n, a⟩ :: (lexF f (l.drop ((fst1 l).w + skp false (l.drop (fst1 l).w))) (a + ((fst1 l).w + skp false (l.drop (fst1 l).w)))).2.2)
      else lexF f (l.drop ((fst1 l).w + skp false (l.drop (fst1 l).w))) (a + ((fst1 l).w + skp false (l.drop (fst1 l).w))))
    else ((fst1 l).e, a, [])
def lexR (l : List UInt8) (a : Nat) : Int × Nat × List Wd := lexF l.length l a
theorem lexF_more : ∀ (n : Nat) (l : List UInt8) (a : Nat), l.length ≤ n → lexF n l a = lexF l.length l a := by
  intro n
  induction n using Nat.strongRecOn with
  | ind n ih =>
    intro l a hl
    match n, l with
    | 0, [] => rfl
    | n + 1, [] => rfl
    | n + 1, c :: r =>
      simp only [List.length_cons] at hl
      rw [List.length_cons, lexF, lexF]
      by_cases he : (fst1 (c :: r)).e = 0
      · have hp := (fst1_w he).1
        have hd : ((c :: r).drop ((fst1 (c :: r)).w + skp false ((c :: r).drop (fst1 (c :: r)).w))).length ≤ r.length := by rw [List.length_drop]; simp; omega
        rcases Nat.lt_or_ge r.length (n + 1) with h | h
        · rw [ih n (by omega) _ _ (by omega), ih r.length (by omega) _ _ hd]
        · omega
      · rw [if_neg (by simp), if_neg he, if_neg (by simp), if_neg he]
/-- The words so far, and those of the rest. -/
def comb (ws : List Wd) (r : Int × Nat × List Wd) : Int × Nat × List Wd := if r.1 = 0 then (0, 0, ws ++ r.2.2) else r
theorem lexR_nil (a : Nat) : lexR [] a = (0, 0, [⟨0, [], 0, a⟩]) := rfl
theorem lexR_bad {l : List UInt8} {a : Nat} (h0 : l ≠ []) (he : ¬ (fst1 l).e = 0) : lexR l a = ((fst1 l).e, a, []) := by
  match l with
  | [] => exact absurd rfl h0
  | c :: r => unfold lexR; rw [List.length_cons, lexF, if_neg (by simp), if_neg he]
theorem lexR_step {l : List UInt8} {a : Nat} (h0 : l ≠ []) (he : (fst1 l).e = 0) (ws : List Wd) :
    comb ws (lexR l a) = comb (ws ++ [⟨(fst1 l).k, (fst1 l).t, (fst1 l).n, a⟩]) (lexR (l.drop ((fst1 l).w + skp false (l.drop (fst1 l).w))) (a + ((fst1 l).w + skp false (l.drop (fst1 l).w)))) := by
  match l with
  | [] => exact absurd rfl h0
  | c :: r =>
    have hp := (fst1_w he).1
    have hd : ((c :: r).drop ((fst1 (c :: r)).w + skp false ((c :: r).drop (fst1 (c :: r)).w))).length ≤ r.length := by rw [List.length_drop]; simp; omega
    have e : lexR (c :: r) a = lexF (r.length + 1) (c :: r) a := rfl
    rw [e, lexF, if_neg (by simp), if_pos he, lexF_more _ _ _ hd]
    show comb ws (if (lexR _ _).1 = 0 then _ else lexR _ _) = _
    unfold comb
    unfold lexR
    generalize lexF _ ((c :: r).drop _) _ = R
    by_cases hR : R.1 = 0
    · rw [if_pos hR, if_pos rfl, if_pos hR]; simp
    · rw [if_neg hR, if_neg hR, if_neg hR]
def lexL (l : List UInt8) : Int × Nat × List Wd := if 65536 < l.length then (12, 0, []) else lexR (l.drop (skp false l)) (skp false l)
/-! ### Places moved -/
def shW (n : Nat) (w : Wd) : Wd := { w with a := w.a + n }
def shR (n : Nat) (r : Int × Nat × List Wd) : Int × Nat × List Wd := if r.1 = 0 then (0, 0, r.2.2.map (shW n)) else (r.1, r.2.1 + n, [])
theorem lexF_sh (n : Nat) : ∀ (f : Nat) (l : List UInt8) (a : Nat), lexF f l (a + n) = shR n (lexF f l a)
  | 0, l, a => rfl
  | f + 1, l, a => by
    rw [lexF, lexF]
    by_cases h0 : l.isEmpty = true
    · rw [if_pos h0, if_pos h0]; rfl
    · rw [if_neg h0, if_neg h0]
      by_cases he : (fst1 l).e = 0
      · rw [if_pos he, if_pos he, show a + n + ((fst1 l).w + skp false (l.drop (fst1 l).w)) = a + ((fst1 l).w + skp false (l.drop (fst1 l).w)) + n from by omega, lexF_sh n f]
        generalize lexF f _ _ = R
        unfold shR
        by_cases hR : R.1 = 0
        · rw [if_pos hR, if_pos rfl, if_pos hR, if_pos rfl]; rfl
        · rw [if_neg hR, if_neg hR, if_neg hR, if_neg hR]
      · rw [if_neg he, if_neg he]; unfold shR; rw [if_neg he]
theorem skp_app : ∀ (b l : List UInt8), (∀ x ∈ b, blkB x = true) → skp false (b ++ l) = b.length + skp false l
  | [], l, _ => by simp
  | c :: b, l, h => by
    rw [List.cons_append, skp, if_pos (h c (by simp)), skp_app b l fun x hx => h x (by simp [hx])]
    simp; omega
theorem skp_ahead (b l : List UInt8) (h : ∀ x ∈ b, blkB x = true) : skp false (b ++ [47, 47, 32, 120, 10] ++ l) = b.length + 5 + skp false l := by
  rw [List.append_assoc, skp_app _ _ h]
  have : skp false ([47, 47, 32, 120, 10] ++ l) = 5 + skp false l := by
    show skp false (47 :: 47 :: 32 :: 120 :: 10 :: l) = _
    have e : skp false (47 :: 47 :: 32 :: 120 :: 10 :: l) = skp false l + 1 + 1 + 1 + 1 + 1 := rfl
    omega
  omega
/-- Blanks and a remark ahead move the places alone. -/
theorem lexL_ahead (b l : List UInt8) (h : ∀ x ∈ b, blkB x = true) (hl : b.length + 5 + l.length ≤ 65536) : lexL (b ++ [47, 47, 32, 120, 10] ++ l) = shR (b.length + 5) (lexL l) := by
  unfold lexL
  rw [if_neg (by simp; omega), if_neg (by omega), skp_ahead b l h]
  have : (b ++ [47, 47, 32, 120, 10] ++ l).drop (b.length + 5 + skp false l) = l.drop (skp false l) := by
    rw [show b.length + 5 = (b ++ [47, 47, 32, 120, 10] : List UInt8).length from by simp, ← List.drop_drop, List.drop_left]
  rw [this, Nat.add_comm (b.length + 5)]
  unfold lexR
  rw [lexF_sh]
theorem lexL_blank (b : List UInt8) (h : ∀ x ∈ b, blkB x = true) (hl : b.length ≤ 65536) : lexL b = (0, 0, [⟨0, [], 0, b.length⟩]) := by
  have e := skp_app b [] h
  rw [List.append_nil] at e
  unfold lexL
  rw [if_neg (by omega), e, show skp false [] = 0 from rfl, Nat.add_zero, List.drop_length, lexR_nil]
end Go.Proofs.YtflpidnkppljlaaDoor
namespace Go.Proofs.YtflpidnkppljlaaDoor
/-- A literal's value, as far as a text has it: kinds 1 to 4. -/
structure Li where
  k : Int
  b : Bool
  n : Int
  s : List UInt8
  t : List UInt8
  i : List UInt8
/-- An expression: its Op, its literal, its Name, its Kids, its Names. -/
inductive Ex where
  | mk (op : Int) (v : Li) (nm : List UInt8) (kids : List Ex) (ns : List (List UInt8)) : Ex
def li0 : Li := ⟨0, false, 0, [], [], []⟩
def nodE (op : Int) (kids : List Ex) : Ex := .mk op li0 [] kids []
def namE (op : Int) (nm : List UInt8) (kid : Ex) : Ex := .mk op li0 nm [kid] []
def litE (v : Li) : Ex := .mk 1 v [] [] []
abbrev kAnd : List UInt8 := [38, 38]
abbrev kOr : List UInt8 := [124, 124]
abbrev kIf : List UInt8 := [105, 102]
abbrev kThen : List UInt8 := [116, 104, 101, 110]
abbrev kElse : List UInt8 := [101, 108, 115, 101]
abbrev kTrue : List UInt8 := [116, 114, 117, 101]
abbrev kFalse : List UInt8 := [102, 97, 108, 115, 101]
abbrev kIn : List UInt8 := [105, 110]
abbrev kHas : List UInt8 := [104, 97, 115]
abbrev kIs : List UInt8 := [105, 115]
abbrev kCol2 : List UInt8 := [58, 58]
abbrev kPrin : List UInt8 := [112, 114, 105, 110, 99, 105, 112, 97, 108]
abbrev kAct : List UInt8 := [97, 99, 116, 105, 111, 110]
abbrev kRes : List UInt8 := [114, 101, 115, 111, 117, 114, 99, 101]
abbrev kCtx : List UInt8 := [99, 111, 110, 116, 101, 120, 116]
abbrev kCon : List UInt8 := [99, 111, 110, 116, 97, 105, 110, 115]
def ownN (s : List UInt8) : Bool := [kIf, kThen, kElse, kTrue, kFalse, kIn, kHas, kIs].contains s
def varN (s : List UInt8) : Bool := [kPrin, kAct, kRes, kCtx].contains s
def metN (s : List UInt8) : Int := if s = kCon then 21 else if s = kCon ++ [65, 108, 108] then 22 else if s = kCon ++ [65, 110, 121] then 23 else 0
/-- What a rule tells: an error and where; or what it read, and which word is behind it. -/
inductive Rd (α : Type) where
  | bad (e : Int) (at' : Nat) : Rd α
  | ok (x : α) (next : Int) : Rd α
def Rd.then {α β : Type} : Rd α → (α → Int → Rd β) → Rd β
  | .bad e a, _ => .bad e a
  | .ok x n, g => g x n
section
variable (l : List Wd)
/-- The word at a place; where there is none, the End, at the last word's place. -/
def wdA (a : Int) : Wd := if 0 ≤ a ∧ a < (l.length : Int) then l.getD a.toNat ⟨0, [], 0, 0⟩ else ⟨0, [], 0, (l.getLast?.map (·.a)).getD 0⟩
def badF {α : Type} (a : Int) : Rd α := .bad 10 (wdA l a).a
def isW (a : Int) (k : Int) (s : List UInt8) : Bool := (wdA l a).k == k && (wdA l a).t == s
def mustW (k : Int) (s : List UInt8) (a : Int) : Rd Unit := if isW l a k s = true then .ok () (a + 1) else badF l a
def textW (k : Int) (a : Int) : Rd (List UInt8) := if (wdA l a).k = k then .ok (wdA l a).t (a + 1) else badF l a
/-- The names behind a path's first one. -/
def pathM : Nat → List UInt8 → Int → Rd (List UInt8)
  | 0, s, a => .ok s a
  | f + 1, s, a => if isW l a 5 kCol2 = true ∧ (wdA l (a + 1)).k = 1 then pathM f (s ++ kCol2 ++ (wdA l (a + 1)).t) (a + 2) else .ok s a
def pathR (f : Nat) (a : Int) : Rd (List UInt8) :=
  if (wdA l a).k = 1 ∧ ownN (wdA l a).t = true then badF l a else (textW l 1 a).then fun s n => pathM l f s n
def uidR (f : Nat) (a : Int) : Rd (List UInt8 × List UInt8) :=
  (pathR l f a).then fun t n => (mustW l 5 kCol2 n).then fun _ n => (textW l 3 n).then fun i n => .ok (t, i) n
/-- Which operator of a level stands at a word: its Op, or nought. Levels: 1 or, 2 and, 4 sum, 5 product. -/
def opAt (lv : Nat) (a : Int) : Int :=
  if lv = 1 ∧ isW l a 5 kOr = true then 5 else if lv = 2 ∧ isW l a 5 kAnd = true then 4 else if lv = 4 ∧ isW l a 5 [43] = true then 11 else if lv = 4 ∧ isW l a 5 [45] = true then 12 else if lv = 5 ∧ isW l a 5 [42] = true then 13 else 0
def relE (op : Nat) (x y : Ex) : Ex :=
  match op with
  | 0 => nodE 8 [x, y]
  | 1 => nodE 6 [nodE 8 [x, y]]
  | 2 => nodE 9 [x, y]
  | 3 => nodE 10 [x, y]
  | 4 => nodE 9 [y, x]
  | 5 => nodE 10 [y, x]
  | _ => nodE 15 [x, y]
def relAt (a : Int) : Option Nat :=
  if isW l a 5 [61, 61] = true then some 0 else if isW l a 5 [33, 61] = true then some 1 else if isW l a 5 [60] = true then some 2 else if isW l a 5 [60, 61] = true then some 3
  else if isW l a 5 [62] = true then some 4 else if isW l a 5 [62, 61] = true then some 5 else if isW l a 1 kIn = true then some 6 else none
mutual
/-- A rule: 0 expr, 1 or, 2 and, 3 rel, 4 sum, 5 product, 6 unary, 7 member, 8 primary; d: how many expr and unary are begun. -/
def rdE : Nat → Nat → Nat → Int → Rd Ex
  | 0, _, _, a => badF l a
  | f + 1, 0, d, a =>
    if d = 50 then .bad 11 (wdA l a).a
    else if isW l a 1 kIf = true then
      (rdE f 0 (d + 1) (a + 1)).then fun x n => (mustW l 1 kThen n).then fun _ n => (rdE f 0 (d + 1) n).then fun y n => (mustW l 1 kElse n).then fun _ n => (rdE f 0 (d + 1) n).then fun z n => .ok (nodE 7 [x, y, z]) n
    else rdE f 1 (d + 1) a
  | f + 1, 3, d, a =>
    (rdE f 4 d a).then fun x n =>
      match relAt l n with
      | some op => (rdE f 4 d (n + 1)).then fun y n => .ok (relE op x y) n
      | none =>
        if isW l n 1 kHas = true then (textW l 1 (n + 1)).then fun s n => .ok (namE 17 s x) n
        else if isW l n 1 kIs = true then (pathR l f (n + 1)).then fun s n => .ok (namE 16 s x) n
        else .ok x n
  | f + 1, 6, d, a =>
    if d = 50 then .bad 11 (wdA l a).a
    else if isW l a 5 [33] = true then (rdE f 6 (d + 1) (a + 1)).then fun x n => .ok (nodE 6 [x]) n
    else if isW l a 5 [45] = true then (rdE f 6 (d + 1) (a + 1)).then fun x n => .ok (nodE 14 [x]) n
    else rdE f 7 (d + 1) a
  | f + 1, 7, d, a => (rdE f 8 d a).then fun x n => memE f d x n
  | f + 1, 8, d, a =>
    if (wdA l a).k = 2 then .ok (litE { li0 with k := 2, n := (wdA l a).n }) (a + 1)
    else if (wdA l a).k = 3 then .ok (litE { li0 with k := 3, s := (wdA l a).t }) (a + 1)
    else if (wdA l a).k = 4 then (if (wdA l a).t = kPrin ∨ (wdA l a).t = kRes then .ok (.mk 3 li0 (wdA l a).t [] []) (a + 1) else badF l a)
    else if (wdA l a).k = 1 then
      (if (wdA l a).t = kTrue ∨ (wdA l a).t = kFalse then .ok (litE { li0 with k := 1, b := decide ((wdA l a).t = kTrue) }) (a + 1)
      else if isW l (a + 1) 5 kCol2 = true then (uidR l f a).then fun u n => .ok (litE { li0 with k := 4, t := u.1, i := u.2 }) n
      else if varN (wdA l a).t = true then .ok (.mk 2 li0 (wdA l a).t [] []) (a + 1)
      else badF l a)
    else if isW l a 5 [40] = true then (rdE f 0 d (a + 1)).then fun x n => (mustW l 5 [41] n).then fun _ n => .ok x n
    else if isW l a 5 [91] = true then (if isW l (a + 1) 5 [93] = true then .ok (.mk 19 li0 [] [] []) (a + 2) else setE f d [] (a + 1))
    else if isW l a 5 [123] = true then (if isW l (a + 1) 5 [125] = true then .ok (.mk 20 li0 [] [] []) (a + 2) else recE f d [] [] (a + 1))
    else badF l a
  | f + 1, lv + 1, d, a => (rdE f (lv + 2) d a).then fun x n => rowE f (lv + 1) d x n
/-- A level's operators, from left to right. -/
def rowE : Nat → Nat → Nat → Ex → Int → Rd Ex
  | 0, _, _, _, a => badF l a
  | f + 1, lv, d, x, a => if opAt l lv a = 0 then .ok x a else (rdE f (lv + 1) d (a + 1)).then fun y n => rowE f lv d (nodE (opAt l lv a) [x, y]) n
/-- What is behind a member's first. -/
def memE : Nat → Nat → Ex → Int → Rd Ex
  | 0, _, _, a => badF l a
  | f + 1, d, x, a =>
    if isW l a 5 [46] = true then
      (textW l 1 (a + 1)).then fun s n =>
        if isW l n 5 [40] = true then (if metN s = 0 then badF l n else (rdE f 0 d (n + 1)).then fun y n => (mustW l 5 [41] n).then fun _ n => memE f d (nodE (metN s) [x, y]) n)
        else memE f d (namE 18 s x) n
    else if isW l a 5 [91] = true then (textW l 3 (a + 1)).then fun s n => (mustW l 5 [93] n).then fun _ n => memE f d (namE 18 s x) n
    else .ok x a
/-- A set's items. -/
def setE : Nat → Nat → List Ex → Int → Rd Ex
  | 0, _, _, a => badF l a
  | f + 1, d, xs, a => (rdE f 0 d a).then fun x n => if isW l n 5 [44] = true then setE f d (xs ++ [x]) (n + 1) else (mustW l 5 [93] n).then fun _ n => .ok (.mk 19 li0 [] (xs ++ [x]) []) n
/-- A record's fields. -/
def recE : Nat → Nat → List Ex → List (List UInt8) → Int → Rd Ex
  | 0, _, _, _, a => badF l a
  | f + 1, d, xs, ss, a => (textW l (if (wdA l a).k = 3 then 3 else 1) a).then fun s n => (mustW l 5 [58] n).then fun _ n => (rdE f 0 d n).then fun x n =>
      if isW l n 5 [44] = true then recE f d (xs ++ [x]) (ss ++ [s]) (n + 1) else (mustW l 5 [125] n).then fun _ n => .ok (.mk 20 li0 [] (xs ++ [x]) (ss ++ [s])) n
end
end
mutual
def exDep : Ex → Nat
  | .mk _ _ _ ks _ => exDepL ks + 1
def exDepL : List Ex → Nat
  | [] => 0
  | x :: r => max (exDep x) (exDepL r)
end
end Go.Proofs.YtflpidnkppljlaaDoor
namespace Go.Proofs.YtflpidnkppljlaaDoor
theorem then_ok {α β : Type} {r : Rd α} {g : α → Int → Rd β} {y : β} {m : Int} : r.then g = .ok y m ↔ ∃ x n, r = .ok x n ∧ g x n = .ok y m := by
  cases r with
  | bad e a => simp [Rd.then]
  | ok x n =>
    simp only [Rd.then]
    constructor
    · intro h; exact ⟨x, n, rfl, h⟩
    · rintro ⟨x', n', h, h2⟩
      injection h with h3 h4
      subst h3 h4
      exact h2
section
variable {l : List Wd}
theorem badF_ok {α : Type} {a : Int} {x : α} {n : Int} (h : badF l a = .ok x n) : False := by simp [badF] at h
theorem wd_in {a : Int} (h : (wdA l a).k ≠ 0) : 0 ≤ a ∧ a < (l.length : Int) := by
  unfold wdA at h
  by_cases h1 : 0 ≤ a ∧ a < (l.length : Int)
  · exact h1
  · rw [if_neg h1] at h; simp at h
theorem isW_in {a k : Int} {s : List UInt8} (h : isW l a k s = true) (hk : k ≠ 0) : 0 ≤ a ∧ a < (l.length : Int) := by
  unfold isW at h
  simp only [Bool.and_eq_true, beq_iff_eq] at h
  exact wd_in (by rw [h.1]; exact hk)
theorem mustW_ok {k a : Int} {s : List UInt8} {x : Unit} {n : Int} (h : mustW l k s a = .ok x n) (hk : k ≠ 0) : 0 ≤ a ∧ a < (l.length : Int) ∧ n = a + 1 := by
  unfold mustW at h
  by_cases h1 : isW l a k s = true
  · rw [if_pos h1] at h
    injection h with _ h2
    have := isW_in h1 hk
    omega
  · rw [if_neg h1] at h; exact (badF_ok h).elim
theorem textW_ok {k a : Int} {x : List UInt8} {n : Int} (h : textW l k a = .ok x n) (hk : k ≠ 0) : 0 ≤ a ∧ a < (l.length : Int) ∧ n = a + 1 := by
  unfold textW at h
  by_cases h1 : (wdA l a).k = k
  · rw [if_pos h1] at h
    injection h with _ h2
    have := wd_in (l := l) (a := a) (by rw [h1]; exact hk)
    omega
  · rw [if_neg h1] at h; exact (badF_ok h).elim
theorem pathM_ok : ∀ (f : Nat) {s : List UInt8} {a : Int} {x : List UInt8} {n : Int}, pathM l f s a = .ok x n → a ≤ (l.length : Int) → a ≤ n ∧ n ≤ (l.length : Int)
  | 0, s, a, x, n, h, ha => by
    simp only [pathM] at h
    injection h with _ h2
    omega
  | f + 1, s, a, x, n, h, ha => by
    simp only [pathM] at h
    by_cases h1 : isW l a 5 kCol2 = true ∧ (wdA l (a + 1)).k = 1
    · rw [if_pos h1] at h
      have h2 := wd_in (l := l) (a := a + 1) (by rw [h1.2]; decide)
      have := pathM_ok f h (by omega)
      omega
    · rw [if_neg h1] at h
      injection h with _ h2
      omega
theorem pathR_ok {f : Nat} {a : Int} {x : List UInt8} {n : Int} (h : pathR l f a = .ok x n) : 0 ≤ a ∧ a < n ∧ n ≤ (l.length : Int) := by
  unfold pathR at h
  split at h
  · exact (badF_ok h).elim
  · obtain ⟨s, m, h1, h2⟩ := then_ok.1 h
    have h3 := textW_ok h1 (by decide)
    have := pathM_ok f h2 (by omega)
    omega
theorem uidR_ok {f : Nat} {a : Int} {x : List UInt8 × List UInt8} {n : Int} (h : uidR l f a = .ok x n) : 0 ≤ a ∧ a < n ∧ n ≤ (l.length : Int) := by
  unfold uidR at h
  obtain ⟨t, m, h1, h2⟩ := then_ok.1 h
  obtain ⟨_, m2, h3, h4⟩ := then_ok.1 h2
  obtain ⟨i, m3, h5, h6⟩ := then_ok.1 h4
  have a1 := pathR_ok h1
  have a2 := mustW_ok h3 (by decide)
  have a3 := textW_ok h5 (by decide)
  injection h6 with _ h7
  omega
theorem opAt_in {lv : Nat} {a : Int} (h : opAt l lv a ≠ 0) : 0 ≤ a ∧ a < (l.length : Int) := by
  unfold opAt at h
  split at h
  · rename_i h1; exact isW_in h1.2 (by decide)
  · split at h
    · rename_i h1; exact isW_in h1.2 (by decide)
    · split at h
      · rename_i h1; exact isW_in h1.2 (by decide)
      · split at h
        · rename_i h1; exact isW_in h1.2 (by decide)
        · split at h
          · rename_i h1; exact isW_in h1.2 (by decide)
          · exact absurd rfl h
theorem relAt_in {a : Int} {op : Nat} (h : relAt l a = some op) : 0 ≤ a ∧ a < (l.length : Int) := by
  unfold relAt at h
  repeat' split at h
  all_goals first
    | (rename_i h1; exact isW_in h1 (by decide))
    | simp at h
/-- What the five say of how far they go. -/
structure AdvE (l : List Wd) (f : Nat) : Prop where
  rd : ∀ lv d a x n, rdE l f lv d a = .ok x n → 0 ≤ a ∧ a < n ∧ n ≤ (l.length : Int)
  row : ∀ lv d y a x n, rowE l f lv d y a = .ok x n → a ≤ (l.length : Int) → a ≤ n ∧ n ≤ (l.length : Int)
  mem : ∀ d y a x n, memE l f d y a = .ok x n → a ≤ (l.length : Int) → a ≤ n ∧ n ≤ (l.length : Int)
  set : ∀ d xs a x n, setE l f d xs a = .ok x n → a < n ∧ n ≤ (l.length : Int)
  rec' : ∀ d xs ss a x n, recE l f d xs ss a = .ok x n → a < n ∧ n ≤ (l.length : Int)
theorem row_adv {f : Nat} (ih : AdvE l f) (lv d : Nat) (y : Ex) (a : Int) (x : Ex) (n : Int) (h : rowE l (f + 1) lv d y a = .ok x n) (ha : a ≤ (l.length : Int)) : a ≤ n ∧ n ≤ (l.length : Int) := by
  simp only [rowE] at h
  split at h
  · injection h with _ h2; omega
  · obtain ⟨z, m, h1, h2⟩ := then_ok.1 h
    have b1 := ih.rd _ _ _ _ _ h1
    have b2 := ih.row _ _ _ _ _ _ h2 (by omega)
    omega
theorem mem_adv {f : Nat} (ih : AdvE l f) (d : Nat) (y : Ex) (a : Int) (x : Ex) (n : Int) (h : memE l (f + 1) d y a = .ok x n) (ha : a ≤ (l.length : Int)) : a ≤ n ∧ n ≤ (l.length : Int) := by
  simp only [memE] at h
  split at h
  · obtain ⟨s, m, h1, h2⟩ := then_ok.1 h
    have b1 := textW_ok h1 (by decide)
    split at h2
    · split at h2
      · exact (badF_ok h2).elim
      · obtain ⟨z, m2, h3, h4⟩ := then_ok.1 h2
        obtain ⟨_, m3, h5, h6⟩ := then_ok.1 h4
        have b2 := ih.rd _ _ _ _ _ h3
        have b3 := mustW_ok h5 (by decide)
        have b4 := ih.mem _ _ _ _ _ h6 (by omega)
        omega
    · have b4 := ih.mem _ _ _ _ _ h2 (by omega)
      omega
  · split at h
    · obtain ⟨s, m, h1, h2⟩ := then_ok.1 h
      obtain ⟨_, m3, h5, h6⟩ := then_ok.1 h2
      have b1 := textW_ok h1 (by decide)
      have b3 := mustW_ok h5 (by decide)
      have b4 := ih.mem _ _ _ _ _ h6 (by omega)
      omega
    · injection h with _ h2; omega
theorem set_adv {f : Nat} (ih : AdvE l f) (d : Nat) (xs : List Ex) (a : Int) (x : Ex) (n : Int) (h : setE l (f + 1) d xs a = .ok x n) : a < n ∧ n ≤ (l.length : Int) := by
  simp only [setE] at h
  obtain ⟨z, m, h1, h2⟩ := then_ok.1 h
  have b1 := ih.rd _ _ _ _ _ h1
  split at h2
  · have b2 := ih.set _ _ _ _ _ h2
    omega
  · obtain ⟨_, m3, h5, h6⟩ := then_ok.1 h2
    have b3 := mustW_ok h5 (by decide)
    injection h6 with _ h7
    omega
theorem rec_adv {f : Nat} (ih : AdvE l f) (d : Nat) (xs : List Ex) (ss : List (List UInt8)) (a : Int) (x : Ex) (n : Int) (h : recE l (f + 1) d xs ss a = .ok x n) : a < n ∧ n ≤ (l.length : Int) := by
  simp only [recE] at h
  obtain ⟨s, m0, h0, h0'⟩ := then_ok.1 h
  obtain ⟨_, m1, h1, h1'⟩ := then_ok.1 h0'
  obtain ⟨z, m, h2, h2'⟩ := then_ok.1 h1'
  have b0 := textW_ok h0 (by split <;> decide)
  have b1 := mustW_ok h1 (by decide)
  have b2 := ih.rd _ _ _ _ _ h2
  split at h2'
  · have b3 := ih.rec' _ _ _ _ _ _ h2'
    omega
  · obtain ⟨_, m3, h5, h6⟩ := then_ok.1 h2'
    have b3 := mustW_ok h5 (by decide)
    injection h6 with _ h7
    omega
theorem prim_adv {f : Nat} (ih : AdvE l f) (d : Nat) (a : Int) (x : Ex) (n : Int) (h : rdE l (f + 1) 8 d a = .ok x n) : 0 ≤ a ∧ a < n ∧ n ≤ (l.length : Int) := by
  simp only [rdE] at h
  split at h
  · rename_i k; have := wd_in (l := l) (a := a) (by rw [k]; decide); injection h with _ h2; omega
  · split at h
    · rename_i k; have := wd_in (l := l) (a := a) (by rw [k]; decide); injection h with _ h2; omega
    · split at h
      · rename_i k
        have := wd_in (l := l) (a := a) (by rw [k]; decide)
        split at h
        · injection h with _ h2; omega
        · exact (badF_ok h).elim
      · split at h
        · rename_i k
          have := wd_in (l := l) (a := a) (by rw [k]; decide)
          split at h
          · injection h with _ h2; omega
          · split at h
            · obtain ⟨u, m, h1, h2⟩ := then_ok.1 h
              have b := uidR_ok h1
              injection h2 with _ h3
              omega
            · split at h
              · injection h with _ h2; omega
              · exact (badF_ok h).elim
        · split at h
          · rename_i k
            have := isW_in k (by decide)
            obtain ⟨u, m, h1, h2⟩ := then_ok.1 h
            obtain ⟨_, m3, h5, h6⟩ := then_ok.1 h2
            have b1 := ih.rd _ _ _ _ _ h1
            have b3 := mustW_ok h5 (by decide)
            injection h6 with _ h7
            omega
          · split at h
            · rename_i k
              have := isW_in k (by decide)
              split at h
              · rename_i k2
                have := isW_in k2 (by decide)
                injection h with _ h2; omega
              · have b := ih.set _ _ _ _ _ h
                omega
            · split at h
              · rename_i k
                have := isW_in k (by decide)
                split at h
                · rename_i k2
                  have := isW_in k2 (by decide)
                  injection h with _ h2; omega
                · have b := ih.rec' _ _ _ _ _ _ h
                  omega
              · exact (badF_ok h).elim
theorem expr_adv {f : Nat} (ih : AdvE l f) (d : Nat) (a : Int) (x : Ex) (n : Int) (h : rdE l (f + 1) 0 d a = .ok x n) : 0 ≤ a ∧ a < n ∧ n ≤ (l.length : Int) := by
  simp only [rdE] at h
  split at h
  · simp at h
  · split at h
    · rename_i k
      have b0 := isW_in k (by decide)
      obtain ⟨x1, m1, h1, h1'⟩ := then_ok.1 h
      obtain ⟨_, m2, h2, h2'⟩ := then_ok.1 h1'
      obtain ⟨x3, m3, h3, h3'⟩ := then_ok.1 h2'
      obtain ⟨_, m4, h4, h4'⟩ := then_ok.1 h3'
      obtain ⟨x5, m5, h5, h5'⟩ := then_ok.1 h4'
      have b1 := ih.rd _ _ _ _ _ h1
      have b2 := mustW_ok h2 (by decide)
      have b3 := ih.rd _ _ _ _ _ h3
      have b4 := mustW_ok h4 (by decide)
      have b5 := ih.rd _ _ _ _ _ h5
      injection h5' with _ h6
      omega
    · exact ih.rd _ _ _ _ _ h
theorem unary_adv {f : Nat} (ih : AdvE l f) (d : Nat) (a : Int) (x : Ex) (n : Int) (h : rdE l (f + 1) 6 d a = .ok x n) : 0 ≤ a ∧ a < n ∧ n ≤ (l.length : Int) := by
  simp only [rdE] at h
  split at h
  · simp at h
  · split at h
    · rename_i k
      have b0 := isW_in k (by decide)
      obtain ⟨x1, m1, h1, h1'⟩ := then_ok.1 h
      have b1 := ih.rd _ _ _ _ _ h1
      injection h1' with _ h6
      omega
    · split at h
      · rename_i k
        have b0 := isW_in k (by decide)
        obtain ⟨x1, m1, h1, h1'⟩ := then_ok.1 h
        have b1 := ih.rd _ _ _ _ _ h1
        injection h1' with _ h6
        omega
      · exact ih.rd _ _ _ _ _ h
theorem rel_adv {f : Nat} (ih : AdvE l f) (d : Nat) (a : Int) (x : Ex) (n : Int) (h : rdE l (f + 1) 3 d a = .ok x n) : 0 ≤ a ∧ a < n ∧ n ≤ (l.length : Int) := by
  simp only [rdE] at h
  obtain ⟨x1, m1, h1, h1'⟩ := then_ok.1 h
  have b1 := ih.rd _ _ _ _ _ h1
  split at h1'
  · obtain ⟨x2, m2, h2, h2'⟩ := then_ok.1 h1'
    have b2 := ih.rd _ _ _ _ _ h2
    injection h2' with _ h6
    omega
  · split at h1'
    · obtain ⟨x2, m2, h2, h2'⟩ := then_ok.1 h1'
      have b2 := textW_ok h2 (by decide)
      injection h2' with _ h6
      omega
    · split at h1'
      · obtain ⟨x2, m2, h2, h2'⟩ := then_ok.1 h1'
        have b2 := pathR_ok h2
        injection h2' with _ h6
        omega
      · injection h1' with _ h6
        omega
theorem memb_adv {f : Nat} (ih : AdvE l f) (d : Nat) (a : Int) (x : Ex) (n : Int) (h : rdE l (f + 1) 7 d a = .ok x n) : 0 ≤ a ∧ a < n ∧ n ≤ (l.length : Int) := by
  simp only [rdE] at h
  obtain ⟨x1, m1, h1, h1'⟩ := then_ok.1 h
  have b1 := ih.rd _ _ _ _ _ h1
  have b2 := ih.mem _ _ _ _ _ h1' (by omega)
  omega
theorem lev_adv {f : Nat} (ih : AdvE l f) (lv d : Nat) (a : Int) (x : Ex) (n : Int) (h : ((rdE l f (lv + 1) d a).then fun x n => rowE l f lv d x n) = .ok x n) : 0 ≤ a ∧ a < n ∧ n ≤ (l.length : Int) := by
  obtain ⟨x1, m1, h1, h1'⟩ := then_ok.1 h
  have b1 := ih.rd _ _ _ _ _ h1
  have b2 := ih.row _ _ _ _ _ _ h1' (by omega)
  omega
theorem advE : ∀ f, AdvE l f
  | 0 => ⟨fun lv d a x n h => by simp only [rdE] at h; exact (badF_ok h).elim, fun lv d y a x n h _ => by simp only [rowE] at h; exact (badF_ok h).elim, fun d y a x n h _ => by simp only [memE] at h; exact (badF_ok h).elim, fun d xs a x n h => by simp only [setE] at h; exact (badF_ok h).elim, fun d xs ss a x n h => by simp only [recE] at h; exact (badF_ok h).elim⟩
  | f + 1 => by
    have ih := advE f
    refine ⟨fun lv d a x n h => ?_, row_adv ih, mem_adv ih, set_adv ih, rec_adv ih⟩
    match lv, h with
    | 0, h => exact expr_adv ih d a x n h
    | 1, h => simp only [rdE] at h; exact lev_adv ih 1 d a x n h
    | 2, h => simp only [rdE] at h; exact lev_adv ih 2 d a x n h
    | 3, h => exact rel_adv ih d a x n h
    | 4, h => simp only [rdE] at h; exact lev_adv ih 4 d a x n h
    | 5, h => simp only [rdE] at h; exact lev_adv ih 5 d a x n h
    | 6, h => exact unary_adv ih d a x n h
    | 7, h => exact memb_adv ih d a x n h
    | 8, h => exact prim_adv ih d a x n h
    | k + 9, h => simp only [rdE] at h; exact lev_adv ih (k + 9) d a x n h
/-- How many words are left. -/
def leftW (l : List Wd) (a : Int) : Nat := if 0 ≤ a ∧ a < (l.length : Int) then l.length - a.toNat else 0
theorem left_less {a n : Int} (h0 : 0 ≤ a) (h1 : a < n) (h2 : n ≤ (l.length : Int)) : leftW l n + 1 ≤ leftW l a := by
  unfold leftW
  rw [if_pos (show 0 ≤ a ∧ a < (l.length : Int) from ⟨h0, by omega⟩)]
  split <;> omega
theorem left_le {a n : Int} (h0 : 0 ≤ a) (h1 : a ≤ n) : leftW l n ≤ leftW l a := by
  unfold leftW
  by_cases hn : 0 ≤ n ∧ n < (l.length : Int)
  · rw [if_pos hn, if_pos (show 0 ≤ a ∧ a < (l.length : Int) from ⟨h0, by omega⟩)]; omega
  · rw [if_neg hn]; exact Nat.zero_le _
end
end Go.Proofs.YtflpidnkppljlaaDoor
namespace Go.Proofs.YtflpidnkppljlaaDoor
open Go.RowKit
theorem low_new {a b : World} (h : Low a b) (o : Obj) : Low a (b.alloc o) := h.trans (Low.of_below ((Below.refl b.heap.size b).alloc (Nat.le_refl _) o))
def encW (x : Wd) : List Value := [.int .i64 x.k, .string ⟨x.t.toArray⟩, .int .i64 x.n, .int .i64 (x.a : Int)]
theorem encW_len (x : Wd) : (encW x).length = 4 := rfl
theorem encW_one (x : Wd) : ∀ u ∈ encW x, u.oneCell' = true := by
  intro u hu
  simp only [encW, List.mem_cons, List.not_mem_nil, or_false] at hu
  rcases hu with rfl | rfl | rfl | rfl <;> rfl
end Go.Proofs.YtflpidnkppljlaaDoor
