/- What a part of a text holds. No condition. How long a word goes on, told by a closure; package lex's gap and length of a name. Condition: the length that any string has. -/
import Derived.WalkKit
import Derived.Test.YtflpidnkppljlaaDoorExP
import Derived.Test.YtflpidnkppljlaaDoorNms
import Derived.Test.YtflpidnkppljlaaDoorShelf
import Derived.WalkLawsBesides
import Derived.WalkSpells
import Derived.Deep.LoopGhost
set_option linter.unusedVariables false
set_option linter.unnecessarySimpa false
set_option linter.unusedSimpArgs false
namespace Go.Proofs.YtflpidnkppljlaaDoor
theorem ext_data (s : ByteArray) (a b : Nat) : (s.extract a b).data.toList = (s.data.toList.drop a).take (b - a) := by
  rw [ByteArray.data_extract]; simp
theorem ext_to (s : ByteArray) (a : Nat) : (s.extract a s.size).data.toList = s.data.toList.drop a := by
  rw [ext_data, List.take_of_length_le]
  rw [List.length_drop]; exact Nat.le_refl _
theorem ext_le (s : ByteArray) (a b : Nat) : (s.extract a b).size ≤ s.size := by rw [ByteArray.size_extract]; omega
end Go.Proofs.YtflpidnkppljlaaDoor
namespace Go.Proofs.YtflpidnkppljlaaDoor
open Go.RowKit
theorem eqb (c n : UInt8) : ((c.toNat : Int) == (n.toNat : Int)) = (c == n) := by rw [Bool.eq_iff_iff]; simp [← UInt8.toNat_inj]; omega
theorem neb (c n : UInt8) : ((c.toNat : Int) != (n.toNat : Int)) = !(c == n) := by unfold bne; rw [eqb]
/-- The byte at a place. -/
def gb (d : ByteArray) (i : Nat) : UInt8 := d.data.toList.getD i 0
theorem gb_lt {d : ByteArray} {i : Nat} (h : i < d.size) : d[i] = gb d i := by
  have h' : i < d.data.toList.length := by simpa using h
  unfold gb; rw [List.getD_eq_getElem?_getD, List.getElem?_eq_getElem h']; rfl
theorem gb_list {d : ByteArray} {i : Nat} (h : i < d.data.toList.length) : d.data.toList[i] = gb d i := by
  unfold gb; rw [List.getD_eq_getElem?_getD, List.getElem?_eq_getElem h]; rfl
theorem span_gb {d : ByteArray} {p : UInt8 → Bool} {k : Nat} (hk : k ≤ d.size) (h1 : ∀ i, i < k → p (gb d i) = true) (h0 : k < d.size → p (gb d k) = false) : spanN p d.data.toList = k :=
  spanN_eq (by simpa using hk) (fun i h hi => by rw [gb_list h]; exact h1 i hi) (fun h => by rw [gb_list h]; exact h0 (by simpa using h))
set_option maxHeartbeats 800000 in
theorem lexBlank_c (c : UInt8) (w : World) : Calls Tryd.prog 21 #[.int .u8 c.toNat] w fun e w' => e = .returned (.bool (blkB c)) ∧ w = w' := by
  have q1 : ((c.toNat : Int) == 9) = (c == 9) := eqb c 9
  have q2 : ((c.toNat : Int) == 10) = (c == 10) := eqb c 10
  have q3 : ((c.toNat : Int) == 13) = (c == 13) := eqb c 13
  have q4 : ((c.toNat : Int) == 32) = (c == 32) := eqb c 32
  cases h1 : c == 9 <;> cases h2 : c == 10 <;> cases h3 : c == 13 <;> cases h4 : c == 32
  all_goals
    have E : Hid (blkB c = (false || true && (c == 9 || c == 10 || c == 13 || c == 32))) := by show _ = _; unfold blkB; simp
    rw [h1, h2, h3, h4] at E
    rw [h1] at q1
    rw [h2] at q2
    rw [h3] at q3
    rw [h4] at q4
    clear h1 h2 h3 h4
    go_enter Tryd.func21, Tryd.ntmps21
    go_wp2
    go_ret
    exact ⟨retB (by rw [E.out]; rfl), rfl⟩
set_option maxHeartbeats 400000 in
theorem lexDigit_c (c : UInt8) (w : World) : Calls Tryd.prog 26 #[.int .u8 c.toNat] w fun e w' => e = .returned (.bool (digB c)) ∧ w = w' := by
  by_cases h1 : 48 ≤ (c.toNat : Int)
  · by_cases h2 : (c.toNat : Int) ≤ 57
    all_goals
      have E : Hid (digB c = decide ((c.toNat : Int) ≤ 57)) := by show _ = _; unfold digB; simp only [h1, h2, true_and]
      go_enter Tryd.func26, Tryd.ntmps26
      go_wp2
      go_ret
      exact ⟨retB (by rw [E.out]; simp [h2]), rfl⟩
  · have E : Hid (digB c = false) := by show _ = _; unfold digB; simp only [h1, false_and, decide_false]
    go_enter Tryd.func26, Tryd.ntmps26
    go_wp2
    go_ret
    exact ⟨retB (by rw [E.out]), rfl⟩
theorem gap1_c (d : ByteArray) (i : Nat) (hi : i < d.size) (bx : Nat) (w : World) (hb : w.cell? ⟨bx, 0, none⟩ = some (.string d)) :
    Calls Tryd.prog 20 #[.int .i64 (i : Int), .pointer (some ⟨bx, 0, none⟩)] w fun e w' => e = .returned (.bool (blkB (gb d i))) ∧ w = w' := by
  have HC := Lib.hid (gb_lt hi)
  go_enter Tryd.func20, Tryd.ntmps20
  go_wp2_with fail
  rw [HC.out]
  refine (lexBlank_c _ _).mono ?_
  rintro e w' ⟨rfl, rfl⟩
  go_wp2_with fail
  go_ret
  exact ⟨rfl, rfl⟩
theorem gap2_c (d : ByteArray) (i : Nat) (hi : i < d.size) (bx : Nat) (w : World) (hb : w.cell? ⟨bx, 0, none⟩ = some (.string d)) :
    Calls Tryd.prog 23 #[.int .i64 (i : Int), .pointer (some ⟨bx, 0, none⟩)] w fun e w' => e = .returned (.bool (notLf (gb d i))) ∧ w = w' := by
  have HC := gb_lt hi
  have q : Hid (((d[i].toNat : Int) != 10) = notLf (gb d i)) := Lib.hid (by rw [HC]; exact neb (gb d i) 10)
  clear HC
  go_enter Tryd.func23, Tryd.ntmps23
  go_wp2_with fail
  go_ret
  exact ⟨retB q.out, rfl⟩
theorem num1_c (d : ByteArray) (i : Nat) (hi : i < d.size) (bx : Nat) (w : World) (hb : w.cell? ⟨bx, 0, none⟩ = some (.string d)) :
    Calls Tryd.prog 38 #[.int .i64 (i : Int), .pointer (some ⟨bx, 0, none⟩)] w fun e w' => e = .returned (.bool (digB (gb d i))) ∧ w = w' := by
  have HC := Lib.hid (gb_lt hi)
  go_enter Tryd.func38, Tryd.ntmps38
  go_wp2_with fail
  rw [HC.out]
  refine (lexDigit_c _ _).mono ?_
  rintro e w' ⟨rfl, rfl⟩
  go_wp2_with fail
  go_ret
  exact ⟨rfl, rfl⟩
/-- What a name's closure answers. -/
def namQ (d : ByteArray) (i : Nat) : Bool := letR (gb d i) || (decide (0 < i) && digB (gb d i))
theorem one_name {d : ByteArray} {i : Nat} (hi : i < d.size) : nameB (d.extract i (i + 1)).data.toList = letR (gb d i) := by
  have h' : i < d.data.toList.length := by simpa using hi
  rw [ext_data, List.drop_eq_getElem_cons h', gb_list h', show i + 1 - i = 1 from by omega]
  show nameB [gb d i] = _
  unfold nameB namB letR
  generalize gb d i = c
  have : letB c = true → digB c = false := by
    unfold letB digB; simp; omega
  have h2 : (c == 95) = true → digB c = false := by
    intro h; simp at h; subst h; decide
  cases h : digB c
  · simp [h]
  · cases hl : letB c
    · cases hu : c == 95
      · simp [h]
      · rw [h2 hu] at h; cases h
    · rw [this hl] at h; cases h
set_option maxHeartbeats 800000 in
theorem nam1_c (d : ByteArray) (hd : d.size ≤ 9223372036854775807) (i : Nat) (hi : i < d.size) (bx : Nat) (w : World) (hb : w.cell? ⟨bx, 0, none⟩ = some (.string d)) :
    Calls Tryd.prog 40 #[.int .i64 (i : Int), .pointer (some ⟨bx, 0, none⟩)] w fun e w' => e = .returned (.bool (namQ d i)) ∧ w = w' := by
  have HC := Lib.hid (gb_lt hi)
  have HN := one_name hi
  have HL : Hid ((d.extract i (i + 1)).size ≤ 9223372036854775807) := Lib.hid (Nat.le_trans (ext_le _ _ _) hd)
  have HZ : (i : Int) + 1 ≤ (d.size : Int) := by omega
  cases hl : letR (gb d i) with
  | true =>
    have HQ : Hid (namQ d i = true) := Lib.hid (by unfold namQ; rw [hl]; rfl)
    rw [hl] at HN
    have HN := Lib.hid HN
    clear hl
    go_enter Tryd.func40, Tryd.ntmps40
    go_wp2_with fail
    refine (name_c _ HL.out _).mono ?_
    rintro e w' ⟨rfl, rfl⟩
    rw [HN.out]
    go_wp2_with fail
    go_ret
    exact ⟨retB HQ.out.symm, rfl⟩
  | false =>
    rw [hl] at HN
    have HN' := Lib.hid HN
    clear HN
    by_cases h0 : 0 < i
    · have HQ : Hid (namQ d i = digB (gb d i)) := Lib.hid (by unfold namQ; rw [hl]; simp [h0])
      have z0 : (0 : Int) < (i : Int) := by omega
      clear hl
      go_enter Tryd.func40, Tryd.ntmps40
      go_wp2_with fail
      refine (name_c _ HL.out _).mono ?_
      rintro e w' ⟨rfl, rfl⟩
      rw [HN'.out]
      go_wp2_with fail
      rw [HC.out]
      refine (lexDigit_c _ _).mono ?_
      rintro e w' ⟨rfl, rfl⟩
      go_wp2_with fail
      go_ret
      exact ⟨retB HQ.out.symm, rfl⟩
    · have HQ : Hid (namQ d i = false) := Lib.hid (by unfold namQ; rw [hl]; simp [h0])
      have z0 : ¬ (0 : Int) < (i : Int) := by omega
      clear hl
      go_enter Tryd.func40, Tryd.ntmps40
      go_wp2_with fail
      refine (name_c _ HL.out _).mono ?_
      rintro e w' ⟨rfl, rfl⟩
      rw [HN'.out]
      go_wp2_with fail
      go_ret
      exact ⟨retB HQ.out.symm, rfl⟩
/-! ### A closure that remembers whether an odd number of backslashes stands ahead -/
def oddS (o : Bool) (l : List UInt8) : Nat → Bool
  | 0 => o
  | k + 1 => l.getD k 0 == 92 && !oddS o l k
theorem oddS_cons (o : Bool) (c : UInt8) (l : List UInt8) : ∀ k, oddS o (c :: l) (k + 1) = oddS (c == 92 && !o) l k
  | 0 => rfl
  | k + 1 => by
    have ih := oddS_cons o c l k
    show ((c :: l).getD (k + 1) 0 == 92 && !oddS o (c :: l) (k + 1)) = (l.getD k 0 == 92 && !oddS (c == 92 && !o) l k)
    rw [ih]; rfl
theorem endQ_eq : ∀ (o : Bool) (l : List UInt8) (k : Nat), k ≤ l.length → (∀ i, i < k → (l.getD i 0 == 34 && !oddS o l i) = false) → (k < l.length → (l.getD k 0 == 34 && !oddS o l k) = true) → endQ o l = k
  | o, [], k, hk, _, _ => by simp at hk; simp [endQ, hk]
  | o, c :: r, 0, _, _, h0 => by
    have h : (c == 34 && !o) = true := h0 (by simp)
    show (if (c == 34 && !o) = true then 0 else endQ (c == 92 && !o) r + 1) = 0
    rw [if_pos h]
  | o, c :: r, k + 1, hk, h1, h0 => by
    have h : ¬ (c == 34 && !o) = true := by have : (c == 34 && !o) = false := h1 0 (by omega); simp [this]
    show (if (c == 34 && !o) = true then 0 else endQ (c == 92 && !o) r + 1) = k + 1
    rw [if_neg h, endQ_eq _ r k (by simpa using hk) (fun i hi => ?_) (fun hl => ?_)]
    · have := h1 (i + 1) (by omega)
      rwa [oddS_cons] at this
    · have := h0 (by simpa using hl)
      rwa [oddS_cons] at this
/-- Whether the closure of a quoted text goes on at a place. -/
def quoQ (d : ByteArray) (i : Nat) : Bool := !(decide (0 < i) && (gb d i == 34) && !oddS false d.data.toList i)
theorem low_put {w W : World} {b o : Nat} {v : Value} (h : Low w W) (hb : w.heap.size ≤ b) : Low w (W.setCell ⟨b, o, none⟩ v) :=
  ⟨h.1, h.2.1, by have := h.2.2.1; simpa [World.setCell] using this, fun k hk => (Below.heap_setCell W ⟨b, o, none⟩ v k (by show k ≠ b; omega)).trans (h.2.2.2 k hk)⟩
structure OddSt (W0 : World) (d : ByteArray) (bs bo : Nat) (o : Bool) (w : World) : Prop where
  s : w.cell? ⟨bs, 0, none⟩ = some (.string d)
  o : w.cell? ⟨bo, 0, none⟩ = some (.bool o)
  f : w.frozen? ⟨bo, 0, none⟩ = false
  low : Low W0 w
  ne : bs ≠ bo
  new : W0.heap.size ≤ bo
theorem OddSt.put {W0 : World} {d : ByteArray} {bs bo : Nat} {o : Bool} {w : World} (h : OddSt W0 d bs bo o w) (o2 : Bool) : OddSt W0 d bs bo o2 (w.setCell ⟨bo, 0, none⟩ (.bool o2)) := by
  refine ⟨?_, World.cell?_setCell_same' w _ _ (by rw [h.o]; rfl), by simp [h.f], low_put h.low h.new, h.ne, h.new⟩
  exact (World.cell?_of_block (w := w) (Below.heap_setCell w ⟨bo, 0, none⟩ _ bs h.ne)).trans h.s
set_option maxHeartbeats 1600000 in
theorem quo1_c (W0 : World) (d : ByteArray) (i : Nat) (hi : i < d.size) (bs bo : Nat) (w : World) (h : OddSt W0 d bs bo (oddS false d.data.toList i) w) :
    Calls Tryd.prog 36 #[.int .i64 (i : Int), .pointer (some ⟨bs, 0, none⟩), .pointer (some ⟨bo, 0, none⟩)] w fun e w' => e = .returned (.bool (quoQ d i)) ∧ OddSt W0 d bs bo (oddS false d.data.toList (i + 1)) w' := by
  have hs := h.s
  have ho := h.o
  have hf := h.f
  have q1 : ((d[i].toNat : Int) == 34) = (gb d i == 34) := by rw [gb_lt hi]; exact eqb (gb d i) 34
  have q2 : ((d[i].toNat : Int) == 92) = (gb d i == 92) := by rw [gb_lt hi]; exact eqb (gb d i) 92
  have T : oddS false d.data.toList (i + 1) = (gb d i == 92 && !oddS false d.data.toList i) := rfl
  have QQ : quoQ d i = !(decide (0 < i) && (gb d i == 34) && !oddS false d.data.toList i) := rfl
  rw [T, QQ]
  clear T QQ
  have H := Lib.hid h
  clear h
  generalize oddS false d.data.toList i = o at *
  have no34 : (gb d i == 34) = true → (gb d i == 92) = false := by intro h; simp at h; rw [h]; decide
  cases h1 : gb d i == 34 <;> cases h2 : gb d i == 92 <;> cases o <;> by_cases h0 : 0 < i <;> first | (exfalso; rw [no34 h1] at h2; cases h2; done) | skip
  all_goals
    have z0 : decide ((0 : Int) < (i : Int)) = decide (0 < i) := by by_cases h0 : 0 < i <;> simp [h0]
    simp only [h0, decide_true, decide_false] at z0
    rw [h1] at q1
    rw [h2] at q2
    clear h1 h2 no34
    go_enter Tryd.func36, Tryd.ntmps36
    go_wp2_with fail
    go_ret
    exact ⟨retB (by simp [h0]), H.out.put _⟩
set_option maxHeartbeats 800000 in
theorem lenG_c (q : Nat → Bool) (I : Nat → World → Prop) (s : ByteArray) (hs : s.size ≤ 9223372036854775807) (b0 : Nat) (w : World) (h0 : I 0 w)
    (hc : ∀ i, i < s.size → ∀ w', I i w' → Calls Tryd.prog 20 #[.int .i64 (i : Int), .pointer (some ⟨b0, 0, none⟩)] w' fun e w'' => e = .returned (.bool (q i)) ∧ I (i + 1) w'') :
    Calls Tryd.prog 19 #[.string s, .func (.func 20) #[] #[.pointer (some ⟨b0, 0, none⟩)]] w fun e w' => ∃ k : Nat, e = .returned (.int .i64 (k : Int)) ∧ k ≤ s.size ∧ (∀ i, i < k → q i = true) ∧ (k < s.size → q k = false) ∧ ∃ j, I j w' := by
  have HI := Lib.hid hc
  have H0 := Lib.hid h0
  clear hc h0
  go_enter Tryd.func19, Tryd.ntmps19
  go_wp2_with fail
  go_loopg [8] s.size (fun gk vi wr => ∃ i : Nat, vi = .int .i64 (i : Int) ∧ i ≤ s.size ∧ s.size - i ≤ gk ∧ Hid (I i wr) ∧ Hid (∀ j, j < i → q j = true))
  case atStart => exact ⟨0, rfl, Nat.zero_le _, Nat.le_refl _, H0, Lib.hid (fun j hj => absurd hj (Nat.not_lt_zero _))⟩
  case round =>
    obtain ⟨i, rfl, hi, hg, G, K⟩ := hrel
    by_cases hlt : i < s.size
    · have z1 : (i : Int) < (s.size : Int) := by omega
      have hcon := HI.out i hlt wr G.out
      have hst : ∀ b, q i = b → (b = true → Hid (∀ j, j < i + 1 → q j = true)) := fun b hb ht => Lib.hid fun j hj => by
        rcases Nat.lt_or_ge j i with h | h
        · exact K.out j h
        · rw [show j = i from by omega, hb, ht]
      obtain ⟨b, hb⟩ : ∃ b, q i = b := ⟨_, rfl⟩
      have HST := hst b hb
      rw [hb] at hcon
      have HC := Lib.hid hcon
      have HB := Lib.hid hb
      clear hcon hst hb
      go_wp2_with fail
      refine HC.out.mono ?_
      rintro e w1 ⟨rfl, g⟩
      have G1 := Lib.hid g
      clear g
      cases b with
      | true =>
        have HS := HST rfl
        go_wp2_with fail
        go_roundg (s.size - (i + 1))
        case measure => omega
        case rel => exact ⟨i + 1, by go_num, by omega, by omega, G1, HS⟩
      | false =>
        go_wp2_with fail
        go_ret
        exact ⟨i, rfl, by omega, K.out, fun _ => HB.out, _, G1.out⟩
    · have z1 : ¬ (i : Int) < (s.size : Int) := by omega
      have hie : i = s.size := by omega
      go_wp2_with fail
      go_ret
      exact ⟨s.size, rfl, Nat.le_refl _, hie ▸ K.out, fun h => absurd h (Nat.lt_irrefl _), _, G.out⟩
set_option maxHeartbeats 800000 in
theorem lenH_c (q : Nat → Bool) (I : Nat → World → Prop) (s : ByteArray) (hs : s.size ≤ 9223372036854775807) (b0 : Nat) (w : World) (h0 : I 0 w)
    (hc : ∀ i, i < s.size → ∀ w', I i w' → Calls Tryd.prog 23 #[.int .i64 (i : Int), .pointer (some ⟨b0, 0, none⟩)] w' fun e w'' => e = .returned (.bool (q i)) ∧ I (i + 1) w'') :
    Calls Tryd.prog 19 #[.string s, .func (.func 23) #[] #[.pointer (some ⟨b0, 0, none⟩)]] w fun e w' => ∃ k : Nat, e = .returned (.int .i64 (k : Int)) ∧ k ≤ s.size ∧ (∀ i, i < k → q i = true) ∧ (k < s.size → q k = false) ∧ ∃ j, I j w' := by
  have HI := Lib.hid hc
  have H0 := Lib.hid h0
  clear hc h0
  go_enter Tryd.func19, Tryd.ntmps19
  go_wp2_with fail
  go_loopg [8] s.size (fun gk vi wr => ∃ i : Nat, vi = .int .i64 (i : Int) ∧ i ≤ s.size ∧ s.size - i ≤ gk ∧ Hid (I i wr) ∧ Hid (∀ j, j < i → q j = true))
  case atStart => exact ⟨0, rfl, Nat.zero_le _, Nat.le_refl _, H0, Lib.hid (fun j hj => absurd hj (Nat.not_lt_zero _))⟩
  case round =>
    obtain ⟨i, rfl, hi, hg, G, K⟩ := hrel
    by_cases hlt : i < s.size
    · have z1 : (i : Int) < (s.size : Int) := by omega
      have hcon := HI.out i hlt wr G.out
      have hst : ∀ b, q i = b → (b = true → Hid (∀ j, j < i + 1 → q j = true)) := fun b hb ht => Lib.hid fun j hj => by
        rcases Nat.lt_or_ge j i with h | h
        · exact K.out j h
        · rw [show j = i from by omega, hb, ht]
      obtain ⟨b, hb⟩ : ∃ b, q i = b := ⟨_, rfl⟩
      have HST := hst b hb
      rw [hb] at hcon
      have HC := Lib.hid hcon
      have HB := Lib.hid hb
      clear hcon hst hb
      go_wp2_with fail
      refine HC.out.mono ?_
      rintro e w1 ⟨rfl, g⟩
      have G1 := Lib.hid g
      clear g
      cases b with
      | true =>
        have HS := HST rfl
        go_wp2_with fail
        go_roundg (s.size - (i + 1))
        case measure => omega
        case rel => exact ⟨i + 1, by go_num, by omega, by omega, G1, HS⟩
      | false =>
        go_wp2_with fail
        go_ret
        exact ⟨i, rfl, by omega, K.out, fun _ => HB.out, _, G1.out⟩
    · have z1 : ¬ (i : Int) < (s.size : Int) := by omega
      have hie : i = s.size := by omega
      go_wp2_with fail
      go_ret
      exact ⟨s.size, rfl, Nat.le_refl _, hie ▸ K.out, fun h => absurd h (Nat.lt_irrefl _), _, G.out⟩
set_option maxHeartbeats 800000 in
theorem lenN_c (q : Nat → Bool) (I : Nat → World → Prop) (s : ByteArray) (hs : s.size ≤ 9223372036854775807) (b0 : Nat) (w : World) (h0 : I 0 w)
    (hc : ∀ i, i < s.size → ∀ w', I i w' → Calls Tryd.prog 38 #[.int .i64 (i : Int), .pointer (some ⟨b0, 0, none⟩)] w' fun e w'' => e = .returned (.bool (q i)) ∧ I (i + 1) w'') :
    Calls Tryd.prog 19 #[.string s, .func (.func 38) #[] #[.pointer (some ⟨b0, 0, none⟩)]] w fun e w' => ∃ k : Nat, e = .returned (.int .i64 (k : Int)) ∧ k ≤ s.size ∧ (∀ i, i < k → q i = true) ∧ (k < s.size → q k = false) ∧ ∃ j, I j w' := by
  have HI := Lib.hid hc
  have H0 := Lib.hid h0
  clear hc h0
  go_enter Tryd.func19, Tryd.ntmps19
  go_wp2_with fail
  go_loopg [8] s.size (fun gk vi wr => ∃ i : Nat, vi = .int .i64 (i : Int) ∧ i ≤ s.size ∧ s.size - i ≤ gk ∧ Hid (I i wr) ∧ Hid (∀ j, j < i → q j = true))
  case atStart => exact ⟨0, rfl, Nat.zero_le _, Nat.le_refl _, H0, Lib.hid (fun j hj => absurd hj (Nat.not_lt_zero _))⟩
  case round =>
    obtain ⟨i, rfl, hi, hg, G, K⟩ := hrel
    by_cases hlt : i < s.size
    · have z1 : (i : Int) < (s.size : Int) := by omega
      have hcon := HI.out i hlt wr G.out
      have hst : ∀ b, q i = b → (b = true → Hid (∀ j, j < i + 1 → q j = true)) := fun b hb ht => Lib.hid fun j hj => by
        rcases Nat.lt_or_ge j i with h | h
        · exact K.out j h
        · rw [show j = i from by omega, hb, ht]
      obtain ⟨b, hb⟩ : ∃ b, q i = b := ⟨_, rfl⟩
      have HST := hst b hb
      rw [hb] at hcon
      have HC := Lib.hid hcon
      have HB := Lib.hid hb
      clear hcon hst hb
      go_wp2_with fail
      refine HC.out.mono ?_
      rintro e w1 ⟨rfl, g⟩
      have G1 := Lib.hid g
      clear g
      cases b with
      | true =>
        have HS := HST rfl
        go_wp2_with fail
        go_roundg (s.size - (i + 1))
        case measure => omega
        case rel => exact ⟨i + 1, by go_num, by omega, by omega, G1, HS⟩
      | false =>
        go_wp2_with fail
        go_ret
        exact ⟨i, rfl, by omega, K.out, fun _ => HB.out, _, G1.out⟩
    · have z1 : ¬ (i : Int) < (s.size : Int) := by omega
      have hie : i = s.size := by omega
      go_wp2_with fail
      go_ret
      exact ⟨s.size, rfl, Nat.le_refl _, hie ▸ K.out, fun h => absurd h (Nat.lt_irrefl _), _, G.out⟩
set_option maxHeartbeats 800000 in
theorem lenM_c (q : Nat → Bool) (I : Nat → World → Prop) (s : ByteArray) (hs : s.size ≤ 9223372036854775807) (b0 : Nat) (w : World) (h0 : I 0 w)
    (hc : ∀ i, i < s.size → ∀ w', I i w' → Calls Tryd.prog 40 #[.int .i64 (i : Int), .pointer (some ⟨b0, 0, none⟩)] w' fun e w'' => e = .returned (.bool (q i)) ∧ I (i + 1) w'') :
    Calls Tryd.prog 19 #[.string s, .func (.func 40) #[] #[.pointer (some ⟨b0, 0, none⟩)]] w fun e w' => ∃ k : Nat, e = .returned (.int .i64 (k : Int)) ∧ k ≤ s.size ∧ (∀ i, i < k → q i = true) ∧ (k < s.size → q k = false) ∧ ∃ j, I j w' := by
  have HI := Lib.hid hc
  have H0 := Lib.hid h0
  clear hc h0
  go_enter Tryd.func19, Tryd.ntmps19
  go_wp2_with fail
  go_loopg [8] s.size (fun gk vi wr => ∃ i : Nat, vi = .int .i64 (i : Int) ∧ i ≤ s.size ∧ s.size - i ≤ gk ∧ Hid (I i wr) ∧ Hid (∀ j, j < i → q j = true))
  case atStart => exact ⟨0, rfl, Nat.zero_le _, Nat.le_refl _, H0, Lib.hid (fun j hj => absurd hj (Nat.not_lt_zero _))⟩
  case round =>
    obtain ⟨i, rfl, hi, hg, G, K⟩ := hrel
    by_cases hlt : i < s.size
    · have z1 : (i : Int) < (s.size : Int) := by omega
      have hcon := HI.out i hlt wr G.out
      have hst : ∀ b, q i = b → (b = true → Hid (∀ j, j < i + 1 → q j = true)) := fun b hb ht => Lib.hid fun j hj => by
        rcases Nat.lt_or_ge j i with h | h
        · exact K.out j h
        · rw [show j = i from by omega, hb, ht]
      obtain ⟨b, hb⟩ : ∃ b, q i = b := ⟨_, rfl⟩
      have HST := hst b hb
      rw [hb] at hcon
      have HC := Lib.hid hcon
      have HB := Lib.hid hb
      clear hcon hst hb
      go_wp2_with fail
      refine HC.out.mono ?_
      rintro e w1 ⟨rfl, g⟩
      have G1 := Lib.hid g
      clear g
      cases b with
      | true =>
        have HS := HST rfl
        go_wp2_with fail
        go_roundg (s.size - (i + 1))
        case measure => omega
        case rel => exact ⟨i + 1, by go_num, by omega, by omega, G1, HS⟩
      | false =>
        go_wp2_with fail
        go_ret
        exact ⟨i, rfl, by omega, K.out, fun _ => HB.out, _, G1.out⟩
    · have z1 : ¬ (i : Int) < (s.size : Int) := by omega
      have hie : i = s.size := by omega
      go_wp2_with fail
      go_ret
      exact ⟨s.size, rfl, Nat.le_refl _, hie ▸ K.out, fun h => absurd h (Nat.lt_irrefl _), _, G.out⟩
set_option maxHeartbeats 800000 in
theorem lenQ_c (q : Nat → Bool) (I : Nat → World → Prop) (s : ByteArray) (hs : s.size ≤ 9223372036854775807) (b0 b1 : Nat) (w : World) (h0 : I 0 w)
    (hc : ∀ i, i < s.size → ∀ w', I i w' → Calls Tryd.prog 36 #[.int .i64 (i : Int), .pointer (some ⟨b0, 0, none⟩), .pointer (some ⟨b1, 0, none⟩)] w' fun e w'' => e = .returned (.bool (q i)) ∧ I (i + 1) w'') :
    Calls Tryd.prog 19 #[.string s, .func (.func 36) #[] #[.pointer (some ⟨b0, 0, none⟩), .pointer (some ⟨b1, 0, none⟩)]] w fun e w' => ∃ k : Nat, e = .returned (.int .i64 (k : Int)) ∧ k ≤ s.size ∧ (∀ i, i < k → q i = true) ∧ (k < s.size → q k = false) ∧ ∃ j, I j w' := by
  have HI := Lib.hid hc
  have H0 := Lib.hid h0
  clear hc h0
  go_enter Tryd.func19, Tryd.ntmps19
  go_wp2_with fail
  go_loopg [8] s.size (fun gk vi wr => ∃ i : Nat, vi = .int .i64 (i : Int) ∧ i ≤ s.size ∧ s.size - i ≤ gk ∧ Hid (I i wr) ∧ Hid (∀ j, j < i → q j = true))
  case atStart => exact ⟨0, rfl, Nat.zero_le _, Nat.le_refl _, H0, Lib.hid (fun j hj => absurd hj (Nat.not_lt_zero _))⟩
  case round =>
    obtain ⟨i, rfl, hi, hg, G, K⟩ := hrel
    by_cases hlt : i < s.size
    · have z1 : (i : Int) < (s.size : Int) := by omega
      have hcon := HI.out i hlt wr G.out
      have hst : ∀ b, q i = b → (b = true → Hid (∀ j, j < i + 1 → q j = true)) := fun b hb ht => Lib.hid fun j hj => by
        rcases Nat.lt_or_ge j i with h | h
        · exact K.out j h
        · rw [show j = i from by omega, hb, ht]
      obtain ⟨b, hb⟩ : ∃ b, q i = b := ⟨_, rfl⟩
      have HST := hst b hb
      rw [hb] at hcon
      have HC := Lib.hid hcon
      have HB := Lib.hid hb
      clear hcon hst hb
      go_wp2_with fail
      refine HC.out.mono ?_
      rintro e w1 ⟨rfl, g⟩
      have G1 := Lib.hid g
      clear g
      cases b with
      | true =>
        have HS := HST rfl
        go_wp2_with fail
        go_roundg (s.size - (i + 1))
        case measure => omega
        case rel => exact ⟨i + 1, by go_num, by omega, by omega, G1, HS⟩
      | false =>
        go_wp2_with fail
        go_ret
        exact ⟨i, rfl, by omega, K.out, fun _ => HB.out, _, G1.out⟩
    · have z1 : ¬ (i : Int) < (s.size : Int) := by omega
      have hie : i = s.size := by omega
      go_wp2_with fail
      go_ret
      exact ⟨s.size, rfl, Nat.le_refl _, hie ▸ K.out, fun h => absurd h (Nat.lt_irrefl _), _, G.out⟩
end Go.Proofs.YtflpidnkppljlaaDoor
