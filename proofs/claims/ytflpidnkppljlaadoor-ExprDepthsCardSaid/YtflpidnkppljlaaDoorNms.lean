/- Of what was there nothing has turned: a word for what a call leaves of memory, and the last step of a law's proof from it. No condition. Plain names: which rows of bytes are a name, and which are several with two colons between. No condition. The small tests of bytes: texts.letter, texts.digit and the reference's. No condition. texts.Name and the reference's: is a text a name? Condition: the length that any string has. -/
import Derived.Test.YtflpidnkppljlaaDoorChecked
import Derived.WalkKit
import Derived.Carry
import Derived.ChangeSame
import Derived.ProofKit
import Derived.Deep.Draws
import Derived.Lib.Hide
import Derived.WalkLawsBesides
import Derived.WalkSpells
set_option linter.unusedVariables false
set_option linter.unnecessarySimpa false
set_option linter.unusedSimpArgs false
namespace Go.Proofs.YtflpidnkppljlaaDoor
open Go.RowKit Go.ChangeShapes Go.WideShapes
/-- Each block that was there is as it was, and the streams. -/
def Low (w w' : World) : Prop := w'.os = w.os ∧ w'.output = w.output ∧ w.heap.size ≤ w'.heap.size ∧ ∀ k, k < w.heap.size → w'.heap[k]? = w.heap[k]?
theorem Low.refl (w : World) : Low w w := ⟨rfl, rfl, Nat.le_refl _, fun _ _ => rfl⟩
theorem Low.trans {a b c : World} (h : Low a b) (k : Low b c) : Low a c :=
  ⟨k.1.trans h.1, k.2.1.trans h.2.1, Nat.le_trans h.2.2.1 k.2.2.1, fun i hi => (k.2.2.2 i (Nat.lt_of_lt_of_le hi h.2.2.1)).trans (h.2.2.2 i hi)⟩
theorem Low.size {w w' : World} (h : Low w w') : w.heap.size ≤ w'.heap.size := h.2.2.1
theorem Low.of_below {w w' : World} (h : Below w.heap.size w w') : Low w w' := ⟨h.os, h.output, h.size, h.block⟩
theorem Low.drewN (w : World) (n : Nat) : Low w (w.drewN n) := ⟨rfl, rfl, Nat.le_refl _, fun _ _ => rfl⟩
theorem Low.of_drew {w w' : World} (h : ∃ n, w' = w.drewN n) : Low w w' := by obtain ⟨n, rfl⟩ := h; exact Low.drewN w n
theorem grown_block {W W' : World} (h : Grown W W') {k : Nat} (hk : k < W.heap.size) : W'.heap[k]? = W.heap[k]? := by
  have h3 := h.1.2.2 k hk
  cases e : W.heap[k]? with
  | none => rw [e] at h3; cases e' : W'.heap[k]? <;> simp_all
  | some o =>
    cases e' : W'.heap[k]? with
    | none => rw [e, e'] at h3; cases o <;> simp at h3
    | some o' =>
      rw [e, e'] at h3
      cases o <;> cases o' <;> simp at h3
      · obtain ⟨a, b, c, d⟩ := h3
        subst a b
        rw [Array.ext_getElem? d]
      all_goals simp_all
theorem Low.of_grown {w w' : World} (h : Grown w w') : Low w w' := ⟨h.1.1, h.1.2.1, h.2.2, fun _ hk => grown_block h hk⟩
theorem Low.cell {w w' : World} (h : Low w w') {p : Addr} (hp : p.block < w.heap.size) : w'.cell? p = w.cell? p := World.cell?_of_block (w := w) (h.2.2.2 p.block hp)
theorem Low.frozen {w w' : World} (h : Low w w') {p : Addr} (hp : p.block < w.heap.size) : w'.frozen? p = w.frozen? p := World.frozen?_of_block (w := w) (h.2.2.2 p.block hp)
theorem cell_lt {w : World} {p : Addr} {v : Value} (h : w.cell? p = some v) : p.block < w.heap.size := by
  rcases Nat.lt_or_ge p.block w.heap.size with k | k
  · exact k
  · have e : w.heap[p.block]? = none := by simp; exact k
    cases p with
    | mk b o f => simp [World.cell?, e] at h
theorem Low.keep {w w' : World} (h : Low w w') {p : Addr} {v : Value} (hc : w.cell? p = some v) : w'.cell? p = some v := (h.cell (cell_lt hc)).trans hc
theorem Low.frame {w w' : World} (h : Low w w') (may : MemPlace → Prop) : w.keptBut w' may := by
  refine ⟨h.1, h.2.1, fun i hi => ?_⟩
  rw [h.2.2.2 i hi]
  split <;> simp_all
theorem Low.same {W W' : World} (h : Low W W') {p : MemPlace} (hp : p.block < W.heap.size) : W.sameAt W' p := by
  cases p with
  | cell b o => exact World.cell?_of_block (w := W) (h.2.2.2 b hp)
  | map b => exact h.2.2.2 b hp
theorem low_trod {H : Type} {enc : TypeId × Value → H} {P : Program} {t : TypeId} (hl : laidOutB P = true) (hr : P.readableRec t = true) (hrow : t < P.types.size) {W W' : World} {v : Value} {d : DataW H} {ps : List MemPlace}
    (h : DataW.Trod enc P W 0 (fun _ => true) true t v d ps) (hb : Low W W') (hlt : ∀ x ∈ ps, x.block < W.heap.size) :
    DataW.Trod enc P W' 0 (fun b => decide (b < W.heap.size)) true t v d ps :=
  WideElems.Trod_stays hl hr hrow h (fun x hx => hb.same (hlt x hx)) (fun x hx => by simpa using hlt x hx)
/-- The last step of a law's proof, where it is known alone that what was there is as it was. -/
theorem post_of_low {H : Type} {enc : TypeId × Value → H} {P : Program} {f : Func} {s : ChangeSpec} {apart fresh handsOn again : Bool} {W W' : World} {args : Array Value} {v : Value} {ds gs : List (DataW H)} {before pa pv : List MemPlace}
    (hW : DataW.Whole enc P f.params.toList s.vars apart W args.toList ds gs before)
    (hres : ∀ (b : Nat) (sp : Nat → Bool) (hd : Bool), DataW.TrodAll enc P W' b sp hd f.resultTypes.toList (v.resultList f.resultTypes.size) (s.fn H (ds ++ gs)).results [])
    (hargs : ∀ sp : Nat → Bool, (∀ p ∈ before, sp p.block = true) → DataW.TrodAll enc P W' 0 sp true f.params.toList args.toList (s.fn H (ds ++ gs)).args pa)
    (hvars : ∀ sp : Nat → Bool, (∀ p ∈ before, sp p.block = true) → DataW.TrodVars enc P W' sp s.vars (s.fn H (ds ++ gs)).vars pv)
    (hps : before = pa ++ pv) (hb : Low W W')
    (hok : ∀ (j : Nat) (t : TypeId) (r : Value), f.resultTypes[j]? = some t → (v.resultList f.resultTypes.size)[j]? = some r → Value.okWide P W' .any 0 t r) :
    s.post enc P f apart fresh handsOn again W args v W' := by
  have hlt : ∀ p ∈ before, p.block < W.heap.size := fun p hp => hW.lt p hp
  have old : ∀ p ∈ before, (fun b => decide (b < W.heap.size)) p.block = true := fun p hp => decide_eq_true (hlt p hp)
  refine ⟨ds, gs, before, [], pa, pv, hW, hres _ _ _, hargs _ old, hvars _ old, World.keptBut_mono (fun p hp => ⟨hp, ?_⟩) (hb.frame (· ∈ before)), fun _ => ?_⟩
  · rw [hps, List.mem_append] at hp
    exact .inr hp
  · obtain ⟨_, _, _, _, _, hz, hn⟩ := hW
    refine ⟨hok, _, _, ([] ++ pa) ++ pv, ⟨[] ++ pa, pv, trodAll_append (hargs _ fun _ _ => rfl) (hres _ _ _), hvars _ fun _ _ => rfl, rfl, fun b off hp => ?_, fun ha => ?_⟩, fun p hp _ => ?_⟩
    · have hin : MemPlace.cell b off ∈ before := by rw [hps]; simpa using hp
      rw [hb.frozen (hlt _ hin)]
      exact hz b off hin
    · have h := hn ha
      rw [hps] at h
      simpa using h
    · rw [hps]
      simpa using hp
end Go.Proofs.YtflpidnkppljlaaDoor
namespace Go.Proofs.YtflpidnkppljlaaDoor
def digB (c : UInt8) : Bool := decide (48 ≤ (c.toNat : Int) ∧ (c.toNat : Int) ≤ 57)
def letB (c : UInt8) : Bool := decide (97 ≤ (c.toNat : Int) ∧ (c.toNat : Int) ≤ 122 ∨ 65 ≤ (c.toNat : Int) ∧ (c.toNat : Int) ≤ 90)
def namB (c : UInt8) : Bool := letB c || digB c || c == 95
def letR (c : UInt8) : Bool := letB c || c == 95
def nameB (l : List UInt8) : Bool := match l with
  | [] => false
  | c :: r => !digB c && (c :: r).all namB
/-- Names with two colons between; 'acc': what stands ahead, of the name at hand. -/
def pathS (acc : List UInt8) : List UInt8 → Bool
  | [] => nameB acc
  | [c] => nameB (acc ++ [c])
  | c :: d :: r => if c == 58 && d == 58 then nameB acc && pathS [] r else pathS (acc ++ [c]) (d :: r)
def pathB (l : List UInt8) : Bool := pathS [] l
theorem pathS_colons (acc r : List UInt8) : pathS acc (58 :: 58 :: r) = (nameB acc && pathS [] r) := by
  simp [pathS]
theorem pathS_other (acc : List UInt8) (c : UInt8) (l : List UInt8) (h : ¬ (c = 58 ∧ l.head? = some 58)) : pathS acc (c :: l) = pathS (acc ++ [c]) l := by
  cases l with
  | nil => simp [pathS]
  | cons d r =>
    have h' : (c == 58 && d == 58) = false := by
      rw [Bool.eq_false_iff]; intro e
      simp at e
      exact h ⟨e.1, by simp [e.2]⟩
    rw [pathS, h']
    simp
theorem all_take {l : List UInt8} {k : Nat} (h : k < l.length) (hn : (l.take k).all namB = true) (hc : namB l[k] = true) : (l.take (k + 1)).all namB = true := by
  rw [List.take_succ_eq_append_getElem h, List.all_append, hn]; simp [hc]
theorem all_not {l : List UInt8} {k : Nat} (h : k < l.length) (hc : namB l[k] = false) : l.all namB = false := by
  rw [List.all_eq_false]; exact ⟨_, List.getElem_mem h, by simp [hc]⟩
theorem name_dig {l : List UInt8} (h : 0 < l.length) (hd : digB l[0] = true) : nameB l = false := by
  cases l with
  | nil => rfl
  | cons c r => simp at hd; simp [nameB, hd]
theorem name_all {l : List UInt8} (h : 0 < l.length) (hd : digB l[0] = false) : nameB l = l.all namB := by
  cases l with
  | nil => simp at h
  | cons c r => simp at hd; simp [nameB, hd]
/-- Where the first two colons stand, names are parted. -/
theorem pathS_none (acc l : List UInt8) (h : ∀ i, i + 1 < l.length → ¬ (l[i]? = some 58 ∧ l[i + 1]? = some 58)) : pathS acc l = nameB (acc ++ l) := by
  induction l generalizing acc with
  | nil => simp [pathS]
  | cons c r ih =>
    rw [pathS_other, ih]
    · simp
    · intro i hi
      have := h (i + 1) (by simp; omega)
      simpa using this
    · intro ⟨e1, e2⟩
      cases r with
      | nil => simp at e2
      | cons d r => exact h 0 (by simp) (by simp at e2; simpa using ⟨e1, e2⟩)
theorem pathS_at (k : Nat) : ∀ (acc l : List UInt8), k + 1 < l.length → (∀ i, i < k → ¬ (l[i]? = some 58 ∧ l[i + 1]? = some 58)) → l[k]? = some 58 → l[k + 1]? = some 58 →
    pathS acc l = (nameB (acc ++ l.take k) && pathB (l.drop (k + 2))) := by
  induction k with
  | zero =>
    intro acc l hl _ h1 h2
    match l, hl with
    | c :: d :: r, _ =>
      simp at h1 h2
      subst h1 h2
      rw [pathS_colons]; simp [pathB]
  | succ k ih =>
    intro acc l hl hn h1 h2
    match l, hl with
    | c :: r, hl =>
      rw [pathS_other, ih]
      · simp
      · simp at hl; omega
      · intro i hi
        have := hn (i + 1) (by omega)
        simpa using this
      · simpa using h1
      · simpa using h2
      · intro ⟨e1, e2⟩
        have := hn 0 (by omega)
        cases r with
        | nil => simp at e2
        | cons d r => exact this (by simp at e2; simpa using ⟨e1, e2⟩)
end Go.Proofs.YtflpidnkppljlaaDoor
namespace Go.Proofs.YtflpidnkppljlaaDoor
open Go.RowKit
theorem retB {a b : Bool} (h : a = b) : Ending.returned (.bool a) = .returned (.bool b) := by rw [h]
theorem u8_lt (c : UInt8) : (c.toNat : Int) < 256 := by have := c.toNat_lt; omega
set_option maxHeartbeats 400000 in
theorem digit_c (c : UInt8) (w : World) : Calls Tryd.prog 55 #[.int .u8 c.toNat] w fun e w' => e = .returned (.bool (digB c)) ∧ w = w' := by
  by_cases h1 : 48 ≤ (c.toNat : Int)
  · by_cases h2 : (c.toNat : Int) ≤ 57
    all_goals
      have E : Hid (digB c = decide ((c.toNat : Int) ≤ 57)) := by show _ = _; unfold digB; simp only [h1, h2, true_and]
      go_enter Tryd.func55, Tryd.ntmps55
      go_wp2
      go_ret
      exact ⟨retB (by rw [E.out]; simp [h2]), rfl⟩
  · have E : Hid (digB c = false) := by show _ = _; unfold digB; simp only [h1, false_and, decide_false]
    go_enter Tryd.func55, Tryd.ntmps55
    go_wp2
    go_ret
    exact ⟨retB (by rw [E.out]), rfl⟩
set_option maxHeartbeats 400000 in
theorem letter_c (c : UInt8) (w : World) : Calls Tryd.prog 56 #[.int .u8 c.toNat] w fun e w' => e = .returned (.bool (letB c)) ∧ w = w' := by
  by_cases h1 : 97 ≤ (c.toNat : Int) <;> by_cases h2 : (c.toNat : Int) ≤ 122 <;> by_cases h3 : 65 ≤ (c.toNat : Int) <;> by_cases h4 : (c.toNat : Int) ≤ 90 <;> first | (exfalso; omega) | skip
  all_goals
    have E : Hid (letB c = (decide (97 ≤ (c.toNat : Int)) && decide ((c.toNat : Int) ≤ 122) || decide (65 ≤ (c.toNat : Int)) && decide ((c.toNat : Int) ≤ 90))) := by show _ = _; unfold letB; simp only [h1, h2, h3, h4]; decide
    go_enter Tryd.func56, Tryd.ntmps56
    go_wp2
    go_ret
    exact ⟨retB (by rw [E.out]; simp [h1, h2, h3, h4]), rfl⟩
theorem namB_r (c : UInt8) : namB c = (letR c || digB c) := by unfold namB letR; cases letB c <;> cases digB c <;> simp
end Go.Proofs.YtflpidnkppljlaaDoor
namespace Go.Proofs.YtflpidnkppljlaaDoor
open Go.RowKit
theorem ne_list {d : ByteArray} (h : 0 < d.size) : d.toList.isEmpty = false ∧ ¬ d.toList = [] := by
  rw [ByteArray.toList_eq]
  have : d.data.toList ≠ [] := fun e => by
    have := congrArg List.length e
    simp at this
    rw [this] at h; exact absurd h (by decide)
  exact ⟨by simpa using this, this⟩
def OkTo (s : ByteArray) (k : Nat) : Prop := (s.data.toList.take k).all namB = true
theorem ok_next {s : ByteArray} {k : Nat} (h : k < s.size) (ho : OkTo s k) (hc : namB s[k] = true) : OkTo s (k + 1) := all_take (by simpa using h) ho hc
theorem ok_not {s : ByteArray} {k : Nat} (h : k < s.size) (hc : namB s[k] = false) : s.data.toList.all namB = false := all_not (k := k) (by simpa using h) hc
theorem ok_end {s : ByteArray} {k : Nat} (h : s.size ≤ k) (ho : OkTo s k) : s.data.toList.all namB = true := by
  unfold OkTo at ho; rwa [List.take_of_length_le (by simpa using h)] at ho
theorem byte_ne {c : UInt8} {n : UInt8} (h : (c == n) = false) : ((c.toNat : Int) == (n.toNat : Int)) = false := by
  rw [beq_eq_false_iff_ne] at *; intro e; exact h (UInt8.toNat_inj.1 (by omega))
theorem byte_eq {c : UInt8} {n : UInt8} (h : (c == n) = true) : ((c.toNat : Int) == (n.toNat : Int)) = true := by
  rw [beq_iff_eq] at *; rw [h]
set_option maxHeartbeats 800000 in
theorem name_c (s : ByteArray) (hs : s.size ≤ 9223372036854775807) (w : World) :
    Calls Tryd.prog 41 #[.string s] w fun e w' => e = .returned (.bool (nameB s.data.toList)) ∧ w = w' := by
  by_cases h0 : 0 < s.size
  · obtain ⟨g1, g2⟩ := ne_list h0
    cases hd : digB s[0] with
    | true =>
      have E := Lib.hid (name_dig (l := s.data.toList) (by simpa using h0) hd)
      have D := Lib.hid hd
      clear hd
      go_enter Tryd.func41, Tryd.ntmps41
      go_wp2_with fail
      refine (digit_c _ _).mono ?_
      rintro e w' ⟨rfl, rfl⟩
      rw [D.out]
      go_wp2
      go_ret
      exact ⟨retB E.out.symm, rfl⟩
    | false =>
      have E := Lib.hid (name_all (l := s.data.toList) (by simpa using h0) hd)
      have D := Lib.hid hd
      clear hd
      go_enter Tryd.func41, Tryd.ntmps41
      go_wp2_with fail
      refine (digit_c _ _).mono ?_
      rintro e w' ⟨rfl, rfl⟩
      rw [D.out]
      go_wp2_with fail
      go_loop [3, 13] (fun _ i => ∃ k : Nat, k ≤ s.size ∧ i = .int .i64 k ∧ OkTo s k) (fun _ i => s.size - (intOf i).toNat)
      case atStart => exact ⟨0, Nat.zero_le _, rfl, rfl⟩
      case round =>
        obtain ⟨k, hk, rfl, hok⟩ := hrel
        by_cases hlt : k < s.size
        · obtain ⟨c, hc⟩ : ∃ c, s[k] = c := ⟨_, rfl⟩
          have HC := Lib.hid hc
          have N1 := fun h => ok_next hlt hok (by rw [hc]; exact h)
          have N2 := fun h => ok_not hlt (by rw [hc]; exact h)
          clear hc
          cases hl : letB c with
          | true =>
            have NX := Lib.hid (N1 (by unfold namB; rw [hl]; rfl))
            have HL := Lib.hid hl
            clear hl N1 N2
            go_wp2_with fail
            rw [HC.out]
            refine (letter_c _ _).mono ?_
            rintro e w' ⟨rfl, rfl⟩
            rw [HL.out]
            go_wp2_with fail
            go_round
            case rel => exact ⟨k + 1, by omega, by go_num, NX.out⟩
            case measure => simp [intOf]; omega
          | false =>
            cases hg : digB c with
            | true =>
              have NX := Lib.hid (N1 (by unfold namB; rw [hl, hg]; rfl))
              have HL := Lib.hid hl
              have HG := Lib.hid hg
              clear hl hg N1 N2
              go_wp2_with fail
              rw [HC.out]
              refine (letter_c _ _).mono ?_
              rintro e w' ⟨rfl, rfl⟩
              rw [HL.out]
              go_wp2_with fail
              rw [HC.out]
              refine (digit_c _ _).mono ?_
              rintro e w' ⟨rfl, rfl⟩
              rw [HG.out]
              go_wp2_with fail
              go_round
              case rel => exact ⟨k + 1, by omega, by go_num, NX.out⟩
              case measure => simp [intOf]; omega
            | false =>
              cases hu : c == 95 with
              | true =>
                have NX := Lib.hid (N1 (by unfold namB; rw [hl, hg, hu]; rfl))
                have HL := Lib.hid hl
                have HG := Lib.hid hg
                have hu1 : ((s[k].toNat : Int) == 95) = true := by have := byte_eq hu; rw [HC.out]; exact this
                have hu2 : ((s[k].toNat : Int) != 95) = false := by unfold bne; rw [hu1]; rfl
                clear hl hg N1 N2 hu
                go_wp2_with fail
                rw [HC.out]
                refine (letter_c _ _).mono ?_
                rintro e w' ⟨rfl, rfl⟩
                rw [HL.out]
                go_wp2_with fail
                rw [HC.out]
                refine (digit_c _ _).mono ?_
                rintro e w' ⟨rfl, rfl⟩
                rw [HG.out]
                go_wp2_with fail
                go_round
                case rel => exact ⟨k + 1, by omega, by go_num, NX.out⟩
                case measure => simp [intOf]; omega
              | false =>
                have NX := Lib.hid (N2 (by unfold namB; rw [hl, hg, hu]; rfl))
                have HL := Lib.hid hl
                have HG := Lib.hid hg
                have hu1 : ((s[k].toNat : Int) == 95) = false := by have := byte_ne hu; rw [HC.out]; exact this
                have hu2 : ((s[k].toNat : Int) != 95) = true := by unfold bne; rw [hu1]; rfl
                clear hl hg N1 N2 hu
                go_wp2_with fail
                rw [HC.out]
                refine (letter_c _ _).mono ?_
                rintro e w' ⟨rfl, rfl⟩
                rw [HL.out]
                go_wp2_with fail
                rw [HC.out]
                refine (digit_c _ _).mono ?_
                rintro e w' ⟨rfl, rfl⟩
                rw [HG.out]
                go_wp2_with fail
                go_ret
                exact ⟨retB (by rw [E.out, NX.out]), rfl⟩
        · have NX := Lib.hid (ok_end (s := s) (k := k) (by omega) hok)
          go_wp2_with fail
          go_ret
          exact ⟨retB (by rw [E.out, NX.out]), rfl⟩
  · have h1 : s.toList = [] := by rw [ByteArray.toList_eq]; exact List.eq_nil_of_length_eq_zero (show s.size = 0 by omega)
    have h2 : s.toList.isEmpty = true := by rw [h1]; rfl
    have E : Hid (nameB s.data.toList = false) := by
      show _ = _
      rw [show s.data.toList = [] from List.eq_nil_of_length_eq_zero (show s.size = 0 by omega)]; rfl
    clear h1
    go_enter Tryd.func41, Tryd.ntmps41
    go_wp2
    go_ret
    exact ⟨retB E.out.symm, rfl⟩
end Go.Proofs.YtflpidnkppljlaaDoor
