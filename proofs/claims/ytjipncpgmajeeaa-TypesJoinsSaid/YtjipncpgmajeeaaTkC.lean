/- A region that draws its order, with an operation that waits for nothing and makes memory: a read that all worlds of a class answer alike may be taken first. No condition. -/
import Derived.Test.YtjipncpgmajeeaaFlt
namespace Go.Proofs.Ytjipncpgmajeeaa
open Go
section
variable {P : Program} {ops : Array Oper} {md : Region.Mode} {C : World → Prop} {Q : Exit → Act → World → Prop}
/-- Yields v in each world of a class: the very world that it got. -/
def YdC (P : Program) (ops : Array Oper) (C : World → Prop) (o : Oper) (v : Value) (a : Act) : Prop :=
  (Region.wanted o (yielded ops a.tmps) = true ∧ ∀ w, C w → (execOp a.eval o).run P w = .ok (.value v) w) ∨ (Region.wanted o (yielded ops a.tmps) = false ∧ v = undef)
theorem YdC.of_same {o : Oper} {v : Value} {a a' : Act} (hy : YdC P ops C o v a) (he : execOp a'.eval o = execOp a.eval o)
    (hw : Region.wanted o (yielded ops a'.tmps) = Region.wanted o (yielded ops a.tmps)) : YdC P ops C o v a' := by
  unfold YdC at *
  rw [he, hw]
  exact hy
theorem YdC.wpOp {i : Nat} {o : Oper} {v : Value} {a : Act} (hi : ops[i]? = some o) (hy : YdC P ops C o v a) {K : Act → World → Prop} {w : World} (hC : C w) (h : K (a.put o.dst v) w) : wpOp P ops Q i K a w := by
  unfold Go.wpOp
  simp only [hi]
  rcases hy with ⟨hw, hv⟩ | ⟨hw, rfl⟩
  · simp only [hw, if_true, Oper.wp, hv w hC, Oper.upon]; exact .inl h
  · simp only [hw, Bool.false_eq_true, if_false]; exact h
/-- Keeps the class, whatever it is asked. -/
def Keeps (P : Program) (C : World → Prop) (o : Oper) : Prop := ∀ (ρ : Operand → Value) (w : World) (n : Next) (w' : World), C w → (execOp ρ o).run P w = .ok n w' → (∃ u, n = .value u) ∧ C w'
theorem wpOp_putC {j : Nat} {oi oj : Oper} {v : Value} (hj : ops[j]? = some oj) (hap : oi.apart ops oj = true)
    (hsi : ∀ cs b, oi.op ≠ .select cs b) (hsj : ∀ cs b, oj.op ≠ .select cs b) (hk : Keeps P C oj)
    (hQ : ∀ c a w, Q (.panic c) (a.put oi.dst v) w → Q (.panic c) a w) {K : Act → World → Prop} {a : Act} {w : World} (hC : C w)
    (hy : YdC P ops C oi v a) (h : wpOp P ops Q j K (a.put oi.dst v) w) :
    wpOp P ops Q j (fun a' w' => YdC P ops C oi v a' ∧ C w' ∧ K (a'.put oi.dst v) w') a w := by
  obtain ⟨h1, h2, h3⟩ := Oper.apart_spec hap
  have keep : ∀ (a : Act), YdC P ops C oi v a → ∀ u, YdC P ops C oi v (a.put oj.dst u) := fun a hy u =>
    hy.of_same (execOp_put oi hsi a oj.dst u h3) (wanted_put oi a oj.dst u h3)
  unfold wpOp at *
  simp only [hj] at *
  rw [wanted_put oj a oi.dst v h1] at h
  split
  · rename_i hw
    simp only [hw, if_true] at h
    rcases h with h | ⟨hasks, hlets⟩
    case inr => exact .inr ⟨by unfold Oper.asks at *; rw [execOp_put oj hsj a oi.dst v h1] at hasks; exact hasks, hlets⟩
    refine .inl ?_
    unfold Oper.wp at *
    rw [execOp_put oj hsj a oi.dst v h1] at h
    have hkk := hk a.eval w
    generalize (execOp a.eval oj).run P w = r at *
    cases r with
    | ok n w' =>
      obtain ⟨⟨u, rfl⟩, hC'⟩ := hkk n w' hC rfl
      simp only [Oper.upon] at h ⊢
      exact ⟨keep a hy u, hC', by rw [← Act.put_comm a v u h2]; exact h⟩
    | halt x w' =>
      cases x <;> simp only [Oper.upon] at h ⊢
      case panic u => exact hQ _ _ _ h
  · rename_i hw
    simp only [hw] at h
    exact ⟨keep a hy _, hC, by rw [← Act.put_comm a v undef h2]; exact h⟩
/-- What has come up: of what stands at n or behind it nothing but k. -/
structure HeadK (md : Region.Mode) (ops : Array Oper) (n k : Nat) (listed : Array Bool) : Prop where
  size : listed.size = ops.size
  closed : ∀ j oj, ops[j]? = some oj → listed.getD j false = true → ∀ e ∈ oj.after, Region.binds md e = true → listed.getD e.on false = true
  tail : ∀ t, n ≤ t → t ≠ k → t < ops.size → listed.getD t true = false
def tailsK (md : Region.Mode) (ops : Array Oper) (n k : Nat) : Bool :=
  (List.range ops.size).all fun t => decide (t ≤ n) || decide (t = k) || (List.range t).any fun s => decide (n ≤ s) && decide (s ≠ k) && Region.waitsFor md ops t s
theorem HeadK.set {n k i : Nat} {listed : Array Bool} (inv : HeadK md ops n k listed) (hi : i ∈ Region.ready md ops listed) (hin : i < n ∨ i = k) : HeadK md ops n k (listed.setIfInBounds i true) := by
  obtain ⟨_, oi, hoi, hall⟩ := mem_ready.1 hi
  refine ⟨by simp [inv.size], fun j oj hj hl e he hb => ?_, fun t ht hk ht' => by rw [getD_set_ne true (by omega)]; exact inv.tail t ht hk ht'⟩
  by_cases hij : i = j
  · subst hij
    have : oj = oi := Option.some.inj (hj.symm.trans hoi)
    subst this
    exact getD_set_true (hall e he hb)
  · rw [getD_set_ne false hij] at hl
    exact getD_set_true (inv.closed j oj hj hl e he hb)
theorem first_waitsK {n k : Nat} {listed : Array Bool} (hs : Region.sinkB md ops n = true) (inv : HeadK md ops n k listed) (hn : n < ops.size) : ∀ (d i : Nat), n - i = d → i < n → listed.getD i true = false → n ∉ Region.ready md ops listed := by
  intro d
  induction d using Nat.strongRecOn with
  | _ d ih =>
    intro i hd hi hun
    have h1 := List.all_eq_true.1 hs i (List.mem_range.2 hi)
    obtain ⟨j, hj, hj2⟩ := List.any_eq_true.1 h1
    simp only [Bool.and_eq_true, decide_eq_true_eq] at hj2
    obtain ⟨oj, hoj, e, he, hb, hon⟩ := Region.waitsFor_spec hj2.2
    have hjle : j < n + 1 := List.mem_range.1 hj
    rcases Nat.lt_or_ge j n with hjn | hjn
    · cases hl : listed.getD j false with
      | true =>
        have h2 := inv.closed j oj hoj hl e he hb
        rw [hon, getD_both hun] at h2
        cases h2
      | false =>
        have hjs : j < listed.size := by rw [inv.size]; omega
        exact ih (n - j) (by omega) j rfl hjn (getD_in hjs hl)
    · obtain rfl : j = n := by omega
      intro hr
      obtain ⟨_, ot, hot, hall⟩ := mem_ready.1 hr
      have : oj = ot := Option.some.inj (hoj.symm.trans hot)
      subst this
      have h2 := hall e he hb
      rw [hon, getD_both hun] at h2
      cases h2
theorem laterK {n k : Nat} {listed : Array Bool} (hs : Region.sinkB md ops n = true) (ht : tailsK md ops n k = true) (hn : n < ops.size) (inv : HeadK md ops n k listed) {i : Nat} (hi : i < n) (hun : listed.getD i true = false) : ∀ t, n ≤ t → t ≠ k → t ∉ Region.ready md ops listed := by
  intro t hnt htk hr
  rcases Nat.lt_or_ge n t with hlt | hge
  · obtain ⟨_, ot, hot, hall⟩ := mem_ready.1 hr
    have htlt : t < ops.size := (Array.getElem?_eq_some_iff.1 hot).1
    have h1 := List.all_eq_true.1 ht t (List.mem_range.2 htlt)
    simp only [Bool.or_eq_true, decide_eq_true_eq] at h1
    rcases h1 with (h1 | h1) | h1
    · omega
    · exact htk h1
    · obtain ⟨s, hs1, hs2⟩ := List.any_eq_true.1 h1
      simp only [Bool.and_eq_true, decide_eq_true_eq] at hs2
      obtain ⟨o', ho', e, he, hb, hon⟩ := Region.waitsFor_spec hs2.2
      have : o' = ot := Option.some.inj (ho'.symm.trans hot)
      subst this
      have h2 := hall e he hb
      have hst := List.mem_range.1 hs1
      rw [hon, getD_both (inv.tail s hs2.1.1 hs2.1.2 (by omega))] at h2
      cases h2
  · obtain rfl : t = n := by omega
    exact first_waitsK hs inv hn _ i rfl hi hun hr
theorem wpAny_firstK {n k i : Nat} {oi : Oper} {v : Value} (hi : ops[i]? = some oi) (hsel : ∀ (j : Nat) (o : Oper) cs b, ops[j]? = some o → o.op ≠ .select cs b)
    (hs : Region.sinkB md ops n = true) (ht : tailsK md ops n k = true) (hn : n < ops.size) (hin : i < n)
    (hK : ∀ j oj, ops[j]? = some oj → j < n ∨ j = k → Keeps P C oj)
    (hQ : ∀ c a w, Q (.panic c) (a.put oi.dst v) w → Q (.panic c) a w) :
    ∀ (fuel : Nat) (listed : Array Bool) (a : Act) (w : World), HeadK md ops n k listed →
      (∀ j oj, ops[j]? = some oj → j ≠ i → listed.getD j true = false → (∀ e ∈ oj.after, Region.binds md e = true → e.on ≠ i) → oi.apart ops oj = true) →
      i ∈ Region.ready md ops listed → C w → YdC P ops C oi v a →
      wpAny P md ops Q fuel (listed.setIfInBounds i true) (a.put oi.dst v) w → wpAny P md ops Q (fuel + 1) listed a w := by
  intro fuel
  induction fuel with
  | zero =>
    intro listed a w _ _ hr hC hy H
    refine ⟨fun h => (by rw [h] at hr; cases hr), fun j hj => ?_⟩
    by_cases hji : j = i
    · subst hji; exact hy.wpOp hi hC H
    · have := ready_mono hj hji
      rw [H.1] at this
      cases this
  | succ fuel ih =>
    intro listed a w inv hfree hr hC hy H
    refine ⟨fun h => (by rw [h] at hr; cases hr), fun j hj => ?_⟩
    by_cases hji : j = i
    · subst hji; exact hy.wpOp hi hC H
    · have hun := (mem_ready.1 hr).1
      have hjk : j < n ∨ j = k := by
        rcases Nat.lt_or_ge j n with h | h
        · exact .inl h
        · by_cases hk : j = k
          · exact .inr hk
          · exact absurd hj (laterK hs ht hn inv hin hun j h hk)
      have h1 := H.2 j (ready_mono hj hji)
      obtain ⟨hjun, oj, hoj, hall⟩ := mem_ready.1 hj
      have hnot : ∀ e ∈ oj.after, Region.binds md e = true → e.on ≠ i := fun e he hb heq => by
        have h1 := hall e he hb
        rw [heq, getD_both hun] at h1
        cases h1
      have h2 := wpOp_putC hoj (hfree j oj hoj hji hjun hnot) (fun cs b => hsel i oi cs b hi) (fun cs b => hsel j oj cs b hoj) (hK j oj hoj hjk) hQ hC hy h1
      have hfree' : ∀ k ok, ops[k]? = some ok → k ≠ i → (listed.setIfInBounds j true).getD k true = false →
          (∀ e ∈ ok.after, Region.binds md e = true → e.on ≠ i) → oi.apart ops ok = true := fun k ok hk hki hun hno => by
        refine hfree k ok hk hki ?_ hno
        by_cases hjk : j = k
        · subst hjk; exact hjun
        · rw [getD_set_ne true hjk] at hun; exact hun
      refine wpOp_mono (fun a' w' h3 => ih (listed.setIfInBounds j true) a' w' (inv.set hj hjk) hfree' (ready_mono hr (Ne.symm hji)) h3.2.1 h3.1 ?_) h2
      rw [Array.setIfInBounds_comm _ _ hji]
      exact h3.2.2
def headKB (md : Region.Mode) (ops : Array Oper) (n k : Nat) (listed : Array Bool) : Bool :=
  decide (listed.size = ops.size) && ((List.range ops.size).all fun j => !listed.getD j false || match ops[j]? with | some oj => oj.after.all fun e => !Region.binds md e || listed.getD e.on false | none => true) &&
    (List.range ops.size).all fun t => decide (t < n) || decide (t = k) || !listed.getD t true
theorem headKB_spec {n k : Nat} {listed : Array Bool} (h : headKB md ops n k listed = true) : HeadK md ops n k listed := by
  simp only [headKB, Bool.and_eq_true, decide_eq_true_eq, List.all_eq_true, List.mem_range] at h
  obtain ⟨⟨h1, h2⟩, h3⟩ := h
  refine ⟨h1, fun j oj hj hl e he hb => ?_, fun t ht hk hts => ?_⟩
  · have hjs : j < ops.size := (Array.getElem?_eq_some_iff.1 hj).1
    have := h2 j hjs
    simp only [hj, hl, Bool.not_true, Bool.false_or] at this
    have h4 := Array.all_eq_true_iff_forall_mem.1 this e he
    simpa [hb] using h4
  · have := h3 t hts
    simp only [Bool.or_eq_true, decide_eq_true_eq, Bool.not_eq_true'] at this
    rcases this with (h | h) | h
    · omega
    · exact absurd h hk
    · exact h
def takeKB (md : Region.Mode) (ops : Array Oper) (n k : Nat) (listed : Array Bool) (i : Nat) : Bool :=
  Region.noSelect ops && Region.sinkB md ops n && tailsK md ops n k && decide (n < ops.size) && decide (i < n) && Region.free md ops listed i && (Region.ready md ops listed).contains i && headKB md ops n k listed
/-- One read first: n is the first operation that waits for all reads, k the one that floats. -/
theorem wpAny_takeK {fuel : Nat} {listed : Array Bool} {a : Act} {w : World} (n k i : Nat) {oi : Oper} {v : Value} (hi : ops[i]? = some oi) (hB : takeKB md ops n k listed i = true)
    (hK : ∀ j oj, ops[j]? = some oj → j < n ∨ j = k → Keeps P C oj) (hQ : ∀ c a w, Q (.panic c) (a.put oi.dst v) w → Q (.panic c) a w) (hC : C w) (hy : YdC P ops C oi v a)
    (h : wpAny P md ops Q fuel (listed.setIfInBounds i true) (a.put oi.dst v) w) : wpAny P md ops Q (fuel + 1) listed a w := by
  simp only [takeKB, Bool.and_eq_true, decide_eq_true_eq] at hB
  obtain ⟨⟨⟨⟨⟨⟨⟨h1, h2⟩, h3⟩, h4⟩, h5⟩, h6⟩, h7⟩, h8⟩ := hB
  exact wpAny_firstK hi (Region.noSelect_spec h1) h2 h3 h4 h5 hK hQ fuel listed a w (headKB_spec h8) (Region.free_spec hi h6) (by simpa using h7) hC hy h
end
end Go.Proofs.Ytjipncpgmajeeaa
