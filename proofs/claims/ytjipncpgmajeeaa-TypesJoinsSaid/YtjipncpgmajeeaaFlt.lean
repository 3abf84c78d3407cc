/- A region that draws its order, one of whose first operations makes a block: the first ones, which all others wait for, walked once in the order of the text; then the others, in whatever order. No condition. -/
import Derived.Test.YtjipncpgmajeeaaHeadR
import Derived.StillTail
import Derived.Deep.Quiet
import Derived.RegionTactic
namespace Go.Proofs.Ytjipncpgmajeeaa
open Go
section
variable {P : Program} {ops : Array Oper} {md : Region.Mode} {CA CB : World → Prop}
/-- An operation that only reckons or reads. -/
def plainB (o : Oper) : Bool :=
  match o.op with
  | .move _ | .assign _ | .pick _ _ _ | .load _ _ | .build _ _ | .binOp _ _ _ _ _ | .unOp _ _ _ | .fieldAddr _ _ _ | .indexAddr _ _ _ | .extract _ _ => true
  | .call c => (match c.callee with | .builtin .len => true | _ => false)
  | _ => false
theorem val_run {s : Sem Value} {w w' : World} {n : Next} (h : Sem.run P (do pure (Next.value (← s))) w = .ok n w') : ∃ u, n = .value u := by
  have e : Sem.run P (do pure (Next.value (← s)) : Sem Next) w = (Sem.run P s w).andThen fun v w' => .ok (.value v) w' := by simp [go_sem]
  rw [e] at h
  cases hs : Sem.run P s w with
  | ok v w2 => rw [hs] at h; simp [Result.andThen] at h; exact ⟨v, h.1.symm⟩
  | halt x w2 => rw [hs] at h; simp [Result.andThen] at h
theorem val_run2 {α : Type} {s : Sem α} {f : α → Value} {w w' : World} {n : Next} (h : Sem.run P (s >>= fun x => pure (Next.value (f x))) w = .ok n w') : ∃ u, n = .value u := by
  have e : Sem.run P (s >>= fun x => pure (Next.value (f x)) : Sem Next) w = (Sem.run P s w).andThen fun v w' => .ok (.value (f v)) w' := by simp [go_sem]
  rw [e] at h
  cases hs : Sem.run P s w with
  | ok v w2 => rw [hs] at h; simp [Result.andThen] at h; exact ⟨_, h.1.symm⟩
  | halt x w2 => rw [hs] at h; simp [Result.andThen] at h
theorem plain_run {o : Oper} (hp : plainB o = true) {ρ : Operand → Value} {w w' : World} {n : Next} (h : (execOp ρ o).run P w = .ok n w') : ∃ u, n = .value u := by
  unfold plainB at hp
  split at hp
  all_goals first
    | (rename_i ho; unfold execOp at h; rw [ho] at h; exact val_run h)
    | (rename_i ho; unfold execOp at h; rw [ho] at h; exact val_run2 h)
    | (rename_i ho; unfold execOp at h; rw [ho] at h; simp [go_sem] at h; exact ⟨_, h.1.symm⟩)
    | (rename_i c ho
       split at hp
       · rename_i hc
         have e : execOp ρ o = (do let d ← resolve ρ c o.type; invoke d.target d.args) := by unfold execOp; rw [ho]
         rw [e] at h
         simp only [resolve, hc, invoke, builtin, pure_bind] at h
         exact val_run h
       · simp at hp)
    | (simp at hp)
/-- Yields v in each world of either class: the very world that it got. -/
def Sit (P : Program) (ops : Array Oper) (CA CB : World → Prop) (o : Oper) (v : Value) (a : Act) : Prop :=
  (Region.wanted o (yielded ops a.tmps) = true ∧ ∀ w, (CA w ∨ CB w) → (execOp a.eval o).run P w = .ok (.value v) w) ∨ (Region.wanted o (yielded ops a.tmps) = false ∧ v = undef)
/-- Makes v in each world of the one class: a world of the other one. -/
def Mak (P : Program) (ops : Array Oper) (CA CB : World → Prop) (o : Oper) (v : Value) (a : Act) : Prop :=
  Region.wanted o (yielded ops a.tmps) = true ∧ ∀ w, CA w → ∃ w', (execOp a.eval o).run P w = .ok (.value v) w' ∧ CB w'
def Yd (P : Program) (ops : Array Oper) (CA CB : World → Prop) (k i : Nat) (o : Oper) (v : Value) (a : Act) : Prop := if i = k then Mak P ops CA CB o v a else Sit P ops CA CB o v a
theorem Yd.of_same {k i : Nat} {o : Oper} {v : Value} {a a' : Act} (hy : Yd P ops CA CB k i o v a) (he : execOp a'.eval o = execOp a.eval o) (hw : Region.wanted o (yielded ops a'.tmps) = Region.wanted o (yielded ops a.tmps)) : Yd P ops CA CB k i o v a' := by
  unfold Yd Mak Sit at *
  rw [he, hw]; exact hy
def stepF (P : Program) (ops : Array Oper) (CA CB : World → Prop) (k i : Nat) (K : Act → Prop) (a : Act) : Prop := ∃ o v, ops[i]? = some o ∧ Yd P ops CA CB k i o v a ∧ K (a.put o.dst v)
def wpAnyF (P : Program) (md : Region.Mode) (ops : Array Oper) (CA CB : World → Prop) (k n : Nat) (L : Array Bool → Act → Prop) : Nat → Array Bool → Act → Prop
  | 0, listed, a => L listed a
  | f + 1, listed, a => Region.ready md ops listed ≠ [] ∧ ∀ i ∈ Region.ready md ops listed, i < n ∧ stepF P ops CA CB k i (wpAnyF P md ops CA CB k n L f (listed.setIfInBounds i true)) a
def cls (CA CB : World → Prop) (k : Nat) (listed : Array Bool) (w : World) : Prop := if listed.getD k false = true then CB w else CA w
theorem wpAny_of_F {k n g : Nat} {L : Array Bool → Act → Prop} {Q' : Exit → Act → World → Prop} (hL : ∀ listed a w, cls CA CB k listed w → L listed a → wpAny P md ops Q' g listed a w) :
    ∀ (f : Nat) (listed : Array Bool) (a : Act) (w : World), k < listed.size → cls CA CB k listed w → wpAnyF P md ops CA CB k n L f listed a → wpAny P md ops Q' (f + g) listed a w
  | 0, listed, a, w, _, hw, h => by rw [Nat.zero_add]; exact hL _ _ _ hw h
  | f + 1, listed, a, w, hk, hw, h => by
    rw [show f + 1 + g = (f + g) + 1 by omega]
    refine ⟨fun h0 => absurd h0 h.1, fun i hi => ?_⟩
    obtain ⟨hin, o, v, ho, hy, hK⟩ := h.2 i hi
    have hun := (mem_ready.1 hi).1
    unfold wpOp
    simp only [ho]
    by_cases hik : i = k
    · subst hik
      unfold Yd at hy
      rw [if_pos rfl] at hy
      obtain ⟨hwant, hrun⟩ := hy
      have hA : CA w := by unfold cls at hw; rw [getD_both hun] at hw; simpa using hw
      obtain ⟨w', hr, hB⟩ := hrun w hA
      rw [if_pos hwant]
      refine .inl ?_
      unfold Oper.wp
      rw [hr]
      simp only [Oper.upon]
      refine wpAny_of_F hL f _ _ w' (by simpa using hk) ?_ hK
      unfold cls
      have : (listed.setIfInBounds i true).getD i false = true := by simp [hk]
      rw [this]; exact hB
    · unfold Yd at hy
      rw [if_neg hik] at hy
      have hc2 : cls CA CB k (listed.setIfInBounds i true) w := by
        unfold cls at hw ⊢
        have : (listed.setIfInBounds i true).getD k false = listed.getD k false := by
          rcases Nat.lt_or_ge k listed.size with h' | h'
          · simp [h', hik]
          · simp [h']
        rw [this]; exact hw
      rcases hy with ⟨hwant, hrun⟩ | ⟨hwant, rfl⟩
      · rw [if_pos hwant]
        refine .inl ?_
        unfold Oper.wp
        rw [hrun w (by unfold cls at hw; by_cases hq : listed.getD k false = true; rw [if_pos hq] at hw; exact .inr hw; rw [if_neg hq] at hw; exact .inl hw)]
        simp only [Oper.upon]
        exact wpAny_of_F hL f _ _ w (by simpa using hk) hc2 hK
      · rw [if_neg (by rw [hwant]; simp)]
        exact wpAny_of_F hL f _ _ w (by simpa using hk) hc2 hK
theorem wpAnyF_first {k n i : Nat} {oi : Oper} {v : Value} {L : Array Bool → Act → Prop} (hi : ops[i]? = some oi) (hsel : ∀ (j : Nat) (o : Oper) cs b, ops[j]? = some o → o.op ≠ .select cs b)
    (hs : Region.sinkB md ops n = true) (hc : tailsB md ops n = true) (hn : n < ops.size) (hin : i < n)
    (hdone : ∀ listed a, L listed a → ∀ j ∈ Region.ready md ops listed, n ≤ j) :
    ∀ (f : Nat) (listed : Array Bool) (a : Act), HeadInv md ops n listed →
      (∀ j oj, ops[j]? = some oj → j ≠ i → listed.getD j true = false → (∀ e ∈ oj.after, Region.binds md e = true → e.on ≠ i) → oi.apart ops oj = true) →
      i ∈ Region.ready md ops listed → Yd P ops CA CB k i oi v a →
      wpAnyF P md ops CA CB k n L f (listed.setIfInBounds i true) (a.put oi.dst v) → wpAnyF P md ops CA CB k n L (f + 1) listed a := by
  intro f
  induction f with
  | zero =>
    intro listed a inv _ hr hy H
    have hun := (mem_ready.1 hr).1
    refine ⟨fun h => (by rw [h] at hr; cases hr), fun j hj => ?_⟩
    have hjn : j < n := by
      rcases Nat.lt_or_ge j n with h | h
      · exact h
      · exact absurd hj (tail_later hs hc hn inv hin hun j h)
    refine ⟨hjn, ?_⟩
    by_cases hji : j = i
    · subst hji; exact ⟨oi, v, hi, hy, H⟩
    · have := hdone _ _ H j (ready_mono hj hji)
      omega
  | succ f ih =>
    intro listed a inv hfree hr hy H
    have hun := (mem_ready.1 hr).1
    refine ⟨fun h => (by rw [h] at hr; cases hr), fun j hj => ?_⟩
    have hjn : j < n := by
      rcases Nat.lt_or_ge j n with h | h
      · exact h
      · exact absurd hj (tail_later hs hc hn inv hin hun j h)
    refine ⟨hjn, ?_⟩
    by_cases hji : j = i
    · subst hji; exact ⟨oi, v, hi, hy, H⟩
    · obtain ⟨-, oj, u, hoj, hyj, hKj⟩ := H.2 j (ready_mono hj hji)
      obtain ⟨hjun, oj', hoj', hall⟩ := mem_ready.1 hj
      have : oj' = oj := Option.some.inj (hoj'.symm.trans hoj)
      subst this
      have hnot : ∀ e ∈ oj'.after, Region.binds md e = true → e.on ≠ i := fun e he hb heq => by
        have h1 := hall e he hb
        rw [heq, getD_both hun] at h1
        cases h1
      obtain ⟨h1, h2, h3⟩ := Oper.apart_spec (hfree j oj' hoj hji hjun hnot)
      have hfree' : ∀ x ok, ops[x]? = some ok → x ≠ i → (listed.setIfInBounds j true).getD x true = false →
          (∀ e ∈ ok.after, Region.binds md e = true → e.on ≠ i) → oi.apart ops ok = true := fun x ok hx hxi hun hno => by
        refine hfree x ok hx hxi ?_ hno
        by_cases hjx : j = x
        · subst hjx; exact hjun
        · rw [getD_set_ne true hjx] at hun; exact hun
      refine ⟨oj', u, hoj, hyj.of_same (execOp_put oj' (fun cs b => hsel j oj' cs b hoj) a oi.dst v h1).symm (wanted_put oj' a oi.dst v h1).symm, ?_⟩
      refine ih (listed.setIfInBounds j true) _ (inv.set hj hjn) hfree' (ready_mono hr (Ne.symm hji)) (hy.of_same (execOp_put oi (fun cs b => hsel i oi cs b hi) a oj'.dst u h3) (wanted_put oi a oj'.dst u h3)) ?_
      rw [Array.setIfInBounds_comm _ _ hji, ← Act.put_comm a v u h2]
      exact hKj
/-- The walk in the order of the text. -/
def wpLx (P : Program) (ops : Array Oper) (CA CB : World → Prop) (k : Nat) (Lq : Act → Prop) : Nat → List Oper → Act → Prop
  | _, [], a => Lq a
  | s, o :: l, a => ∃ v, Yd P ops CA CB k s o v a ∧ wpLx P ops CA CB k Lq (s + 1) l (a.put o.dst v)
theorem wpAnyF_lex {k n : Nat} {Lq : Act → Prop} (hsel : Region.noSelect ops = true) (hs : Region.sinkB md ops n = true) (hc : tailsB md ops n = true) (hn : n < ops.size) :
    ∀ (l : List Oper) (s : Nat) (listed : Array Bool) (a : Act), (∀ j ∈ Region.ready md ops (marks l.length s listed), n ≤ j) → (∀ j, j < l.length → l[j]? = ops[s + j]?) → s + l.length = n → HeadInv md ops n listed →
    lexH md ops l.length s listed = true → wpLx P ops CA CB k Lq s l a →
    wpAnyF P md ops CA CB k n (fun listed' a' => listed' = marks l.length s listed ∧ Lq a') l.length listed a
  | [], s, listed, a, _, _, _, _, _, h => ⟨rfl, h⟩
  | o :: l, s, listed, a, hd, hl, hk, inv, hB, h => by
    have h0 : ops[s]? = some o := by simpa using (hl 0 (by simp)).symm
    simp only [List.length_cons, lexH, Bool.and_eq_true] at hB
    obtain ⟨⟨hr, hf⟩, hB'⟩ := hB
    have hkn : s < n := by simp only [List.length_cons] at hk; omega
    have hr' : s ∈ Region.ready md ops listed := by simpa using hr
    obtain ⟨v, hy, hK⟩ := h
    exact wpAnyF_first h0 (Region.noSelect_spec hsel) hs hc hn hkn (fun listed' a' hL j hj => hd j (by rw [hL.1] at hj; exact hj)) l.length listed a inv (Region.free_spec h0 hf) hr' hy
      (wpAnyF_lex hsel hs hc hn l (s + 1) _ _ hd (fun j hj => by have := hl (j + 1) (by simp; omega); simpa [Nat.add_assoc, Nat.add_comm 1 j] using this) (by simp only [List.length_cons] at hk; omega) (inv.set hr' hkn) hB' hK)
theorem sit_of {o : Oper} {a : Act} {K : Act → Prop} (hp : plainB o = true) (h : if Region.wanted o (yielded ops a.tmps) then o.quiet P a (fun w => CA w ∨ CB w) K else K (a.put o.dst undef)) : ∃ v, Sit P ops CA CB o v a ∧ K (a.put o.dst v) := by
  by_cases hw : Region.wanted o (yielded ops a.tmps) = true
  · rw [if_pos hw] at h
    obtain ⟨v, h1, h2⟩ := h
    refine ⟨v, .inl ⟨hw, fun w hc => ?_⟩, h2⟩
    have h3 := h1 w hc
    unfold Oper.quietAt at h3
    cases hr : (execOp a.eval o).run P w with
    | halt x w' => rw [hr] at h3; simp [Oper.quietUpon] at h3
    | ok n w' =>
      obtain ⟨u, rfl⟩ := plain_run hp hr
      rw [hr] at h3
      simp only [Oper.quietUpon] at h3
      rw [h3.1, h3.2]
  · rw [if_neg hw] at h
    exact ⟨undef, .inr ⟨by simpa using hw, rfl⟩, h⟩
theorem lx_of_quiet {k : Nat} {Lq : Act → Prop} (l2 : List Oper) : ∀ (l : List Oper) (s : Nat) (a : Act), (∀ j, j < l.length → s + j ≠ k) → (l.all plainB = true) → wpQuiet P ops (fun w => CA w ∨ CB w) (fun a' => wpLx P ops CA CB k Lq (s + l.length) l2 a') l a → wpLx P ops CA CB k Lq s (l ++ l2) a
  | [], s, a, _, _, h => h
  | o :: l, s, a, hk, hp, h => by
    rw [List.all_cons, Bool.and_eq_true] at hp
    obtain ⟨v, h1, h2⟩ := sit_of hp.1 h
    refine ⟨v, ?_, ?_⟩
    · unfold Yd; rw [if_neg (by have := hk 0 (by simp); omega)]; exact h1
    · refine lx_of_quiet l2 l (s + 1) _ (fun j hj => by have := hk (j + 1) (by simp; omega); omega) hp.2 ?_
      rw [List.length_cons] at h2
      rwa [show s + 1 + l.length = s + (l.length + 1) by omega]
theorem wpQuiet_mono {C : World → Prop} {Q Q' : Act → Prop} (h : ∀ a, Q a → Q' a) : ∀ (l : List Oper) (a : Act), wpQuiet P ops C Q l a → wpQuiet P ops C Q' l a
  | [], a, hh => h a hh
  | o :: l, a, hh => by
    unfold wpQuiet at hh ⊢
    by_cases hw : Region.wanted o (yielded ops a.tmps) = true
    · rw [if_pos hw] at hh ⊢
      obtain ⟨v, h1, h2⟩ := hh
      exact ⟨v, h1, wpQuiet_mono h l _ h2⟩
    · rw [if_neg hw] at hh ⊢
      exact wpQuiet_mono h l _ hh
def floatB (md : Region.Mode) (ops : Array Oper) (n k : Nat) : Bool := headB md ops n && decide (k < n) && (ops.toList.take k).all plainB && ((ops.toList.drop (k + 1)).take (n - k - 1)).all plainB
theorem wp_region_float {id : Nat} {Q : Exit → Act → World → Prop} {a : Act} {w : World} {l : List Oper} (n k : Nat) (hm : P.follows .mixedOrders = true) (hB : floatB .any l.toArray n k = true) (hC : CA w.drew)
    (h : wpQuiet P l.toArray (fun w => CA w ∨ CB w) (fun a1 => ∃ o v, l[k]? = some o ∧ Mak P l.toArray CA CB o v a1 ∧
      wpQuiet P l.toArray (fun w => CA w ∨ CB w) (fun a' => ∀ w', CB w' → wpAny P .any l.toArray Q (l.length - n) (marks n 0 (Array.replicate l.length false)) a' w') ((l.drop (k + 1)).take (n - k - 1)) (a1.put o.dst v)) (l.take k) a) : (Code.region id l.toArray true).wp P Q a w := by
  simp only [floatB, headB, Bool.and_eq_true, decide_eq_true_eq] at hB
  obtain ⟨⟨⟨⟨⟨⟨⟨⟨⟨hsel, hn0⟩, hn⟩, hs⟩, hc⟩, hlex⟩, hd⟩, hkn⟩, hp1⟩, hp2⟩ := hB
  have hn' : n < l.length := by simpa using hn
  have htl : (l.take n).length = n := by simp; omega
  have inv0 : HeadInv .any l.toArray n (Array.replicate l.toArray.size false) :=
    ⟨by simp, fun j oj _ hl => (by rw [getD_replicate_false] at hl; cases hl), fun t _ ht => getD_in (by simpa using ht) (getD_replicate_false _ _)⟩
  have hd' : ∀ j ∈ Region.ready .any l.toArray (marks (l.take n).length 0 (Array.replicate l.toArray.size false)), n ≤ j := fun j hj => by
    rw [htl] at hj
    simpa using List.all_eq_true.1 hd j hj
  have hsplit : l.take n = l.take k ++ (l[k]'(by omega) :: (l.drop (k + 1)).take (n - k - 1)) := by
    apply List.ext_getElem?
    intro i
    rcases Nat.lt_or_ge i k with h1 | h1
    · rw [List.getElem?_append_left (by simp; omega)]
      simp [h1, show i < n by omega]
    · rw [List.getElem?_append_right (by simp; omega)]
      have e : (l.take k).length = k := by simp; omega
      rw [e]
      rcases Nat.eq_or_lt_of_le h1 with h2 | h2
      · subst h2; simp [hkn, List.getElem?_eq_getElem (show k < l.length by omega)]
      · obtain ⟨d, hd⟩ : ∃ d, i = k + 1 + d := ⟨i - (k + 1), by omega⟩
        subst hd
        rw [show k + 1 + d - k = d + 1 by omega, List.getElem?_cons_succ]
        simp only [List.getElem?_take, List.getElem?_drop]
        by_cases h3 : k + 1 + d < n
        · rw [if_pos h3, if_pos (by omega)]
        · rw [if_neg h3, if_neg (by omega)]
  have hlx : wpLx P l.toArray CA CB k (fun a' => ∀ w', CB w' → wpAny P .any l.toArray Q (l.length - n) (marks n 0 (Array.replicate l.length false)) a' w') 0 (l.take n) a := by
    rw [hsplit]
    refine lx_of_quiet _ _ 0 a (fun j hj => by simp at hj; omega) (by simpa using hp1) ?_
    have e : (l.take k).length = k := by simp; omega
    rw [Nat.zero_add, e]
    refine wpQuiet_mono (fun a1 h1 => ?_) _ _ h
    obtain ⟨o, v, ho, hmk, hq⟩ := h1
    have : o = l[k]'(by omega) := by
      rw [List.getElem?_eq_getElem (by omega)] at ho
      exact (Option.some.inj ho).symm
    subst this
    refine ⟨v, by unfold Yd; rw [if_pos rfl]; exact hmk, ?_⟩
    have := lx_of_quiet (k := k) (Lq := fun a' => ∀ w', CB w' → wpAny P .any l.toArray Q (l.length - n) (marks n 0 (Array.replicate l.length false)) a' w') [] ((l.drop (k + 1)).take (n - k - 1)) (k + 1) (a1.put (l[k]'(by omega)).dst v) (fun j hj => by omega) (by simpa using hp2) hq
    simpa using this
  have H := wpAnyF_lex (md := .any) hsel hs hc hn (l.take n) 0 _ a hd' (fun j hj => by
    have hj' : j < n := by rw [htl] at hj; exact hj
    simp [hj']) (by simpa using htl) inv0 (by rw [htl]; exact hlex) hlx
  refine wp_region_any hm ?_
  have := wpAny_of_F (Q' := Q) (g := l.length - n) (fun listed a' w' hw' hL => by
    rw [hL.1, htl] at hw' ⊢
    have hmk : ∀ (f s : Nat) (L : Array Bool), k < L.size → (s ≤ k ∧ k < s + f ∨ L.getD k false = true) → (marks f s L).getD k false = true := by
      intro f
      induction f with
      | zero => intro s L _ h; rcases h with h | h; omega; exact h
      | succ f ih =>
        intro s L hsz h
        rw [marks]
        refine ih (s + 1) _ (by simpa using hsz) ?_
        by_cases hsk : s = k
        · subst hsk; right; simp [hsz]
        · rcases h with h | h
          · left; omega
          · right
            simp [hsz, hsk] at h ⊢
            exact h
    have : cls CA CB k (marks n 0 (Array.replicate l.toArray.size false)) w' = CB w' := by
      unfold cls; rw [if_pos (hmk n 0 _ (by simp; omega) (.inl ⟨Nat.zero_le _, by omega⟩))]
    rw [this] at hw'
    simpa using hL.2 w' hw') _ _ _ _ (by simp; omega) (by unfold cls; rw [if_neg (by rw [getD_replicate_false]; simp)]; exact hC) H
  rw [htl, show n + (l.length - n) = l.length by omega] at this
  simpa using this
/-- The world, or the world with one block more. -/
structure InF (V : World) (Z : Obj) where
  w : World
  ok : w = V.drew ∨ w = V.drew.alloc Z
theorem InF.some (V : World) (Z : Obj) : Nonempty (InF V Z) := ⟨⟨V.drew, .inl rfl⟩⟩
theorem InF.cell {V : World} {Z : Obj} (p : InF V Z) {a : Addr} {v : Value} (h : V.cell? a = Option.some v) (h2 : (V.alloc Z).cell? a = Option.some v) : p.w.cell? a = Option.some v := by
  rcases p.ok with e | e
  · rw [e]; exact h
  · rw [e]; exact h2
theorem wp_region_make {V : World} (Z : Obj) {id : Nat} {Q : Exit → Act → World → Prop} {a : Act} {l : List Oper} (n k : Nat) (hm : P.follows .mixedOrders = true) (hB : floatB .any l.toArray n k = true)
    (h : wpQuiet P l.toArray (fun w' => ∃ p : InF V Z, w' = p.w) (fun a1 => ∃ o v, l[k]? = some o ∧ (Region.wanted o (yielded l.toArray a1.tmps) = true ∧ (execOp a1.eval o).run P V.drew = .ok (.value v) (V.drew.alloc Z)) ∧
      wpQuiet P l.toArray (fun w' => ∃ p : InF V Z, w' = p.w) (fun a' => wpAny P .any l.toArray Q (l.length - n) (marks n 0 (Array.replicate l.length false)) a' (V.drew.alloc Z)) ((l.drop (k + 1)).take (n - k - 1)) (a1.put o.dst v)) (l.take k) a) : (Code.region id l.toArray true).wp P Q a V := by
  have e : (fun w' => ∃ p : InF V Z, w' = p.w) = (fun w => w = V.drew ∨ w = V.drew.alloc Z) := funext fun w => propext ⟨fun ⟨p, hp⟩ => hp ▸ p.ok, fun h => ⟨⟨w, h⟩, rfl⟩⟩
  rw [e] at h
  refine wp_region_float (CA := fun w => w = V.drew) (CB := fun w => w = V.drew.alloc Z) n k hm hB rfl (wpQuiet_mono (fun a1 h1 => ?_) _ _ h)
  obtain ⟨o, v, ho, ⟨hw, hr⟩, hq⟩ := h1
  exact ⟨o, v, ho, ⟨hw, fun w hA => ⟨V.drew.alloc Z, by rw [hA]; exact hr, rfl⟩⟩, wpQuiet_mono (fun a' h' w' hB' => by rw [hB']; exact h') _ _ hq⟩
end
end Go.Proofs.Ytjipncpgmajeeaa
