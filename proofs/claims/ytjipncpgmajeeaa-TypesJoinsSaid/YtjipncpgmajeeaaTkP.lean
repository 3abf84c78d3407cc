/- What only reads leaves the world as it was, whatever it is asked. No condition. -/
import Derived.Test.YtjipncpgmajeeaaTkC
import Derived.Test.YtjipncpgmajeeaaTyM
namespace Go.Proofs.Ytjipncpgmajeeaa
open Go
section
variable {P : Program} {α β : Type}
def Pu (P : Program) (s : Sem α) : Prop := ∀ w x w', Sem.run P s w = .ok x w' → w' = w
theorem Pu.pure (x : α) : Pu P (Pure.pure x : Sem α) := fun w y w' h => by simp [go_sem] at h; exact h.2.symm
theorem Pu.bind {s : Sem α} {f : α → Sem β} (hs : Pu P s) (hf : ∀ x, Pu P (f x)) : Pu P (s >>= f) := fun w y w' h => by
  rw [show Sem.run P (s >>= f) w = (Sem.run P s w).andThen fun x w1 => Sem.run P (f x) w1 from by simp [go_sem]] at h
  cases hr : Sem.run P s w with
  | ok x w1 => rw [hr] at h; simp [Result.andThen] at h; exact (hf x _ _ _ h).trans (hs _ _ _ hr)
  | halt x w1 => rw [hr] at h; simp [Result.andThen] at h
theorem Pu.map {s : Sem α} {f : α → β} (hs : Pu P s) : Pu P (f <$> s) := by
  rw [map_eq_pure_bind]; exact hs.bind fun x => Pu.pure _
theorem Pu.stuck (m : String) : Pu P (Go.stuck m : Sem α) := fun w y w' h => by simp [go_sem, Go.stuck] at h
theorem Pu.typeInfo (t : TypeId) : Pu P (Go.typeInfo t) := fun w y w' h => by
  simp [go_sem, Go.typeInfo] at h
  split at h <;> simp [go_sem, Go.stuck] at h
  exact h.2.symm
theorem Pu.underlying (t : TypeId) : Pu P (Go.underlying t) := fun w y w' h => by
  simp [go_sem, Go.underlying] at h
  split at h <;> simp [go_sem, Go.stuck] at h
  exact h.2.symm
theorem Pu.sizeOf (t : TypeId) : Pu P (Go.sizeOf t) := (Pu.typeInfo t).bind fun _ => Pu.pure _
theorem Pu.unsupported (m) : Pu P (Go.unsupported m : Sem α) := fun w y w' h => by simp [go_sem, Go.unsupported] at h
theorem Pu.zeroValue (t : TypeId) : Pu P (Go.zeroValue t) := (Pu.typeInfo t).bind fun i => by
  cases i.zero with
  | none => exact Pu.unsupported _
  | some v => exact Pu.pure _
theorem Pu.isAgg (t : TypeId) : Pu P (Go.isAgg t) := (Pu.underlying t).bind fun d => by
  split <;> exact Pu.pure _
theorem Pu.load (a : Addr) : Pu P (Go.load a) := fun w y w' h => by
  simp [go_sem] at h
  split at h
  · simp at h; exact h.2.symm
  · split at h
    · simp at h; exact h.2.symm
    · simp at h
theorem Pu.loadCellsFrom (a : Addr) : ∀ (n i : Nat) (acc : Array Value), Pu P (Go.loadCellsFrom a i n acc)
  | 0, _, _ => Pu.pure _
  | n + 1, i, _ => (Pu.load _).bind fun _ => Pu.loadCellsFrom a n (i + 1) _
theorem Pu.boundsPanic (k : IntKind) (i : Int) (n : Nat) (q) : Pu P (Go.boundsPanic k i n q : Sem α) := fun w y w' h => by
  simp [go_sem, Go.boundsPanic] at h
  split at h <;> simp at h
/-- A value is what comes of it, in a world as it was. -/
theorem pu_val {s : Sem Value} {w w' : World} {n : Next} (hs : Pu P s) (h : Sem.run P (do Pure.pure (Next.value (← s))) w = .ok n w') : (∃ u, n = .value u) ∧ w' = w :=
  ⟨val_run h, (hs.bind fun _ => Pu.pure _) _ _ _ h⟩
theorem pu_val2 {f : α → Value} {s : Sem α} {w w' : World} {n : Next} (hs : Pu P s) (h : Sem.run P (s >>= fun x => Pure.pure (Next.value (f x))) w = .ok n w') : (∃ u, n = .value u) ∧ w' = w :=
  ⟨val_run2 h, (hs.bind fun _ => Pu.pure _) _ _ _ h⟩
theorem Pu.sureAddr (v : Value) : Pu P (Instr.sureAddr v) := by
  unfold Instr.sureAddr
  split <;> first | exact Pu.pure _ | exact Pu.stuck _
theorem Pu.loadVar (t : TypeId) (a : Addr) : Pu P (Go.loadVar t a) := by
  unfold Go.loadVar
  refine Pu.bind (Pu.isAgg _) fun b => ?_
  split
  · exact (Pu.sizeOf _).bind fun k => (Pu.loadCellsFrom _ _ _ _).bind fun _ => Pu.pure _
  · exact Pu.load _
theorem keeps_load {W : World} {o : Oper} {t : TypeId} {x : Operand} (ho : o.op = .load t x) : Keeps P (Low W) o := fun ρ w n w' hC h => by
  unfold execOp at h; rw [ho] at h
  have := pu_val ((Pu.sureAddr (ρ x)).bind fun a => Pu.loadVar t a) h
  exact ⟨this.1, this.2 ▸ hC⟩
theorem keeps_move {W : World} {o : Oper} {x : Operand} (ho : o.op = .move x) : Keeps P (Low W) o := fun ρ w n w' hC h => by
  unfold execOp at h; rw [ho] at h; simp [go_sem] at h
  exact ⟨⟨_, h.1.symm⟩, h.2 ▸ hC⟩
theorem keeps_alloc {W : World} {o : Oper} {t : TypeId} (ho : o.op = .alloc t) : Keeps P (Low W) o := fun ρ w n w' hC h => by
  unfold execOp at h; rw [ho] at h; simp [go_sem] at h
  cases hr : Sem.run P (Go.zeroValue t) w with
  | halt x w1 => rw [hr] at h; simp [Result.andThen] at h
  | ok x w1 =>
    rw [hr] at h; simp [Result.andThen] at h
    obtain rfl := Pu.zeroValue t _ _ _ hr
    exact ⟨⟨_, h.1.symm⟩, h.2 ▸ low_new hC _⟩
theorem Pu.program : Pu P Go.program := fun w y w' h => by simp [go_sem] at h; exact h.2.symm
theorem Pu.asIntOf (v : Value) : Pu P (Go.asIntOf v) := by
  unfold Go.asIntOf
  split
  · exact Pu.pure _
  · exact Pu.unsupported _
  · exact Pu.stuck _
theorem Pu.indexAt (t : TypeId) (x k : Value) : Pu P (Instr.indexAt t x k) := by
  unfold Instr.indexAt
  refine (Pu.asIntOf k).bind fun ki => ?_
  refine Pu.bind (Pu.underlying t) fun d => ?_
  have jp : ∀ (base : Option Addr) (len : Nat) (elem : TypeId), Pu P (do
      let d ← Go.underlying t
      let tiny := decide (len ≤ 1) && (match d with | .array .. => true | _ => false)
      match base with
      | some a => if 0 ≤ ki.2 ∧ ki.2 < len then do Pure.pure (Value.pointer (some (a.add (ki.2.toNat * (← Go.sizeOf elem))))) else if tiny then Go.unsupported (.noEntry "op/indexAddr.an index out of range at an array of length 0 or 1 (ledger 616)") else Go.boundsPanic ki.1 ki.2 len .index
      | none => Go.boundsPanic ki.1 ki.2 0 .index) := fun base len elem => by
    refine Pu.bind (Pu.underlying t) fun d => ?_
    dsimp only
    cases base with
    | none => exact Pu.boundsPanic _ _ _ _
    | some a =>
      dsimp only
      split
      · exact (Pu.sizeOf _).bind fun _ => Pu.pure _
      · repeat' split
        all_goals first
          | exact Pu.unsupported _
          | exact Pu.boundsPanic _ _ _ _
  dsimp only
  split
  · exact (Pu.sureAddr _).bind fun a => jp (some a) _ _
  · exact jp _ _ _
  · exact Pu.stuck _
theorem keeps_index {W : World} {o : Oper} {t : TypeId} {x k : Operand} (ho : o.op = .indexAddr t x k) : Keeps P (Low W) o := fun ρ w n w' hC h => by
  unfold execOp at h; rw [ho] at h
  have := pu_val (Pu.indexAt t (ρ x) (ρ k)) h
  exact ⟨this.1, this.2 ▸ hC⟩
theorem Pu.shape (r : Nat) : Pu P (Go.shape r) := fun w y w' h => by simp [go_sem] at h; exact h.2.symm
theorem Pu.getObj (r : Nat) : Pu P (Go.getObj r) := fun w y w' h => by
  unfold Go.getObj at h
  unfold Sem.run at h
  split at h <;> simp [Sem.run] at h
  exact h.2.symm
theorem Pu.viewAt (r : Nat) : Pu P (Go.viewAt r) := by
  unfold Go.viewAt
  refine (Pu.shape r).bind fun v => ?_
  split
  · exact Pu.pure _
  · refine (Pu.getObj r).bind fun o => ?_
    split <;> exact Pu.pure _
theorem Pu.noView (a : Addr) : Pu P (Go.noView a) := by
  unfold Go.noView
  refine (Pu.viewAt _).bind fun v => ?_
  split
  · exact Pu.unsupported _
  · exact Pu.pure _
theorem Pu.byteOf (a : Addr) : Pu P (Go.byteOf a) := by
  unfold Go.byteOf
  split
  · exact Pu.pure _
  refine Pu.program.bind fun p => (Pu.noView a).bind fun _ => (Pu.shape _).bind fun sh => ?_
  split
  · dsimp only
    split
    · exact Pu.pure _
    · split
      · exact Pu.pure _
      · exact Pu.stuck _
  · exact Pu.stuck _
theorem Pu.fieldAt (t : TypeId) (x : Value) (k : Nat) : Pu P (Instr.fieldAt t x k) := by
  unfold Instr.fieldAt
  refine Pu.bind (Pu.underlying t) fun d => ?_
  split
  · split
    · refine (Pu.sureAddr x).bind fun a => Pu.bind ?_ fun _ => Pu.pure _
      unfold Go.fieldPlace
      refine (Pu.sizeOf _).bind fun z => ?_
      split
      · unfold Go.partAt
        exact (Pu.byteOf _).bind fun b => (Pu.byteOf _).bind fun _ => Pu.pure _
      · exact Pu.pure _
    · exact Pu.stuck _
  · exact Pu.stuck _
theorem keeps_field {W : World} {o : Oper} {t : TypeId} {x : Operand} {k : Nat} (ho : o.op = .fieldAddr t x k) : Keeps P (Low W) o := fun ρ w n w' hC h => by
  unfold execOp at h; rw [ho] at h
  have := pu_val (Pu.fieldAt t (ρ x) k) h
  exact ⟨this.1, this.2 ▸ hC⟩
def calmB (o : Oper) : Bool := match o.op with | .load _ _ | .move _ | .alloc _ | .fieldAddr _ _ _ | .indexAddr _ _ _ => true | _ => false
theorem keeps_calm {W : World} {o : Oper} (h : calmB o = true) : Keeps P (Low W) o := by
  unfold calmB at h
  split at h
  · rename_i ho; exact keeps_load ho
  · rename_i ho; exact keeps_move ho
  · rename_i ho; exact keeps_alloc ho
  · rename_i ho; exact keeps_field ho
  · rename_i ho; exact keeps_index ho
  · cases h
def calmsB (ops : Array Oper) (n k : Nat) : Bool := (List.range ops.size).all fun j => !(decide (j < n) || decide (j = k)) || match ops[j]? with | some o => calmB o | none => true
theorem keeps_all {W : World} {ops : Array Oper} {n k : Nat} (h : calmsB ops n k = true) : ∀ j oj, ops[j]? = some oj → j < n ∨ j = k → Keeps P (Low W) oj := fun j oj hj hjk => by
  simp only [calmsB, List.all_eq_true, List.mem_range] at h
  have := h j (Array.getElem?_eq_some_iff.1 hj).1
  simp only [hj, Bool.or_eq_true, Bool.not_eq_true', Bool.or_eq_false_iff, decide_eq_false_iff_not] at this
  rcases this with ⟨h1, h2⟩ | h1
  · rcases hjk with h | h
    · exact absurd h h1
    · exact absurd h h2
  · exact keeps_calm h1
/-- One read first, in a region where one 'alloc' waits for nothing. -/
theorem wpAny_takeL {ops : Array Oper} {md : Region.Mode} {Q : Exit → Act → World → Prop} {W : World} {fuel : Nat} {listed : Array Bool} {a : Act} {w : World} (n k i : Nat) {oi : Oper} (v : Value) (hi : ops[i]? = some oi) (hB : (takeKB md ops n k listed i && calmsB ops n k) = true)
    (hC : Low W w) (hw : Region.wanted oi (yielded ops a.tmps) = true) (hy : ∀ w, Low W w → (execOp a.eval oi).run P w = .ok (.value v) w)
    (hQ : ∀ c a w, Q (.panic c) (a.put oi.dst v) w → Q (.panic c) a w)
    (h : wpAny P md ops Q fuel (listed.setIfInBounds i true) (a.put oi.dst v) w) : wpAny P md ops Q (fuel + 1) listed a w := by
  simp only [Bool.and_eq_true] at hB
  exact wpAny_takeK n k i hi hB.1 (keeps_all hB.2) hQ hC (.inl ⟨hw, hy⟩) h
end
end Go.Proofs.Ytjipncpgmajeeaa
