/- Maps by keys of one's own, at an operation of a walk. Condition: the key's type is one that the library knows. -/
import Derived.Test.YtijjbfdbhfjfmaaMapR
import Derived.Maps.OwnOps
namespace Go.Proofs.Ytijjbfdbhfjfmaa
open Go.RowKit Go.Maps
section
variable {P : Program} {k : TypeId} {α : Type} {ops : Array Oper} {rest : List Oper} {o : Oper} {a : Act} {w : World} {Q : Exit → Act → World → Prop}
theorem at_look (hg : o.guard = none) (m x : Operand) (t : TypeId) (hop : o.op = Op.lookup t m x false) {F : KeyF P k α} (K : Keyed P k) {e : TypeId} (ht : P.underlying t = some (.map k e)) {z : Value} (hz : (zeroValue e).run P w = .ok z w) {b n : Nat} {f : α → Option Value}
    (hm : a.eval m = .map (some b)) (h : MapAt F w b n f) (u : α) (hx : a.eval x = F.kv u) (v : Value) (hv : (f u).getD z = v) (hK : wpList P ops Q rest (a.put o.dst v) w) : wpList P ops Q (o :: rest) a w := by
  refine wpList_plain hg fun K' hK' => ?_
  have hrun := h.look K ht hz u
  rw [hv] at hrun
  unfold Oper.wp
  simp [execOp, hop, hm, hx, hrun, Result.andThen]
  exact hK' _ _ hK
theorem at_lookOk (hg : o.guard = none) (m x : Operand) (t : TypeId) (hop : o.op = Op.lookup t m x true) {F : KeyF P k α} (K : Keyed P k) {e : TypeId} (ht : P.underlying t = some (.map k e)) {z : Value} (hz : (zeroValue e).run P w = .ok z w) {b n : Nat} {f : α → Option Value}
    (hm : a.eval m = .map (some b)) (h : MapAt F w b n f) (u : α) (hx : a.eval x = F.kv u) (v : Value) (q : Bool) (hv : (f u).getD z = v) (hq : (f u).isSome = q) (hK : wpList P ops Q rest (a.put o.dst (.tuple #[v, .bool q])) w) : wpList P ops Q (o :: rest) a w := by
  refine wpList_plain hg fun K' hK' => ?_
  have hrun := h.lookOk K ht hz u
  rw [hv, hq] at hrun
  unfold Oper.wp
  simp [execOp, hop, hm, hx, hrun, Result.andThen]
  exact hK' _ _ hK
theorem at_store [DecidableEq α] (hg : o.guard = none) (m x v : Operand) (t : TypeId) (hop : o.op = Op.mapUpdate t m x v) {F : KeyF P k α} (K : Keyed P k) {e : TypeId} (ht : P.underlying t = some (.map k e)) {b n : Nat} {f : α → Option Value}
    (hm : a.eval m = .map (some b)) (h : MapAt F w b n f) (hn : n < maxLen) (u : α) (hx : a.eval x = F.kv u) (val : Value) (hv : a.eval v = val)
    (hK : ∀ w', MapAt F w' b (n + 1) (updF f u (some val)) → w.mapTurned w' b → wpList P ops Q rest (a.put o.dst undef) w') : wpList P ops Q (o :: rest) a w := by
  refine wpList_plain hg fun K' hK' => ?_
  obtain ⟨w', hrun, r1, r2⟩ := h.store K ht hn u val
  unfold Oper.wp
  simp [execOp, hop, hm, hx, hv, hrun, Result.andThen]
  exact hK' _ _ (hK w' r1 r2)
theorem at_drop [DecidableEq α] (hg : o.guard = none) (m x : Operand) (t : TypeId) (hop : o.op = Op.call { callee := Callee.builtin Builtin.delete, args := #[m, x], argTypes := #[t, k] }) {F : KeyF P k α} (K : Keyed P k) {e : TypeId} (ht : P.underlying t = some (.map k e)) {b n : Nat} {f : α → Option Value}
    (hm : a.eval m = .map (some b)) (h : MapAt F w b n f) (u : α) (hx : a.eval x = F.kv u)
    (hK : ∀ w', MapAt F w' b n (updF f u none) → w.mapTurned w' b → wpList P ops Q rest (a.put o.dst (.tuple #[])) w') : wpList P ops Q (o :: rest) a w := by
  refine wpList_plain hg fun K' hK' => ?_
  obtain ⟨w', hrun, r1, r2⟩ := h.drop K ht u o.type
  unfold Oper.wp
  simp [execOp, hop, resolve, invoke, builtin, hm, hx, hrun, Result.andThen]
  exact hK' _ _ (hK w' r1 r2)
theorem at_size (hg : o.guard = none) (m : Operand) (t : TypeId) (hop : o.op = Op.call { callee := Callee.builtin Builtin.len, args := #[m], argTypes := #[t] }) {F : KeyF P k α} {e : TypeId} (ht : P.underlying t = some (.map k e)) {b n : Nat} {f : α → Option Value}
    (hm : a.eval m = .map (some b)) (h : MapAt F w b n f)
    (hK : ∀ ks : List α, ks.Nodup → (∀ x, x ∈ ks ↔ (f x).isSome = true) → wpList P ops Q rest (a.put o.dst (.int .i64 (ks.length : Int))) w) : wpList P ops Q (o :: rest) a w := by
  refine wpList_plain hg fun K' hK' => ?_
  obtain ⟨ks, h1, h2, hrun⟩ := h.len ht o.type
  unfold Oper.wp
  simp [execOp, hop, resolve, invoke, builtin, hm, hrun, Result.andThen]
  exact hK' _ _ (hK ks h1 h2)
theorem at_rangeM (hg : o.guard = none) (m : Operand) (t : TypeId) (hop : o.op = Op.range t m) {F : KeyF P k α} (K : Keyed P k) {e : TypeId} (ht : P.underlying t = some (.map k e)) {b n : Nat} {f : α → Option Value}
    (hm : a.eval m = .map (some b)) (h : MapAt F w b n f)
    (hK : ∀ w' cnt, RangeAt F w' b w.heap.size n f [] cnt → w.grownBy w' none → w'.heap.size = w.heap.size + 1 → wpList P ops Q rest (a.put o.dst (.pointer (some ⟨w.heap.size, 0, none⟩))) w') : wpList P ops Q (o :: rest) a w := by
  refine wpList_plain hg fun K' hK' => ?_
  obtain ⟨w', cnt, hrun, r1, r2, r3⟩ := h.range K ht
  unfold Oper.wp
  simp [execOp, hop, hm, hrun, Result.andThen]
  exact hK' _ _ (hK w' cnt r1 r2 r3)
/-- The step of a range: what comes is a key of one's own, and a value 'mk c' (invV: each value is one such). -/
theorem at_nextM {β : Type} (hg : o.guard = none) (it : Operand) (hop : o.op = Op.next it false) {F : KeyF P k α} (K : Keyed P k) (mk : β → Value) {b r n cnt : Nat} {f : α → Option Value} {seen : List α} (invV : ∀ u v, f u = some v → ∃ c, v = mk c)
    (hit : a.eval it = .pointer (some ⟨r, 0, none⟩)) (h : RangeAt F w b r n f seen cnt)
    (hDone : (∀ x, (f x).isSome = true → x ∈ seen) → wpList P ops Q rest (a.put o.dst (.tuple #[.bool false])) w)
    (hMore : ∀ (u : α) (c : β) (w' : World) (cnt' : Nat), f u = some (mk c) → u ∉ seen → RangeAt F w' b r n f (seen ++ [u]) cnt' → cnt' < cnt → w.grownBy w' (some r) → w'.heap.size = w.heap.size →
      (Instr.entry (.pointer (some ⟨r, 0, none⟩))).run P w' = .ok (.tuple #[F.kv u, mk c]) w' → wpList P ops Q rest (a.put o.dst (.tuple #[.bool true, F.kv u, mk c])) w') : wpList P ops Q (o :: rest) a w := by
  refine wpList_plain hg fun K' hK' => ?_
  unfold Oper.wp
  rcases h.next K o.type with ⟨hl, hrun⟩ | ⟨u, v, w', cnt', hu, hns, hrun, hr, hlt, hgr, hsz, hen⟩
  · simp [execOp, hop, hit, hrun, Result.andThen]
    exact hK' _ _ (hDone hl)
  · obtain ⟨c, rfl⟩ := invV u v hu
    simp [execOp, hop, hit, hrun, Result.andThen]
    exact hK' _ _ (hMore u c w' cnt' hu hns hr hlt hgr hsz hen)
end
end Go.Proofs.Ytijjbfdbhfjfmaa
