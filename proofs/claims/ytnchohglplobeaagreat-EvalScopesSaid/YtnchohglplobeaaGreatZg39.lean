/- Maps by keys of one's own, at an operation of a walk. Condition: the key's type is one that the library knows. Of what was there nothing has turned: a word for what a call leaves of memory, and the last step of a law's proof from it. No condition. Orders by numbers, rows that rise, each once: facts that stand on nothing. No condition. Plain entities: their names, rounds, and lists as they must be, by definition ('c': a value as it must be). No condition. Entities in memory by their names and their parents' slices; entity.parentsByName: the parents under each name, those of the first entity with it. No condition. The reference's Find: the first entity with a name. No condition. schema.stepsTo: how many steps lead to each name. Condition: not too many names. entity.stepsTo: how many steps lead to each name. Condition: no more than 100000 steps in all. The reference's Above: the table of ways between entities by number. Condition: no more than 1000 entities, rows no longer. The reference's order of numbers, of texts, of names. Condition: the length that any text has. entity.Round: whether some way goes round. Condition: no more than 100000 entities, and steps. The reference's Round: whether some way goes from an entity, the first with its name, to itself. Condition: no more than 1000 entities. -/
import Derived.Test.YtnchohglplobeaaGreatZg05
import Derived.Maps.OwnOps
import Derived.BigQuiet
set_option linter.unusedVariables false
set_option linter.unusedSimpArgs false
set_option linter.unnecessarySimpa false
namespace Go.Proofs.YtnchohglplobeaaGreat
open Go.RowKit Go.Maps
section
variable {P : Program} {k : TypeId} {α : Type} {ops : Array Oper} {rest : List Oper} {o : Oper} {a : Act} {w : World} {Q : Exit → Act → World → Prop}
theorem at_look (hg : o.guard = none) (m x : Operand) (t : TypeId) (hop : o.op = Op.lookup t m x false) {F : KeyF P k α} (K : Keyed P k) {e : TypeId} (ht : P.underlying t = some (.map k e)) {z : Value} (hz : (zeroValue e).run P w = .ok z w) {b n : Nat} {f : α → Option Value}
  (hm : a.eval m = .map (some b)) (h : MapAt F w b n f) (u : α) (hx : a.eval x = F.kv u) (v : Value) (hv : (f u).getD z = v) (hK : wpList P ops Q rest (a.put o.dst v) w) : wpList P ops Q (o :: rest) a w := by
 refine wpList_plain hg fun K' hK' => ?_
 have hrun := h.look K ht hz u
 rw [hv] at hrun
 unfold Oper.wp
 simp [execOp, hop, hm, hx, hrun, Result.andThen]
 exact hK' _ _ hK
theorem at_lookOk (hg : o.guard = none) (m x : Operand) (t : TypeId) (hop : o.op = Op.lookup t m x true) {F : KeyF P k α} (K : Keyed P k) {e : TypeId} (ht : P.underlying t = some (.map k e)) {z : Value} (hz : (zeroValue e).run P w = .ok z w) {b n : Nat} {f : α → Option Value}
  (hm : a.eval m = .map (some b)) (h : MapAt F w b n f) (u : α) (hx : a.eval x = F.kv u) (v : Value) (q : Bool) (hv : (f u).getD z = v) (hq : (f u).isSome = q) (hK : wpList P ops Q rest (a.put o.dst (.tuple #[v, .bool q])) w) : wpList P ops Q (o :: rest) a w := by
 refine wpList_plain hg fun K' hK' => ?_
 have hrun := h.lookOk K ht hz u
 rw [hv, hq] at hrun
 unfold Oper.wp
 simp [execOp, hop, hm, hx, hrun, Result.andThen]
 exact hK' _ _ hK
theorem at_store [DecidableEq α] (hg : o.guard = none) (m x v : Operand) (t : TypeId) (hop : o.op = Op.mapUpdate t m x v) {F : KeyF P k α} (K : Keyed P k) {e : TypeId} (ht : P.underlying t = some (.map k e)) {b n : Nat} {f : α → Option Value}
  (hm : a.eval m = .map (some b)) (h : MapAt F w b n f) (hn : n < maxLen) (u : α) (hx : a.eval x = F.kv u) (val : Value) (hv : a.eval v = val)
  (hK : ∀ w', MapAt F w' b (n + 1) (updF f u (some val)) → w.mapTurned w' b → wpList P ops Q rest (a.put o.dst undef) w') : wpList P ops Q (o :: rest) a w := by
 refine wpList_plain hg fun K' hK' => ?_
 obtain ⟨w', hrun, r1, r2⟩ := h.store K ht hn u val
 unfold Oper.wp
 simp [execOp, hop, hm, hx, hv, hrun, Result.andThen]
 exact hK' _ _ (hK w' r1 r2)
theorem at_drop [DecidableEq α] (hg : o.guard = none) (m x : Operand) (t : TypeId) (hop : o.op = Op.call { callee := Callee.builtin Builtin.delete, args := #[m, x], argTypes := #[t, k] }) {F : KeyF P k α} (K : Keyed P k) {e : TypeId} (ht : P.underlying t = some (.map k e)) {b n : Nat} {f : α → Option Value}
  (hm : a.eval m = .map (some b)) (h : MapAt F w b n f) (u : α) (hx : a.eval x = F.kv u)
  (hK : ∀ w', MapAt F w' b n (updF f u none) → w.mapTurned w' b → wpList P ops Q rest (a.put o.dst (.tuple #[])) w') : wpList P ops Q (o :: rest) a w := by
 refine wpList_plain hg fun K' hK' => ?_
 obtain ⟨w', hrun, r1, r2⟩ := h.drop K ht u o.type
 unfold Oper.wp
 simp [execOp, hop, resolve, invoke, builtin, hm, hx, hrun, Result.andThen]
 exact hK' _ _ (hK w' r1 r2)
theorem at_size (hg : o.guard = none) (m : Operand) (t : TypeId) (hop : o.op = Op.call { callee := Callee.builtin Builtin.len, args := #[m], argTypes := #[t] }) {F : KeyF P k α} {e : TypeId} (ht : P.underlying t = some (.map k e)) {b n : Nat} {f : α → Option Value}
  (hm : a.eval m = .map (some b)) (h : MapAt F w b n f)
  (hK : ∀ ks : List α, ks.Nodup → (∀ x, x ∈ ks ↔ (f x).isSome = true) → wpList P ops Q rest (a.put o.dst (.int .i64 (ks.length : Int))) w) : wpList P ops Q (o :: rest) a w := by
 refine wpList_plain hg fun K' hK' => ?_
 obtain ⟨ks, h1, h2, hrun⟩ := h.len ht o.type
 unfold Oper.wp
 simp [execOp, hop, resolve, invoke, builtin, hm, hrun, Result.andThen]
 exact hK' _ _ (hK ks h1 h2)
theorem at_rangeM (hg : o.guard = none) (m : Operand) (t : TypeId) (hop : o.op = Op.range t m) {F : KeyF P k α} (K : Keyed P k) {e : TypeId} (ht : P.underlying t = some (.map k e)) {b n : Nat} {f : α → Option Value}
  (hm : a.eval m = .map (some b)) (h : MapAt F w b n f)
  (hK : ∀ w' cnt, RangeAt F w' b w.heap.size n f [] cnt → w.grownBy w' none → w'.heap.size = w.heap.size + 1 → wpList P ops Q rest (a.put o.dst (.pointer (some ⟨w.heap.size, 0, none⟩))) w') : wpList P ops Q (o :: rest) a w := by
 refine wpList_plain hg fun K' hK' => ?_
 obtain ⟨w', cnt, hrun, r1, r2, r3⟩ := h.range K ht
 unfold Oper.wp
 simp [execOp, hop, hm, hrun, Result.andThen]
 exact hK' _ _ (hK w' cnt r1 r2 r3)
theorem at_nextM {β : Type} (hg : o.guard = none) (it : Operand) (hop : o.op = Op.next it false) {F : KeyF P k α} (K : Keyed P k) (mk : β → Value) {b r n cnt : Nat} {f : α → Option Value} {seen : List α} (invV : ∀ u v, f u = some v → ∃ c, v = mk c)
  (hit : a.eval it = .pointer (some ⟨r, 0, none⟩)) (h : RangeAt F w b r n f seen cnt)
  (hDone : (∀ x, (f x).isSome = true → x ∈ seen) → wpList P ops Q rest (a.put o.dst (.tuple #[.bool false])) w)
  (hMore : ∀ (u : α) (c : β) (w' : World) (cnt' : Nat), f u = some (mk c) → u ∉ seen → RangeAt F w' b r n f (seen ++ [u]) cnt' → cnt' < cnt → w.grownBy w' (some r) → w'.heap.size = w.heap.size →
   (Instr.entry (.pointer (some ⟨r, 0, none⟩))).run P w' = .ok (.tuple #[F.kv u, mk c]) w' → wpList P ops Q rest (a.put o.dst (.tuple #[.bool true, F.kv u, mk c])) w') : wpList P ops Q (o :: rest) a w := by
 refine wpList_plain hg fun K' hK' => ?_
 unfold Oper.wp
 rcases h.next K o.type with ⟨hl, hrun⟩ | ⟨u, v, w', cnt', hu, hns, hrun, hr, hlt, hgr, hsz, hen⟩
 ·simp [execOp, hop, hit, hrun, Result.andThen]
  exact hK' _ _ (hDone hl)
 ·obtain ⟨c, rfl⟩ := invV u v hu
  simp [execOp, hop, hit, hrun, Result.andThen]
  exact hK' _ _ (hMore u c w' cnt' hu hns hr hlt hgr hsz hen)
end
end Go.Proofs.YtnchohglplobeaaGreat
namespace Go.Proofs.YtnchohglplobeaaGreat
open Go.RowKit Go.ChangeShapes Go.WideShapes
theorem grown_block {W W' : World} (h : Grown W W') {k : Nat} (hk : k < W.heap.size) : W'.heap[k]? = W.heap[k]? := by
 have h3 := h.1.2.2 k hk
 cases e : W.heap[k]? with
 | none => rw [e] at h3; cases e' : W'.heap[k]? <;> simp_all
 | some o =>
  cases e' : W'.heap[k]? with
  | none => rw [e, e'] at h3; cases o <;> simp at h3
  | some o' =>
   rw [e, e'] at h3
   cases o <;> cases o' <;> simp at h3
   ·obtain ⟨a, b, c, d⟩ := h3
    subst a b
    rw [Array.ext_getElem? d]
   all_goals simp_all
theorem Low.of_grown {w w' : World} (h : Grown w w') : Low w w' := ⟨h.1.1, h.1.2.1, h.2.2, fun _ hk => grown_block h hk⟩
end Go.Proofs.YtnchohglplobeaaGreat
namespace Go.Proofs.YtnchohglplobeaaGreat
section
variable {α : Type} {c : α → α → Int} {S : α → Prop}
theorem Good.lt_le (g : Good c S) {a b d : α} (ha : S a) (hb : S b) (hd : S d) (h : c a b < 0) (k : c b d ≤ 0) : c a d < 0 := by
 rcases Int.lt_or_eq_of_le k with k1 | k1
 ·exact g.lt a b d ha hb hd h k1
 ·rw [← g.eq' hb hd ha k1]; exact h
end
end Go.Proofs.YtnchohglplobeaaGreat
namespace Go.Proofs.YtnchohglplobeaaGreat
theorem good_us : Good cmpUs fun _ => True := (good_text.pull Us.t).or (good_text.pull Us.i)
theorem us_zero {a b : Us} (h : cmpUs a b = 0) : a = b := by
 have := orI_zero.1 h
 exact Us.ext' (cmpT_zero this.1) (cmpT_zero this.2)
def canU (l : List Us) : List Us := uniq cmpUs l
theorem canU_rises (l : List Us) : Rises cmpUs (canU l) := uniq_rises good_us (fun _ _ _ _ h => us_zero h) (fun _ _ => trivial)
theorem mem_canU {l : List Us} {z : Us} : z ∈ canU l ↔ z ∈ l := mem_uniq good_us (fun _ _ _ _ h => us_zero h) (fun _ _ => trivial)
theorem fst_of {l : List En} (hn : (namesE l).Nodup) {e : En} (he : e ∈ l) : fstE l e.u = some e := by
 unfold fstE
 induction l with
 | nil => simp at he
 | cons x r ih =>
  have hn' : x.u ∉ namesE r ∧ (namesE r).Nodup := List.nodup_cons.1 hn
  rw [List.find?_cons]
  by_cases hx : x.u = e.u
  ·rw [decide_eq_true hx]
   rcases List.mem_cons.1 he with rfl | he
   ·rfl
   ·exact absurd (List.mem_map.2 ⟨e, he, rfl⟩) (hx ▸ hn'.1)
  ·rw [decide_eq_false hx]
   rcases List.mem_cons.1 he with rfl | he
   ·exact absurd rfl hx
   ·exact ih hn'.2 he
theorem PE_of {l : List En} (hn : (namesE l).Nodup) {e : En} (he : e ∈ l) : PE l e.u = e.ps := by unfold PE; rw [fst_of hn he]; rfl
section
variable (c : V → Int × V)
def errE (names : List Us) (e : En) : Int := if e.a.h.k ≠ 6 then 1 else if (c e.a).1 ≠ 0 then (c e.a).1 else if e.ps.all (fun p => decide (p ∈ names)) = true then 0 else 20
def oneE (e : En) : En := ⟨e.u, canU e.ps, (c e.a).2⟩
def errL (names : List Us) : List En → Int
 | [] => 0
 | e :: r => if errE c names e = 0 then errL names r else errE c names e
theorem good_en : Good cmpE fun _ => True := good_us.pull En.u
noncomputable def canE (l : List En) : Int × List En :=
 if 4096 < l.length then (12, [])
 else if (namesE l).Nodup then
  (if errL c (namesE l) l = 0 then (open Classical in if RoundE l then (21, []) else (0, uniq cmpE (l.map (oneE c)))) else (errL c (namesE l) l, []))
 else (13, [])
theorem errL_zero {names : List Us} : ∀ {l : List En}, errL c names l = 0 ↔ ∀ e ∈ l, errE c names e = 0
 | [] => by simp [errL]
 | e :: r => by
  rw [errL]
  by_cases h : errE c names e = 0
  ·rw [if_pos h, errL_zero]; simp [h]
  ·rw [if_neg h]; simp [h]
theorem errL_at {names : List Us} : ∀ {l : List En} {i : Nat} (hi : i < l.length), (∀ e ∈ l.take i, errE c names e = 0) → errE c names l[i] ≠ 0 → errL c names l = errE c names l[i]
 | e :: r, 0, _, _, h => by
  have h' : errE c names e ≠ 0 := h
  rw [errL, if_neg h']; rfl
 | e :: r, i + 1, hi, h0, h => by
  have h1 : errE c names e = 0 := h0 e (by rw [List.take_succ_cons]; simp)
  rw [errL, if_pos h1]
  exact errL_at (by simpa using hi) (fun x hx => h0 x (by rw [List.take_succ_cons]; simp [hx])) (by simpa using h)
end
end Go.Proofs.YtnchohglplobeaaGreat
namespace Go.Proofs.YtnchohglplobeaaGreat
open Go.RowKit Go.Maps Go.Sort
def fS (l : List Sh) (x : Us) : Option Value := (l.find? fun s => decide (s.u = x)).map Sh.p
theorem fS_more {l : List Sh} {s : Sh} (x : Us) : fS (l ++ [s]) x = if (fS l x).isSome = true then fS l x else if s.u = x then some s.p else none := by
 unfold fS
 rw [List.find?_append]
 cases h : l.find? fun s => decide (s.u = x) with
 | some v => simp
 | none =>
  by_cases e : s.u = x
  ·simp [e]
  ·simp [e]
theorem fS_there {l : List Sh} {s : Sh} (h : (fS l s.u).isSome = true) : fS (l ++ [s]) = fS l := by
 funext x
 rw [fS_more]
 by_cases e : (fS l x).isSome = true
 ·rw [if_pos e]
 ·rw [if_neg e, if_neg (fun hx : s.u = x => e (hx ▸ h))]
  cases hf : fS l x with
  | none => rfl
  | some v => rw [hf] at e; simp at e
theorem fS_new {l : List Sh} {s : Sh} (h : (fS l s.u).isSome = false) : fS (l ++ [s]) = updF (fS l) s.u (some s.p) := by
 funext x
 rw [fS_more]
 unfold updF
 by_cases e : x = s.u
 ·rw [if_pos e, e, h]; simp
 ·rw [if_neg e, if_neg (Ne.symm e)]
  by_cases e2 : (fS l x).isSome = true
  ·rw [if_pos e2]
  ·rw [if_neg e2]
   cases hf : fS l x with
   | none => rfl
   | some v => rw [hf] at e2; simp at e2
theorem zeroUs (w : World) : (zeroValue 48).run Tryz.prog w = .ok (.slice none 0 0) w := by kernel_rfl
def ParP (l : List Sh) (w : World) (e : Ending) (w' : World) : Prop := ∃ b, e = .returned (.map (some b)) ∧ w.heap.size ≤ b ∧ MapAt keyUs w' b l.length (fS l) ∧ Low w w'
set_option maxHeartbeats 1600000 in
theorem par_c (l : List Sh) (w : World) (r : Value) (hr : EsAt w r l) : Calls Tryz.prog 40 #[r] w (ParP l w) := by
 obtain ⟨ao, c, rfl, ⟨hlc, hc9⟩, hx⟩ := hr
 have hmm := @run_makeMap Tryz.prog
 have HX := Lib.hid hx
 clear hx
 go_enter Tryz.func40, Tryz.ntmps40
 go_wp2_with fail
 clear hmm
 go_loopg [11] l.length (fun gk vi wr => ∃ i : Nat, vi = .int .i64 (i : Int) ∧ i ≤ l.length ∧ l.length - i ≤ gk ∧ Hid (Low w wr) ∧ Hid (MapAt keyUs wr w.heap.size i (fS (l.take i))))
 case atStart => exact ⟨0, rfl, Nat.zero_le _, Nat.le_refl _, Lib.hid (by exact (Low.of_below ((Below.refl _ _).alloc (Nat.le_refl _) _))), Lib.hid ((MapAt.made keyUs w).congr fun _ => rfl)⟩
 case round =>
  obtain ⟨i, rfl, hi, hg, L, M⟩ := hrel
  by_cases hlt : i < l.length
  ·have zl : (i : Int) < (l.length : Int) := by omega
   obtain ⟨b, o, rfl, hcs⟩ := HX.out i hlt
   obtain ⟨e0, e1, e2, e3, e4, e5, e6, e7, e8, e9, e10⟩ := cells11 (L.out.cells hcs)
   clear hcs
   obtain ⟨s, hs⟩ : ∃ s, s = l[i] := ⟨_, rfl⟩
   have HT := Lib.hid (show l.take (i + 1) = l.take i ++ [s] by rw [hs, List.take_succ_eq_append_getElem hlt])
   rw [← hs] at e0 e1 e2 e3 e4 e5 e6 e7 e8 e9 e10
   clear hs
   have M2 := Lib.hid (show MapAt keyUs (wr.alloc (.cells s.cs.toArray 72)) w.heap.size i (fS (l.take i)) from M.out.block ((Gr.alloc (Gr.refl wr) _).low.2.2.2 _ M.out.lt))
   have L2 := Lib.hid (show Low w (wr.alloc (.cells s.cs.toArray 72)) from L.out.trans (Gr.alloc (Gr.refl wr) _).low)
   cases hq : (fS (l.take i) s.u).isSome with
   | true =>
    have HQ := Lib.hid hq
    clear hq
    go_wp2_with (at_lookup; refine at_lookOk rfl _ _ _ rfl keyedUs Tryz.underlying87 (zeroUs _) rfl M2.out s.u rfl _ true rfl HQ.out ?_)
    go_roundg (l.length - (i + 1))
    case measure => omega
    case rel => exact ⟨i + 1, by go_num, by omega, by omega, L2, Lib.hid (by rw [HT.out, fS_there HQ.out]; exact M2.out.mono (Nat.le_succ _))⟩
   | false =>
    have HQ := Lib.hid hq
    clear hq
    go_wp2_with (first
     | (at_lookup; refine at_lookOk rfl _ _ _ rfl keyedUs Tryz.underlying87 (zeroUs _) rfl M2.out s.u rfl _ false rfl HQ.out ?_)
     | (at_mapUpdate; refine at_store rfl _ _ _ _ rfl keyedUs Tryz.underlying87 rfl M2.out (by unfold maxLen; omega) s.u rfl s.p rfl ?_; intro w1 M3 T3))
    have M4 := Lib.hid M3
    have L4 := Lib.hid (L2.out.turned T3 (Nat.le_refl _))
    clear M3 T3
    go_wp2_with fail
    go_roundg (l.length - (i + 1))
    case measure => omega
    case rel => exact ⟨i + 1, by go_num, by omega, by omega, L4, Lib.hid (by rw [HT.out, fS_new HQ.out]; exact M4.out)⟩
  ·have zl : ¬ (i : Int) < (l.length : Int) := by omega
   go_wp2_with fail
   go_ret
   obtain rfl : i = l.length := by omega
   exact ⟨_, rfl, Nat.le_refl _, by have := M.out; rwa [List.take_length] at this, L.out⟩
end Go.Proofs.YtnchohglplobeaaGreat
namespace Go.Proofs.YtnchohglplobeaaGreat
open Go.RowKit Go.Maps Go.Sort
def idxS (l : List Sh) (u : Us) : Nat := l.findIdx fun s => decide (s.u = u)
def findI (l : List Sh) (u : Us) : Int := if idxS l u < l.length then (idxS l u : Int) else -1
theorem idx_here {l : List Sh} {u : Us} {i : Nat} (hi : i < l.length) (hn : ∀ j (hj : j < l.length), j < i → l[j].u ≠ u) (h : l[i].u = u) : findI l u = (i : Int) := by
 have e : idxS l u = i := by
  unfold idxS
  rw [List.findIdx_eq hi]
  exact ⟨by simpa using h, fun j hj => by simpa using hn j (by omega) hj⟩
 unfold findI
 rw [e, if_pos hi]
theorem idx_none {l : List Sh} {u : Us} (hn : ∀ j (hj : j < l.length), l[j].u ≠ u) : findI l u = -1 := by
 have e : idxS l u = l.length := by
  unfold idxS
  rw [List.findIdx_eq_length]
  intro s hs
  obtain ⟨j, hj, rfl⟩ := List.getElem_of_mem hs
  simpa using hn j hj
 unfold findI
 rw [e, if_neg (Nat.lt_irrefl _)]
set_option maxRecDepth 100000 in
set_option maxHeartbeats 1600000 in
theorem find_c (l : List Sh) (u : Us) (w : World) (r : Value) (hr : EsAt w r l) : Calls Tryz.prog 27 #[r, usV u] w fun e w' => e = .returned (.int .i64 (findI l u)) ∧ Low w w' := by
 obtain ⟨ao, c, rfl, ⟨hlc, hc9⟩, hx⟩ := hr
 have HX := Lib.hid hx
 clear hx
 unfold usV
 go_enter Tryz.func27, Tryz.ntmps27
 go_wp2_with fail
 go_loopg [5] l.length (fun gk vi wr => ∃ i : Nat, vi = .int .i64 (i : Int) ∧ i ≤ l.length ∧ l.length - i ≤ gk ∧ Hid (Low (w.alloc (.cells #[.string u.t, .string u.i] 23)) wr) ∧ Hid (∀ j (hj : j < l.length), j < i → l[j].u ≠ u))
 case atStart => exact ⟨0, rfl, Nat.zero_le _, Nat.le_refl _, Lib.hid (Low.refl _), Lib.hid fun j hj h => absurd h (Nat.not_lt_zero _)⟩
 case round =>
  obtain ⟨i, rfl, hi, hg, L, K⟩ := hrel
  have hLw := Lib.hid ((Gr.alloc (Gr.refl w) _).low.trans L.out)
  have f0 : wr.cell? ⟨w.heap.size, 0, none⟩ = some (.string u.t) := L.out.keep (by rw [World.cell?_alloc_mark]; rfl)
  have f1 : wr.cell? ⟨w.heap.size, 1, none⟩ = some (.string u.i) := L.out.keep (by rw [World.cell?_alloc_mark]; rfl)
  by_cases hlt : i < l.length
  ·have zl : (i : Int) < (l.length : Int) := by omega
   obtain ⟨b, o, rfl, hcs⟩ := HX.out i hlt
   obtain ⟨e0, e1, -⟩ := cells11 (hLw.out.cells hcs)
   clear hcs
   obtain ⟨s, hs⟩ : ∃ s, Hid (s = l[i].u) := ⟨_, Lib.hid rfl⟩
   rw [← hs.out] at e0 e1
   by_cases hu : s = u
   ·have hu1 : s.t = u.t := by rw [hu]
    have hu2 : s.i = u.i := by rw [hu]
    rw [hu1] at e0
    rw [hu2] at e1
    have HU := Lib.hid hu
    clear hu hu1 hu2
    go_wp2_with fail
    go_region
    all_goals
     go_wp2_with fail
     go_ret
     exact ⟨by rw [idx_here hlt (fun j hj h => K.out j hj h) (by rw [← hs.out]; exact HU.out)]; rfl, hLw.out.trans (Gr.drew (Gr.refl wr)).low⟩
   ·have HU := Lib.hid hu
    have hne : ¬ (s.t = u.t ∧ s.i = u.i) := fun h => hu (Us.ext' h.1 h.2)
    clear hu
    by_cases ht : s.t = u.t
    ·have hi2 : ¬ s.i = u.i := fun h => hne ⟨ht, h⟩
     rw [ht] at e0
     have hi3 : ¬ s.i.toList = u.i.toList := fun h => hi2 (tl_injE h)
     clear hne ht
     go_wp2_with fail
     go_region
     all_goals
      go_wp2_with fail
      go_roundg (l.length - (i + 1))
      case measure => omega
      case rel =>
       refine ⟨i + 1, by go_num, by omega, by omega, Lib.hid (L.out.trans (Gr.drew (Gr.refl wr)).low), Lib.hid fun j hj hji => ?_⟩
       rcases Nat.lt_succ_iff_lt_or_eq.1 hji with h | rfl
       ·exact K.out j hj h
       ·rw [← hs.out]; exact HU.out
    ·have ht3 : ¬ s.t.toList = u.t.toList := fun h => ht (tl_injE h)
     clear hne
     go_wp2_with fail
     go_region
     all_goals
      go_wp2_with fail
      go_roundg (l.length - (i + 1))
      case measure => omega
      case rel =>
       refine ⟨i + 1, by go_num, by omega, by omega, Lib.hid (L.out.trans (Gr.drew (Gr.refl wr)).low), Lib.hid fun j hj hji => ?_⟩
       rcases Nat.lt_succ_iff_lt_or_eq.1 hji with h | rfl
       ·exact K.out j hj h
       ·rw [← hs.out]; exact HU.out
  ·have zl : ¬ (i : Int) < (l.length : Int) := by omega
   go_wp2_with fail
   go_ret
   exact ⟨by rw [idx_none fun j hj => K.out j hj (by omega)]; rfl, hLw.out⟩
end Go.Proofs.YtnchohglplobeaaGreat
namespace Go.Proofs.YtnchohglplobeaaGreat
open Go.RowKit Go.Maps
def But (w w' : World) (m : Nat) : Prop := ∀ k, k < w.heap.size → k ≠ m → w'.heap[k]? = w.heap[k]?
theorem But.of_grown {w b : World} {m : Nat} (ht : w.grownBy b (some m)) : But w b m := fun k hk hne => ht.block k hk (by simpa using hne)
theorem Low.of_range {w a b : World} {m : Nat} (h : Low w a) (ht : a.grownBy b (some m)) (hm : w.heap.size ≤ m) : Low w b :=
 ⟨ht.os.trans h.1, ht.output.trans h.2.1, Nat.le_trans h.2.2.1 ht.size, fun k hk => (ht.block k (Nat.lt_of_lt_of_le hk h.2.2.1) (by simp; omega)).trans (h.2.2.2 k hk)⟩
end Go.Proofs.YtnchohglplobeaaGreat
namespace Go.Proofs.YtnchohglplobeaaGreat
open Go.RowKit Go.Maps Go.Sort
def cntV (l : List Us) (x : Us) : Option Value := if l.count x = 0 then none else some (.int .i64 (l.count x : Int))
theorem cntV_get (l : List Us) (x : Us) : (cntV l x).getD (.int .i64 0) = .int .i64 (l.count x : Int) := by
 unfold cntV
 split
 ·rename_i h; rw [h]; rfl
 ·rfl
theorem cntV_more (l : List Us) (u : Us) : cntV (l ++ [u]) = updF (cntV l) u (some (.int .i64 ((l.count u : Int) + 1))) := by
 funext x
 unfold updF cntV
 rw [List.count_append, List.count_singleton]
 by_cases e : x = u
 ·rw [if_pos e, e]; simp
 ·have : (u == x) = false := by simpa using fun h => e h.symm
  rw [if_neg e, this]; simp
theorem zeroIv (w : World) : (zeroValue 3).run Tryz.prog w = .ok (.int .i64 0) w := by kernel_rfl
def StepPv (f : Us → Option Value) (g : Us → List Us) (w : World) (e : Ending) (w' : World) : Prop := ∃ (b n : Nat) (ks : List Us), e = .returned (.map (some b)) ∧ w.heap.size ≤ b ∧ ks.Nodup ∧ (∀ a, a ∈ ks ↔ (f a).isSome = true) ∧ n ≤ 100000 ∧ MapAt keyUs w' b n (cntV (ks.flatMap g)) ∧ Low w w'
theorem Butv.of_grown {w b : World} {m : Nat} (ht : w.grownBy b (some m)) : Butv w b m := fun k hk hne => ht.block k hk (by simpa using hne)
set_option maxHeartbeats 1600000 in
theorem step_cv (f : Us → Option Value) (g : Us → List Us) (w : World) (b n : Nat) (hM : MapAt keyUs w b n f) (hR : RowsAt w f g) : Calls Tryz.prog 83 #[.map (some b)] w (StepPv f g w) := by
 have hmm := @run_makeMap Tryz.prog
 have HM := Lib.hid hM
 have HR := Lib.hid hR
 clear hM hR
 go_enter Tryz.func83, Tryz.ntmps83
 go_wp2_with (first
  | (at_range; refine at_rangeM rfl _ _ rfl keyedUs Tryz.underlying87 rfl (HM.out.block ((Gr.alloc (Gr.refl w) _).low.2.2.2 _ HM.out.lt)) ?_; intro w1 cnt0 R1 G1 S1))
 have hsz : (w.alloc (Obj.map #[] 0)).heap.size = w.heap.size + 1 := by simp
 rw [hsz] at R1
 have HR1 := Lib.hid R1
 have M1 : MapAt keyUs w1 w.heap.size 0 (cntV []) := ((MapAt.made keyUs w).block (G1.block _ (by simp) (by simp))).congr fun _ => rfl
 have HM1 := Lib.hid M1
 have HL1 := Lib.hid (show Low w w1 from by
  have := (Gr.alloc (Gr.refl w) (.map #[] 0)).low
  exact ⟨G1.os.trans this.1, G1.output.trans this.2.1, Nat.le_trans this.2.2.1 G1.size, fun k hk => (G1.block k (Nat.lt_of_lt_of_le hk this.2.2.1) (by simp)).trans (this.2.2.2 k hk)⟩)
 have hbw := HM.out.lt
 clear R1 M1 G1 S1
 go_frame
 rw [hsz]
 clear hsz
 go_loopg [11] cnt0 (fun gk _ wr => ∃ (seen : List Us) (cnt m : Nat), cnt ≤ gk ∧ Hid (RangeAt keyUs wr b (w.heap.size + 1) n f seen cnt) ∧ Hid (Low w wr) ∧ m ≤ (seen.flatMap g).length ∧ Hid (MapAt keyUs wr w.heap.size m (cntV (seen.flatMap g))))
 case atStart => exact ⟨[], cnt0, 0, Nat.le_refl _, HR1, HL1, Nat.le_refl _, HM1⟩
 case round =>
  clear HR1 HL1 HM1
  obtain ⟨seen, cnt, m, hck, RR, LL, hm, MM⟩ := hrel
  go_wp2_with (at_next; go_loud (refine at_nextM rfl _ rfl keyedUs (fun c : Option Addr × Nat × Nat => .slice c.1 c.2.1 c.2.2) (fun u v hv => by obtain ⟨ao, c, rfl, _⟩ := HR.out.row u v hv; exact ⟨(ao, _, c), rfl⟩) rfl RR.out ?_ ?_))
  ·intro hall
   go_wp2_with fail
   go_ret
   obtain ⟨_, _, _, _, h1, h2, _⟩ := RR.out
   exact ⟨_, m, seen, rfl, Nat.le_refl _, h1, fun a => ⟨h2 a, hall a⟩, Nat.le_trans hm (HR.out.few seen h1 h2), MM.out, LL.out⟩
  ·intro u ao ln cp w2 cnt2 hfu hns R2 hlt2 G2 S2 hen
   have hW := HR.out.row u _ hfu
   obtain ⟨ao', cp', hv, ⟨hl1, hl2⟩, hx⟩ := hW
   injection hv with hv1 hv2 hv3
   subst hv1 hv2 hv3
   have HX := Lib.hid hx
   have HN := Lib.hid hns
   have HF := Lib.hid hfu
   have HR2 := Lib.hid R2
   have HL2 := Lib.hid (LL.out.of_range G2 (by simp))
   have HM2 := Lib.hid (MM.out.block (Butv.of_grown G2 _ MM.out.lt (by simp)))
   clear hx hns hfu R2 G2 S2
   go_wp2_with fail
   go_loopg [17] (g u).length (fun gj vj wr => ∃ (j m' : Nat), vj = .int .i64 (j : Int) ∧ j ≤ (g u).length ∧ (g u).length - j ≤ gj ∧ Hid (RangeAt keyUs wr b (w.heap.size + 1) n f (seen ++ [u]) cnt2) ∧ Hid (Low w wr) ∧ m' ≤ (seen.flatMap g).length + j ∧ Hid (MapAt keyUs wr w.heap.size m' (cntV (seen.flatMap g ++ (g u).take j))))
   case atStart => exact ⟨0, m, rfl, Nat.zero_le _, Nat.le_refl _, HR2, HL2, by omega, Lib.hid (by rw [List.take_zero, List.append_nil]; exact HM2.out)⟩
   case round =>
    clear HR2 HL2 HM2
    obtain ⟨j, m', rfl, hj, hgj, RJ, LJ, hm', MJ0⟩ := hrel
    obtain ⟨L, hL⟩ : ∃ L, Hid (L = seen.flatMap g ++ (g u).take j) := ⟨_, Lib.hid rfl⟩
    have MJ := Lib.hid (show MapAt keyUs wr w.heap.size m' (cntV L) by rw [hL.out]; exact MJ0.out)
    clear MJ0
    by_cases hlt : j < (g u).length
    ·have zl : (j : Int) < ((g u).length : Int) := by omega
     obtain ⟨pb, po, rfl, hcs⟩ := HX.out j hlt
     obtain ⟨e0, e1⟩ := cells2 (LJ.out.cells hcs)
     clear hcs
     obtain ⟨p, hp⟩ : ∃ p, p = (g u)[j] := ⟨_, rfl⟩
     have HT := Lib.hid (show (g u).take (j + 1) = (g u).take j ++ [p] by rw [hp, List.take_succ_eq_append_getElem hlt])
     rw [← hp] at e0 e1
     clear hp
     have LW : Low wr (wr.alloc (.cells #[.string p.t, .string p.i] 23)).drew := (Gr.drew (Gr.alloc (Gr.refl wr) _)).low
     have M0 : MapAt keyUs (wr.alloc (.cells #[.string p.t, .string p.i] 23)).drew w.heap.size m' (cntV L) := MJ.out.block (LW.2.2.2 _ MJ.out.lt)
     have hnd : (seen ++ [u]).Nodup ∧ ∀ a ∈ seen ++ [u], (f a).isSome = true := by
      obtain ⟨_, _, _, _, h1, h2, _⟩ := RJ.out
      exact ⟨h1, h2⟩
     have hfew := HR.out.few (seen ++ [u]) hnd.1 hnd.2
     rw [List.flatMap_append, List.length_append] at hfew
     simp only [List.flatMap_cons, List.flatMap_nil, List.append_nil] at hfew
     have hLl : L.length ≤ 100000 := by rw [hL.out, List.length_append, List.length_take]; omega
     clear hnd
     obtain ⟨v0, st, w3, hent, hlk3, ht3, hst⟩ := M0.entry lawUs Tryz.underlying123 zeroIv (by unfold maxLen; omega) p
     have hlk0 := M0.look keyedUs Tryz.underlying123 (zeroIv _) p
     rw [cntV_get] at hlk0 hlk3
     obtain ⟨q, hq⟩ : ∃ q, q = L.count p := ⟨_, rfl⟩
     rw [← hq] at hlk0 hlk3
     have HQ := Lib.hid hq
     have hql : q ≤ 100000 := by rw [hq]; exact Nat.le_trans List.count_le_length hLl
     clear hq
     obtain ⟨w4, hst4, M4, ht4⟩ := hst (.int .i64 ((q : Int) + 1))
     have hqw : IntKind.wrap .i64 ((q : Int) + 1) = (q : Int) + 1 := by rw [IntKind.wrap_i64]; omega
     have HM4 := Lib.hid M4
     have HT4 := Lib.hid ht4
     clear M4 ht4 hst M0 ht3
     simp only [keyUs, usV] at hent hlk3 hlk0
     simp only [goInt] at hst4 hent
     go_wp2_with fail
     go_region
     all_goals
      go_wp2_with fail
      go_roundg ((g u).length - (j + 1))
      case measure => omega
      case rel =>
       have hb3 := Butv.of (Gr.refl (wr.alloc (.cells #[.string p.t, .string p.i] 23)).drew).low HT4.out
       refine ⟨j + 1, m' + 1, by go_num, by omega, by omega, Lib.hid (RJ.out.block ?_ ?_), Lib.hid ((LJ.out.trans LW).turned HT4.out (Nat.le_refl _)), by omega, Lib.hid ?_⟩
       ·rw [hb3 _ (Nat.lt_of_lt_of_le RJ.out.lt.2.1 LW.2.2.1) (by omega), LW.2.2.2 _ RJ.out.lt.2.1]
       ·rw [hb3 _ (Nat.lt_of_lt_of_le RJ.out.lt.1 LW.2.2.1) (by omega), LW.2.2.2 _ RJ.out.lt.1]
       ·have hLL : seen.flatMap g ++ (g u).take (j + 1) = L ++ [p] := by rw [HT.out, hL.out, List.append_assoc]
        rw [hLL, cntV_more, ← HQ.out]
        exact HM4.out
    ·have zl : ¬ (j : Int) < ((g u).length : Int) := by omega
     go_wp2_with fail
     go_roundg cnt2
     case measure => omega
     case rel =>
      have hjl : j = (g u).length := by omega
      refine ⟨seen ++ [u], cnt2, m', Nat.le_refl _, RJ, LJ, ?_, Lib.hid ?_⟩
      ·rw [List.flatMap_append, List.length_append]; simp only [List.flatMap_cons, List.flatMap_nil, List.append_nil]; omega
      ·have hLL : (seen ++ [u]).flatMap g = L := by rw [hL.out, hjl, List.take_length]; simp [List.flatMap_append]
       rw [hLL]; exact MJ.out
end Go.Proofs.YtnchohglplobeaaGreat
namespace Go.Proofs.YtnchohglplobeaaGreat
open Go.RowKit Go.Maps Go.Sort
theorem b_info : (Tryz.prog.info? 4).map (fun i => (i.zero, i.size, i.bytes)) = some (some (.bool false), 1, 1) := by kernel_rfl
def stepS (l : List Sh) (R : Nat → List Us) (i j : Nat) : Prop := i < l.length ∧ ∃ p ∈ R i, findI l p = (j : Int)
def AboveP (l : List Sh) (R : Nat → List Us) (w : World) (e : Ending) (w' : World) : Prop := ∃ (b : Nat) (T : Nat → Nat → Bool), e = .returned (.slice (some ⟨b, 0, none⟩) (l.length * l.length) (l.length * l.length)) ∧ w.heap.size ≤ b ∧ TabAt w' b l.length T ∧ (∀ a c, T a c = true ↔ Way (stepS l R) a c) ∧ Low w w'
set_option maxRecDepth 100000 in
set_option maxHeartbeats 3200000 in
theorem above_cv (l : List Sh) (R : Nat → List Us) (hl : l.length ≤ 1000) (w : World) (r : Value) (hr : EsAt w r l) (hR : ∀ i (hi : i < l.length), UsAt w l[i].p (R i)) :
  Calls Tryz.prog 49 #[r] w (AboveP l R w) := by
 obtain ⟨ao, c, rfl, ⟨hlc, hc9⟩, hx⟩ := id hr
 have HX := Lib.hid hx
 have HE := Lib.hid hr
 have HR := Lib.hid hR
 clear hx hr hR
 obtain ⟨i0, hi, hz0, hz1, hz2⟩ := info_parts b_info
 obtain ⟨N, hN⟩ : ∃ N, Hid (N = l.length * l.length) := ⟨_, Lib.hid rfl⟩
 have hNb : N ≤ 1000000 := by rw [hN.out]; exact Nat.mul_le_mul hl hl
 have hNw : IntKind.wrap .i64 ((l.length : Int) * (l.length : Int)) = (N : Int) := by
  have : (l.length : Int) * (l.length : Int) = (N : Int) := by rw [hN.out]; simp
  rw [this, IntKind.wrap_i64]; omega
 go_enter Tryz.func49, Tryz.ntmps49
 go_wp2_with (at_make; go_loud (refine wpList_make_full _ rfl _ _ _ rfl w.heap.size 4 i0 (.bool false) 1 Tryz.underlying95 hi hz0 hz1 .i64 .i64 _ _ N rfl rfl rfl rfl (by rw [hz2]; omega) (by unfold maxLen; omega) (Nat.le_refl _) ?_); intro w1 O1 G1)
 have HT1 := Lib.hid (show TabAt w1 w.heap.size l.length fun _ _ => false from TabAt.made (base := w.heap.size) (m := N) (by
  rw [← hN.out]
  have e : (madeCells (Value.bool false).cells (N * 1)).toList = List.replicate N (Value.bool false) := by
   apply List.ext_getElem?
   intro j
   by_cases hj : j < N
   ·simp [madeCells, Value.cells, hj, Nat.mod_one]
   ·simp [madeCells, hj]
  rw [e] at O1
  exact O1))
 have HL1 := Lib.hid (show Low w w1 from ⟨G1.os, G1.output, G1.size, fun k hk => G1.block k hk (by simp)⟩)
 clear O1 G1 hz0 hz1 hz2 hi hNw
 go_loopg [5] l.length (fun gk vi wr => ∃ (i : Nat) (T : Nat → Nat → Bool), vi = .int .i64 (i : Int) ∧ i ≤ l.length ∧ l.length - i ≤ gk ∧ Hid (Low w wr) ∧ Hid (TabAt wr w.heap.size l.length T) ∧ Hid (∀ a c, T a c = true ↔ a < i ∧ stepS l R a c))
 case atStart => exact ⟨0, _, rfl, Nat.zero_le _, Nat.le_refl _, HL1, HT1, Lib.hid fun a c => by simp⟩
 case round =>
  clear HL1 HT1
  obtain ⟨i, T, rfl, hi, hg, L, TT, K⟩ := hrel
  by_cases hlt : i < l.length
  ·have zl : (i : Int) < (l.length : Int) := by omega
   obtain ⟨b, o, rfl, hcs⟩ := HX.out i hlt
   have HC := Lib.hid hcs
   obtain ⟨-, -, e2, -⟩ := cells11 (L.out.cells hcs)
   clear hcs
   obtain ⟨ap, cp, hp, ⟨hp1, hp2⟩, hp3⟩ := HR.out i hlt
   have hp' : Value.slice l[i].ap l[i].np l[i].cp = .slice ap (R i).length cp := hp
   rw [hp'] at e2
   have HP3 := Lib.hid hp3
   have HP := Lib.hid hp'
   clear hp hp' hp3
   clear e2
   rename World => wo
   go_wp2_with fail
   go_loopg [6] (R i).length (fun gk vk wr => ∃ (k : Nat) (T' : Nat → Nat → Bool), vk = .int .i64 (k : Int) ∧ k ≤ (R i).length ∧ (R i).length - k ≤ gk ∧ Hid (Low w wr) ∧ Hid (TabAt wr w.heap.size l.length T') ∧ Hid (∀ a c, T' a c = true ↔ (a < i ∧ stepS l R a c) ∨ (a = i ∧ ∃ p ∈ (R i).take k, findI l p = (c : Int))))
   case atStart => exact ⟨0, T, rfl, Nat.zero_le _, Nat.le_refl _, L, TT, Lib.hid fun a c => by rw [K.out]; simp⟩
   case round =>
    clear L TT K
    obtain ⟨k, T', rfl, hk, hgk, L, TT, K⟩ := hrel
    obtain ⟨-, -, e2, -⟩ := cells11 (L.out.cells HC.out)
    rw [HP.out] at e2
    by_cases hkt : k < (R i).length
    ·have zk : (k : Int) < ((R i).length : Int) := by omega
     obtain ⟨pb, po, rfl, hcs⟩ := HP3.out k hkt
     obtain ⟨d0, d1⟩ := cells2 (L.out.cells hcs)
     clear hcs
     obtain ⟨p, hp⟩ : ∃ p, Hid (p = (R i)[k]) := ⟨_, Lib.hid rfl⟩
     rw [← hp.out] at d0 d1
     have hf := find_c l p wr _ (HE.out.low L.out)
     unfold usV at hf
     have HF := Lib.hid hf
     clear hf
     go_wp2_with fail
     refine HF.out.mono ?_
     rintro e w2 ⟨rfl, L2⟩
     have HL2 := Lib.hid (L.out.trans L2)
     have HT2 := Lib.hid (TT.out.low L2)
     clear L2
     have HTK := Lib.hid (show (R i).take (k + 1) = (R i).take k ++ [p] by rw [hp.out, List.take_succ_eq_append_getElem hkt])
     by_cases hm : idxS l p < l.length
     ·obtain ⟨m, hm2⟩ : ∃ m, Hid (m = idxS l p) := ⟨_, Lib.hid rfl⟩
      have hfi : findI l p = (m : Int) := by unfold findI; rw [if_pos hm, hm2.out]
      have HFI := Lib.hid hfi
      rw [hfi]
      rw [← hm2.out] at hm
      clear hfi
      obtain ⟨Q, hQ⟩ : ∃ Q, Hid (Q = i * l.length) := ⟨_, Lib.hid rfl⟩
      have hQm : Q + m < N := by rw [hQ.out, hN.out]; exact sq_lt hlt hm
      have hq1 : IntKind.wrap .i64 ((i : Int) * (l.length : Int)) = (Q : Int) := by
       have : (i : Int) * (l.length : Int) = (Q : Int) := by rw [hQ.out]; simp
       rw [this, IntKind.wrap_i64]; omega
      have hq2 : IntKind.wrap .i64 ((Q : Int) + (m : Int)) = (Q : Int) + (m : Int) := by rw [IntKind.wrap_i64]; omega
      have hq3 : (Q : Int) + (m : Int) < (N : Int) := by omega
      have hq4 : ((Q : Int) + (m : Int)).toNat = Q + m := by omega
      have t0 : w2.cell? ⟨w.heap.size, Q + m, none⟩ = some (.bool (T' i m)) := by rw [hQ.out]; exact HT2.out.cell i m hlt hm
      have t1 : w2.frozen? ⟨w.heap.size, Q + m, none⟩ = false := HT2.out.free _
      go_wp2_with fail
      go_roundg ((R i).length - (k + 1))
      case measure => omega
      case rel =>
       refine ⟨k + 1, updT T' i m true, by go_num, by omega, by omega, Lib.hid (HL2.out.set _ _ (Nat.le_refl _)), Lib.hid (by have := HT2.out.store hlt hm true; rw [← hQ.out] at this; exact this), Lib.hid fun a c => ?_⟩
       rw [HTK.out]
       unfold updT
       by_cases e : a = i ∧ c = m
       ·rw [if_pos e]
        exact iff_of_true rfl (.inr ⟨e.1, p, by simp, by rw [HFI.out, e.2]⟩)
       ·rw [if_neg e, K.out]
        constructor
        ·rintro (h | ⟨h1, q, hq, h2⟩)
         ·exact .inl h
         ·exact .inr ⟨h1, q, List.mem_append_left _ hq, h2⟩
        ·rintro (h | ⟨h1, q, hq, h2⟩)
         ·exact .inl h
         ·rcases List.mem_append.1 hq with hq | hq
          ·exact .inr ⟨h1, q, hq, h2⟩
          ·simp at hq
           subst hq
           exact absurd ⟨h1, by have := HFI.out; omega⟩ e
     ·have hfi : findI l p = -1 := by unfold findI; rw [if_neg hm]
      have HFI := Lib.hid hfi
      rw [hfi]
      clear hfi
      go_wp2_with fail
      go_roundg ((R i).length - (k + 1))
      case measure => omega
      case rel =>
       refine ⟨k + 1, T', by go_num, by omega, by omega, HL2, HT2, Lib.hid fun a c => ?_⟩
       rw [HTK.out, K.out]
       constructor
       ·rintro (h | ⟨h1, q, hq, h2⟩)
        ·exact .inl h
        ·exact .inr ⟨h1, q, List.mem_append_left _ hq, h2⟩
       ·rintro (h | ⟨h1, q, hq, h2⟩)
        ·exact .inl h
        ·rcases List.mem_append.1 hq with hq | hq
         ·exact .inr ⟨h1, q, hq, h2⟩
         ·simp at hq
          subst hq
          have := HFI.out
          omega
    ·have zk : ¬ (k : Int) < ((R i).length : Int) := by omega
     go_wp2_with fail
     go_roundg (l.length - (i + 1))
     case measure => omega
     case rel =>
      refine ⟨i + 1, T', by go_num, by omega, by omega, L, TT, Lib.hid fun a c => ?_⟩
      rw [K.out, show k = (R i).length by omega, List.take_length]
      constructor
      ·rintro (h | ⟨h1, q, hq, h2⟩)
       ·exact ⟨by omega, h.2⟩
       ·exact ⟨by omega, by rw [h1]; exact hlt, q, by rw [h1]; exact hq, h2⟩
      ·rintro ⟨h, h1, q, hq, h2⟩
       by_cases e : a = i
       ·exact .inr ⟨e, q, by rw [← e]; exact hq, h2⟩
       ·exact .inl ⟨by omega, h1, q, hq, h2⟩
  ·have zl : ¬ (i : Int) < (l.length : Int) := by omega
   go_wp2_with fail
   have hS : ∀ a c, stepS l R a c → a < l.length ∧ c < l.length := fun a c h => by
    obtain ⟨h1, p, hp, h2⟩ := h
    refine ⟨h1, ?_⟩
    unfold findI at h2
    split at h2
    ·rename_i h3; omega
    ·omega
   have HS := Lib.hid hS
   have HW := Lib.hid (show War (stepS l R) 0 0 0 T from War.start fun a c => by
    rw [K.out]
    exact ⟨fun h => h.2, fun h => ⟨by have := h.1; omega, h⟩⟩)
   clear hS K hg hi hlt zl
   go_loopg [8] l.length (fun gk vk wr => ∃ (k : Nat) (T : Nat → Nat → Bool), vk = .int .i64 (k : Int) ∧ k ≤ l.length ∧ l.length - k ≤ gk ∧ Hid (Low w wr) ∧ Hid (TabAt wr w.heap.size l.length T) ∧ Hid (War (stepS l R) k 0 0 T))
   case atStart => exact ⟨0, T, rfl, Nat.zero_le _, Nat.le_refl _, L, TT, HW⟩
   case round =>
    clear L TT HW
    obtain ⟨k, T, rfl, hk, hg, L, TT, K⟩ := hrel
    by_cases hkt : k < l.length
    ·have zk : (k : Int) < (l.length : Int) := by omega
     rename World => wo
     go_wp2_with fail
     go_loopg [9] l.length (fun gi vi wr => ∃ (i : Nat) (T : Nat → Nat → Bool), vi = .int .i64 (i : Int) ∧ i ≤ l.length ∧ l.length - i ≤ gi ∧ Hid (Low w wr) ∧ Hid (TabAt wr w.heap.size l.length T) ∧ Hid (War (stepS l R) k i 0 T))
     case atStart => exact ⟨0, T, rfl, Nat.zero_le _, Nat.le_refl _, L, TT, K⟩
     case round =>
      clear L TT K
      obtain ⟨i, T, rfl, hi, hgi, L, TT, K⟩ := hrel
      by_cases hit : i < l.length
      ·have zi : (i : Int) < (l.length : Int) := by omega
       rename World => wp
       go_wp2_with fail
       go_loopg [10] l.length (fun gj vj wr => ∃ (j : Nat) (T : Nat → Nat → Bool), vj = .int .i64 (j : Int) ∧ j ≤ l.length ∧ l.length - j ≤ gj ∧ Hid (Low w wr) ∧ Hid (TabAt wr w.heap.size l.length T) ∧ Hid (War (stepS l R) k i j T))
       case atStart => exact ⟨0, T, rfl, Nat.zero_le _, Nat.le_refl _, L, TT, K⟩
       case round =>
        clear L TT K
        obtain ⟨j, T, rfl, hj, hgj, L, TT, K⟩ := hrel
        by_cases hjt : j < l.length
        ·have zj : (j : Int) < (l.length : Int) := by omega
         obtain ⟨Q, hQ⟩ : ∃ Q, Hid (Q = i * l.length) := ⟨_, Lib.hid rfl⟩
         obtain ⟨R2, hR2⟩ : ∃ Q, Hid (Q = k * l.length) := ⟨_, Lib.hid rfl⟩
         have hQk : Q + k < N := by rw [hQ.out, hN.out]; exact sq_lt hit hkt
         have hQj : Q + j < N := by rw [hQ.out, hN.out]; exact sq_lt hit hjt
         have hRj : R2 + j < N := by rw [hR2.out, hN.out]; exact sq_lt hkt hjt
         have q1 : IntKind.wrap .i64 ((i : Int) * (l.length : Int)) = (Q : Int) := by
          have : (i : Int) * (l.length : Int) = (Q : Int) := by rw [hQ.out]; simp
          rw [this, IntKind.wrap_i64]; omega
         have q2 : IntKind.wrap .i64 ((k : Int) * (l.length : Int)) = (R2 : Int) := by
          have : (k : Int) * (l.length : Int) = (R2 : Int) := by rw [hR2.out]; simp
          rw [this, IntKind.wrap_i64]; omega
         have q3 : IntKind.wrap .i64 ((Q : Int) + (k : Int)) = (Q : Int) + (k : Int) := by rw [IntKind.wrap_i64]; omega
         have q4 : IntKind.wrap .i64 ((Q : Int) + (j : Int)) = (Q : Int) + (j : Int) := by rw [IntKind.wrap_i64]; omega
         have q5 : IntKind.wrap .i64 ((R2 : Int) + (j : Int)) = (R2 : Int) + (j : Int) := by rw [IntKind.wrap_i64]; omega
         have q6 : (Q : Int) + (k : Int) < (N : Int) := by omega
         have q7 : (Q : Int) + (j : Int) < (N : Int) := by omega
         have q8 : (R2 : Int) + (j : Int) < (N : Int) := by omega
         have q9 : ((Q : Int) + (k : Int)).toNat = Q + k := by omega
         have qa : ((Q : Int) + (j : Int)).toNat = Q + j := by omega
         have qb : ((R2 : Int) + (j : Int)).toNat = R2 + j := by omega
         have t0 : wr.cell? ⟨w.heap.size, Q + k, none⟩ = some (.bool (T i k)) := by rw [hQ.out]; exact TT.out.cell i k hit hkt
         have t1 : wr.cell? ⟨w.heap.size, R2 + j, none⟩ = some (.bool (T k j)) := by rw [hR2.out]; exact TT.out.cell k j hkt hjt
         have t2 : wr.cell? ⟨w.heap.size, Q + j, none⟩ = some (.bool (T i j)) := by rw [hQ.out]; exact TT.out.cell i j hit hjt
         have t3 : wr.frozen? ⟨w.heap.size, Q + j, none⟩ = false := TT.out.free _
         have KS := Lib.hid (K.out.step (fun a c => if a = i ∧ c = j then (T i j || (T i k && T k j)) else T a c) fun a c => rfl)
         obtain ⟨x1, h1⟩ : ∃ x, Hid (x = T i k) := ⟨_, Lib.hid rfl⟩
         obtain ⟨x2, h2⟩ : ∃ x, Hid (x = T k j) := ⟨_, Lib.hid rfl⟩
         rw [← h1.out] at t0
         rw [← h2.out] at t1
         have stay : (x1 && x2) = false → (fun a c => if a = i ∧ c = j then (T i j || (T i k && T k j)) else T a c) = T := fun hx => by
          funext a c
          rw [← h1.out, ← h2.out, hx]
          by_cases e : a = i ∧ c = j
          ·rw [if_pos e, e.1, e.2]; simp
          ·rw [if_neg e]
         have turn : (x1 && x2) = true → (fun a c => if a = i ∧ c = j then (T i j || (T i k && T k j)) else T a c) = updT T i j true := fun hx => by
          funext a c
          rw [← h1.out, ← h2.out, hx]
          unfold updT
          by_cases e : a = i ∧ c = j
          ·rw [if_pos e, if_pos e]; simp
          ·rw [if_neg e, if_neg e]
         have HST := Lib.hid stay
         have HTU := Lib.hid turn
         clear stay turn
         cases x1 with
         | false =>
          go_wp2_with fail
          go_roundg (l.length - (j + 1))
          case measure => omega
          case rel => exact ⟨j + 1, T, by go_num, by omega, by omega, L, TT, Lib.hid (by have := KS.out; rw [HST.out rfl] at this; exact this)⟩
         | true =>
          cases x2 with
          | false =>
           go_wp2_with fail
           go_roundg (l.length - (j + 1))
           case measure => omega
           case rel => exact ⟨j + 1, T, by go_num, by omega, by omega, L, TT, Lib.hid (by have := KS.out; rw [HST.out rfl] at this; exact this)⟩
          | true =>
           go_wp2_with fail
           go_roundg (l.length - (j + 1))
           case measure => omega
           case rel => exact ⟨j + 1, updT T i j true, by go_num, by omega, by omega, Lib.hid (L.out.set _ _ (Nat.le_refl _)), Lib.hid (by have := TT.out.store hit hjt true; rw [← hQ.out] at this; exact this), Lib.hid (by have := KS.out; rw [HTU.out rfl] at this; exact this)⟩
        ·have zj : ¬ (j : Int) < (l.length : Int) := by omega
         go_wp2_with fail
         go_roundg (l.length - (i + 1))
         case measure => omega
         case rel => exact ⟨i + 1, T, by go_num, by omega, by omega, L, TT, Lib.hid (K.out.row HS.out (by omega))⟩
      ·have zi : ¬ (i : Int) < (l.length : Int) := by omega
       go_wp2_with fail
       go_roundg (l.length - (k + 1))
       case measure => omega
       case rel => exact ⟨k + 1, T, by go_num, by omega, by omega, L, TT, Lib.hid (K.out.next HS.out (by omega))⟩
    ·have zk : ¬ (k : Int) < (l.length : Int) := by omega
     go_wp2_with fail
     go_ret
     exact ⟨w.heap.size, T, by rw [← hN.out]; rfl, Nat.le_refl _, TT.out, K.out.fin HS.out (by omega), L.out⟩
end Go.Proofs.YtnchohglplobeaaGreat
namespace Go.Proofs.YtnchohglplobeaaGreat
open Go.RowKit Go.Sort
theorem rInts_cv (a b : Int) (w : World) : Calls Tryz.prog 90 #[.int .i64 a, .int .i64 b] w fun e w' => e = .returned (.int .i64 (cmpIv a b)) ∧ w = w' := by
 by_cases h1 : a < b
 ·have HR := Lib.hid (show cmpIv a b = -1 by unfold cmpIv Lib.compareInt; rw [if_pos h1])
  go_enter Tryz.func90, Tryz.ntmps90
  go_wp2_with fail
  go_ret
  exact ⟨retIv HR.out, rfl⟩
 ·by_cases h2 : b < a
  ·have HR := Lib.hid (show cmpIv a b = 1 by unfold cmpIv Lib.compareInt; rw [if_neg h1, if_pos h2])
   go_enter Tryz.func90, Tryz.ntmps90
   go_wp2_with fail
   go_ret
   exact ⟨retIv HR.out, rfl⟩
  ·have HR := Lib.hid (show cmpIv a b = 0 by unfold cmpIv Lib.compareInt; rw [if_neg h1, if_neg h2])
   go_enter Tryz.func90, Tryz.ntmps90
   go_wp2_with fail
   go_ret
   exact ⟨retIv HR.out, rfl⟩
theorem cb_consv (x y : UInt8) (l m : List UInt8) : Lib.compareBytes (x :: l) (y :: m) = if x < y then -1 else if y < x then 1 else Lib.compareBytes l m := rfl
theorem cb_endv {l m : List UInt8} (h : l = [] ∨ m = []) : Lib.compareBytes l m = cmpIv l.length m.length := by
 unfold cmpIv Lib.compareInt
 cases l <;> cases m <;> simp [Lib.compareBytes] at * <;> omega
theorem u8_ltv {x y : UInt8} : x < y ↔ (x.toNat : Int) < (y.toNat : Int) := by rw [UInt8.lt_iff_toNat_lt]; omega
set_option maxHeartbeats 1600000 in
theorem rTexts_cv (s t : ByteArray) (hs : s.size ≤ 9223372036854775807) (_ht : t.size ≤ 9223372036854775807) (w : World) : Calls Tryz.prog 48 #[.string s, .string t] w fun e w' => e = .returned (.int .i64 (cmpT s t)) ∧ Gr w w' := by
 obtain ⟨r, hr⟩ : ∃ r, r = cmpT s t := ⟨_, rfl⟩
 have HR := Lib.hid hr
 rw [← hr]
 clear hr
 go_enter Tryz.func48, Tryz.ntmps48
 go_wp2_with fail
 go_loopg [5] s.size (fun gk vi wr => ∃ i : Nat, vi = .int .i64 (i : Int) ∧ i ≤ s.size ∧ i ≤ t.size ∧ s.size - i ≤ gk ∧ Hid (Gr w wr) ∧ Hid (r = Lib.compareBytes (s.data.toList.drop i) (t.data.toList.drop i)))
 case atStart => exact ⟨0, rfl, Nat.zero_le _, Nat.zero_le _, Nat.le_refl _, Lib.hid (Gr.refl _), HR⟩
 case round =>
  obtain ⟨i, rfl, hi, hi', hg, G, K⟩ := hrel
  by_cases h1 : i < s.size
  ·have z1 : (i : Int) < (s.size : Int) := by omega
   by_cases h2 : i < t.size
   ·have z2 : (i : Int) < (t.size : Int) := by omega
    have hst : r = if s[i] < t[i] then -1 else if t[i] < s[i] then 1 else Lib.compareBytes (s.data.toList.drop (i + 1)) (t.data.toList.drop (i + 1)) := by
     have h := K.out
     rw [drop_consv (show i < s.data.toList.length by simpa using h1), drop_consv (show i < t.data.toList.length by simpa using h2), cb_consv] at h
     exact h
    rcases Int.lt_trichotomy (s[i].toNat : Int) (t[i].toNat : Int) with hl | hl | hl
    ·have hr : r = -1 := by rw [hst, if_pos (u8_ltv.2 hl)]
     have HQ := Lib.hid hr
     clear hst hr
     have n1 : ¬ (s[i].toNat : Int) = (t[i].toNat : Int) := by omega
     go_wp2_with fail
     go_quiet (fail)
     go_wp2_with fail
     go_quiet (fail)
     go_wp2_with fail
     go_ret
     exact ⟨retIv HQ.out, (G.out.drewN _).drewN _⟩
    ·have he : s[i] = t[i] := UInt8.toNat_inj.1 (by omega)
     have hr : r = Lib.compareBytes (s.data.toList.drop (i + 1)) (t.data.toList.drop (i + 1)) := by
      rw [hst, he, if_neg (UInt8.lt_irrefl _), if_neg (UInt8.lt_irrefl _)]
     have HQ : Hid (r = Lib.compareBytes (s.data.toList.drop (i + 1)) (t.data.toList.drop (i + 1))) := hr
     clear hst hr he
     go_wp2_with fail
     go_quiet (fail)
     go_wp2_with fail
     go_roundg (s.size - (i + 1))
     case measure => omega
     case rel => exact ⟨i + 1, by go_num, by omega, by omega, by omega, Lib.hid (G.out.drewN _), HQ⟩
    ·have hr : r = 1 := by rw [hst, if_neg (by rw [u8_ltv]; omega), if_pos (u8_ltv.2 hl)]
     have HQ := Lib.hid hr
     clear hst hr
     have n1 : ¬ (s[i].toNat : Int) = (t[i].toNat : Int) := by omega
     have n2 : ¬ (s[i].toNat : Int) < (t[i].toNat : Int) := by omega
     go_wp2_with fail
     go_quiet (fail)
     go_wp2_with fail
     go_quiet (fail)
     go_wp2_with fail
     go_ret
     exact ⟨retIv HQ.out, (G.out.drewN _).drewN _⟩
   ·have z2 : ¬ (i : Int) < (t.size : Int) := by omega
    have hr : r = cmpIv s.size t.size := by
     rw [K.out, cb_endv (.inr (List.drop_eq_nil_of_le (by simp; omega)))]
     simp [cmpIv, Lib.compareInt]
     split <;> split <;> omega
    have HQ := Lib.hid hr
    clear hr
    go_wp2_with fail
    refine (rInts_cv _ _ _).mono ?_
    rintro e w' ⟨rfl, rfl⟩
    go_wp2_with fail
    go_ret
    exact ⟨retIv HQ.out, G.out⟩
  ·have z1 : ¬ (i : Int) < (s.size : Int) := by omega
   have hr : r = cmpIv s.size t.size := by
    rw [K.out, cb_endv (.inl (List.drop_eq_nil_of_le (by simp; omega)))]
    simp [cmpIv, Lib.compareInt]
    split <;> split <;> omega
   have HQ := Lib.hid hr
   clear hr
   go_wp2_with fail
   refine (rInts_cv _ _ _).mono ?_
   rintro e w' ⟨rfl, rfl⟩
   go_wp2_with fail
   go_ret
   exact ⟨retIv HQ.out, G.out⟩
end Go.Proofs.YtnchohglplobeaaGreat
namespace Go.Proofs.YtnchohglplobeaaGreat
open Go.RowKit Go.Maps Go.Sort
theorem sub_len {α : Type} [DecidableEq α] : ∀ {a m : List α}, a.Nodup → (∀ x ∈ a, x ∈ m) → a.length ≤ m.length
 | [], _, _, _ => Nat.zero_le _
 | x :: a, m, hn, h => by
  have hn' := List.nodup_cons.1 hn
  have hx : x ∈ m := h x (by simp)
  have := sub_len (a := a) (m := m.erase x) hn'.2 fun y hy => (List.mem_erase_of_ne (fun e : y = x => hn'.1 (e ▸ hy))).2 (h y (by simp [hy]))
  rw [List.length_erase_of_mem hx] at this
  have : 0 < m.length := List.length_pos_of_mem hx
  simp; omega
theorem seen_len {l : List Sh} {seen : List Us} (hn : seen.Nodup) (h : ∀ a ∈ seen, (fS l a).isSome = true) : seen.length ≤ l.length := by
 have e : (l.map Sh.u).length = l.length := by simp
 rw [← e]
 refine sub_len hn fun x hx => ?_
 have h1 := h x hx
 unfold fS at h1
 simp at h1
 obtain ⟨s, hs, rfl⟩ := h1
 exact List.mem_map_of_mem hs
def RoundP (f : Us → Option Value) (g : Us → List Us) (w : World) (e : Ending) (w' : World) : Prop := ∃ q : Bool, e = .returned (.bool q) ∧ (q = true ↔ ∃ a, Way (fun x y => (f x).isSome = true ∧ y ∈ g x ∧ (f y).isSome = true) a a) ∧ Low w w'
set_option maxRecDepth 100000 in
set_option maxHeartbeats 3200000 in
theorem round_cv (l : List Sh) (g : Us → List Us) (w : World) (r : Value) (hl : l.length ≤ 100000) (hE : EsAt w r l) (hR : RowsAt w (fS l) g) : Calls Tryz.prog 42 #[r] w (RoundP (fS l) g w) := by
 have hpar := par_c l w r hE
 obtain ⟨ao, c, rfl, ⟨hlc, hc9⟩, -⟩ := id hE
 have HE := Lib.hid hE
 have HR := Lib.hid hR
 have HP := Lib.hid hpar
 clear hE hR hpar
 go_enter Tryz.func42, Tryz.ntmps42
 go_wp2_with fail
 refine HP.out.mono ?_
 rintro e w1 ⟨b1, rfl, hb1, M1, L1⟩
 have HM1 := Lib.hid M1
 have HL1 := Lib.hid L1
 have hst := Lib.hid (step_cv (fS l) g w1 b1 l.length M1 (HR.out.low L1))
 clear M1 L1 HP
 go_wp2_with fail
 refine hst.out.mono ?_
 rintro e w2 ⟨b2, n2, ks, rfl, hb2, hnd, hks, hn2, C2, L2⟩
 have HK := Lib.hid hks
 have HND := Lib.hid hnd
 have HC2 := Lib.hid (show Cntv w2 b2 n2 (fun x => (occ g ks x : Int)) from ⟨_, C2, fun x => cntV_get _ x⟩)
 have HM2 := Lib.hid (HM1.out.block (L2.2.2.2 _ HM1.out.lt))
 have HL2 := Lib.hid (HL1.out.trans L2)
 have hs1 : b1 < b2 := Nat.lt_of_lt_of_le HM1.out.lt hb2
 clear hks hnd C2 HM1 HL1 hst L2
 go_wp2_with (at_range; refine at_rangeM rfl _ _ rfl keyedUs Tryz.underlying87 rfl HM2.out ?_; intro w3 cnt0 R3 G3 S3)
 go_frame
 have HR3 := Lib.hid R3
 have HL3 := Lib.hid (show Low w2 w3 from ⟨G3.os, G3.output, G3.size, fun k hk => G3.block k hk (by simp)⟩)
 clear R3 G3
 have hR3' := S3
 go_loopg [5] cnt0 (fun gk v wr => ∃ (seen : List Us) (cnt : Nat) (L : List Us), cnt ≤ gk ∧ Hid (RangeAt keyUs wr b1 w2.heap.size l.length (fS l) seen cnt) ∧ Hid (Low w2 wr) ∧ w2.heap.size + 1 ≤ wr.heap.size ∧ Hid (OwnU (w2.heap.size + 1) wr v L) ∧ L.length ≤ seen.length ∧ Hid (∀ x, x ∈ L ↔ x ∈ seen ∧ (occ g ks x : Int) = 0))
 case atStart => exact ⟨[], cnt0, [], Nat.le_refl _, HR3, HL3, by omega, Lib.hid (OwnR.nil _ _ _ _ _), Nat.le_refl _, Lib.hid fun x => by simp⟩
 case round =>
  clear HR3 HL3 S3 hR3'
  obtain ⟨seen, cnt, L, hck, RR, LL, hsz, OO, hLs, HL⟩ := hrel
  have hsl : seen.length ≤ l.length := by
   obtain ⟨_, _, _, _, h1, h2, _⟩ := RR.out
   exact seen_len h1 h2
  go_wp2_with (at_next; refine at_nextM rfl _ rfl keyedUs (fun c : Option Addr × Nat × Nat => .slice c.1 c.2.1 c.2.2) (fun u v hv => by obtain ⟨ao, c, rfl, _⟩ := HR.out.row u v hv; exact ⟨(ao, _, c), rfl⟩) rfl RR.out ?_ ?_)
  ·intro hall
   go_wp2_with fail
   have hseen : ∀ x, x ∈ seen ↔ (fS l x).isSome = true := fun x => ⟨fun hx => by
    obtain ⟨_, _, _, _, h1, h2, _⟩ := RR.out
    exact h2 x hx, hall x⟩
   have HKA := Lib.hid (show Kahn g ks ks L (fun x => (occ g ks x : Int)) from Kahn.start (fun _ => rfl) fun n => by rw [HL.out, hseen, HK.out])
   have HMA := Lib.hid (show MapAt keyUs wr b1 l.length (fun x => if x ∈ ks then fS l x else none) from RR.out.map.congr fun x => by
    by_cases h : (fS l x).isSome = true
    ·rw [if_pos ((HK.out x).2 h)]
    ·rw [if_neg (fun hx => h ((HK.out x).1 hx))]
     cases e : fS l x with
     | none => rfl
     | some v => rw [e] at h; simp at h)
   have HCA := Lib.hid (show Cntv wr b2 n2 (fun x => (occ g ks x : Int)) from HC2.out.block (LL.out.2.2.2 _ HC2.out.lt))
   have HLA := Lib.hid (HL2.out.trans LL.out)
   have hT : (ks.flatMap g).length ≤ 100000 := HR.out.few ks HND.out fun a ha => (HK.out a).1 ha
   have hb2s : b2 < w2.heap.size := HC2.out.lt
   have hb1s : b1 < w2.heap.size := HM2.out.lt
   have hb1w : w.heap.size ≤ b1 := hb1
   have hb2w : w.heap.size ≤ b2 := by omega
   clear hall hseen RR LL HL HC2 HM2 HL2
   obtain ⟨B, hB⟩ : ∃ B, B = w2.heap.size + 1 := ⟨_, rfl⟩
   have HBw := Lib.hid (show w.heap.size ≤ B ∧ b1 < B ∧ b2 < B by omega)
   rw [← hB] at hsz OO
   go_loopg [5] (L.length + (ks.flatMap g).length) (fun gk v wr => ∃ (M L : List Us) (c : Us → Int) (n' : Nat), Hid (Kahn g ks M L c) ∧ Hid M.Nodup ∧ Hid (MapAt keyUs wr b1 l.length (fun x => if x ∈ M then fS l x else none)) ∧ Hid (Cntv wr b2 n' c) ∧ n' + (M.flatMap g).length ≤ 200000 ∧ Hid (Low w wr) ∧ B ≤ wr.heap.size ∧ Hid (OwnU B wr v L) ∧ L.length + (M.flatMap g).length ≤ gk ∧ L.length + (M.flatMap g).length ≤ 200000)
   case atStart => exact ⟨ks, L, _, n2, HKA, HND, HMA, HCA, by omega, HLA, hsz, OO, Nat.le_refl _, by omega⟩
   case round =>
    clear HKA HMA HCA HLA hsz OO
    obtain ⟨M, L, c, n', K, HN, MM, CC, hn', LL, hsz, OO, hgk, hbd⟩ := hrel
    rcases List.eq_nil_or_concat L with rfl | ⟨L0, x, rfl⟩
    ·obtain ⟨ao3, cp3, rfl, hc1, hc2, -⟩ := OO.out.shape
     go_wp2_with (at_len; refine at_size rfl _ _ rfl Tryz.underlying87 rfl MM.out ?_; intro ks2 hnd2 hm2)
     have H2 := Lib.hid hm2
     clear hm2 hnd2
     go_ret
     refine ⟨_, rfl, ?_, LL.out⟩
     have hw : (fun x y => (fS l x).isSome = true ∧ y ∈ g x ∧ (fS l y).isSome = true) = fun x y => x ∈ ks ∧ y ∈ g x ∧ y ∈ ks := by
      funext x y
      rw [HK.out, HK.out]
     rw [hw, ← K.out.fin]
     have hk2 : ks2 ≠ [] ↔ M ≠ [] := by
      have hmm : ∀ x, x ∈ ks2 ↔ x ∈ M := fun x => by
       rw [H2.out]
       by_cases h : x ∈ M
       ·rw [if_pos h]; exact ⟨fun _ => h, fun _ => (HK.out x).1 (K.out.sub x h)⟩
       ·rw [if_neg h]; exact ⟨fun h2 => by simp at h2, fun h2 => absurd h2 h⟩
      constructor
      ·intro h e
       obtain ⟨y, hy⟩ := List.exists_mem_of_ne_nil _ h
       have := (hmm y).1 hy
       rw [e] at this; simp at this
      ·intro h e
       obtain ⟨y, hy⟩ := List.exists_mem_of_ne_nil _ h
       have := (hmm y).2 hy
       rw [e] at this; simp at this
     rw [← hk2]
     cases ks2 with
     | nil => simp
     | cons y t => simp
    ·obtain ⟨ao3, cp3, rfl, hc1, hc2, hx3⟩ := OO.out.shape
     have hl3 : (L0.concat x).length = L0.length + 1 := by simp
     rw [hl3] at hc1 OO hgk hbd ⊢
     rcases hx3 with h0 | ⟨g3, rfl, hg3, hg4⟩
     ·simp at h0
     have d0 := OO.out.cell encU_len L0.length 0 (by omega) (by omega)
     have d1 := OO.out.cell encU_len L0.length 1 (by omega) (by omega)
     have hgx : (L0.concat x)[L0.length]'(by omega) = x := by simp
     rw [hgx] at d0 d1
     replace d0 : wr.cell? ⟨g3, L0.length * 2, none⟩ = some (.string x.t) := d0
     replace d1 : wr.cell? ⟨g3, L0.length * 2 + 1, none⟩ = some (.string x.i) := d1
     have hq1 : IntKind.i64.wrap ((L0.length : Int) + 1 - 1) = (L0.length : Int) := by rw [IntKind.wrap_i64]; omega
     have HO := Lib.hid (show OwnU B wr (.slice (some ⟨g3, 0, none⟩) L0.length cp3) L0 from ownU_pop OO.out)
     have HKT := Lib.hid (Kahn.take HN.out (show Kahn g ks M (L0 ++ [x]) c by rw [← List.concat_eq_append]; exact K.out))
     have HSUB := Lib.hid K.out.sub
     clear OO K hgx hl3
     have HMB := Lib.hid (show MapAt keyUs (wr.alloc (.cells #[.string x.t, .string x.i] 23)) b1 l.length (fun x => if x ∈ M then fS l x else none) from MM.out.block ((low_newU (Low.refl wr) _).2.2.2 _ MM.out.lt))
     obtain ⟨ps, HPS⟩ : ∃ ps, Hid (ps = if x ∈ M then g x else []) := ⟨_, Lib.hid rfl⟩
     have hv : ∃ ao9 cp9, (if x ∈ M then fS l x else none).getD (.slice none 0 0) = .slice ao9 ps.length cp9 ∧ ps.length ≤ cp9 ∧ cp9 ≤ 9223372036854775807 ∧ ∀ j (hj : j < ps.length), ∃ b o, ao9 = some ⟨b, o, none⟩ ∧ CellsAtv w b (o + j * 2) ps[j].cs := by
      rw [HPS.out]
      by_cases hxM : x ∈ M
      ·obtain ⟨v9, hv9⟩ := Option.isSome_iff_exists.1 ((HK.out x).1 (HSUB.out x hxM))
       obtain ⟨ao9, cp9, rfl, ⟨h1, h2⟩, h3⟩ := HR.out.row x v9 hv9
       simp only [if_pos hxM, hv9]
       exact ⟨ao9, cp9, rfl, h1, h2, h3⟩
      ·simp only [if_neg hxM]
       exact ⟨none, 0, rfl, by simp, by simp, fun j hj => by simp at hj⟩
     obtain ⟨ao9, cp9, hv9, hp1, hp2, hp3⟩ := hv
     have HV9 := Lib.hid hv9
     have HP3 := Lib.hid hp3
     clear hv9 hp3
     have hML : (M.flatMap g).length = ps.length + ((M.erase x).flatMap g).length := by
      rw [HPS.out]
      by_cases hxM : x ∈ M
      ·rw [if_pos hxM, ((List.perm_cons_erase hxM).flatMap_right g).length_eq, List.flatMap_cons, List.length_append]
      ·rw [if_neg hxM, List.erase_of_not_mem hxM]; simp
     go_wp2_with (at_lookup; refine at_look rfl _ _ _ rfl keyedUs Tryz.underlying87 (zeroUs _) rfl HMB.out x rfl _ HV9.out ?_)
     have HBX0 : Hid ((wr.alloc (.cells #[.string x.t, .string x.i] 23)).heap[wr.heap.size]? = (wr.alloc (.cells #[.string x.t, .string x.i] 23)).heap[wr.heap.size]?) := Lib.hid rfl
     have HLa := Lib.hid (low_newU LL.out (.cells #[.string x.t, .string x.i] 23))
     have HCa := Lib.hid (show Cntv (wr.alloc (.cells #[.string x.t, .string x.i] 23)) b2 n' c from CC.out.block ((low_newU (Low.refl wr) _).2.2.2 _ CC.out.lt))
     have HOa := Lib.hid (OwnR.alloc HO.out (.cells #[.string x.t, .string x.i] 23))
     have HNa : Hid ((Value.slice (some ⟨g3, 0, none⟩) L0.length cp3).ownBlock ≠ some wr.heap.size) := Lib.hid (by intro e; simp [Value.ownBlock] at e; omega)
     clear CC LL MM HO d0 d1
     rename World => wo
     go_loopg [5, 46] ps.length (fun gj v vj wi => ∃ (j : Nat) (L' : List Us) (c' : Us → Int) (n'' : Nat), vj = .int .i64 (j : Int) ∧ j ≤ ps.length ∧ ps.length - j ≤ gj ∧ Hid (KahnIn g ks M L' c' x j) ∧ Hid (MapAt keyUs wi b1 l.length (fun x => if x ∈ M then fS l x else none)) ∧ Hid (Cntv wi b2 n'' c') ∧ n'' + ((M.erase x).flatMap g).length + (ps.length - j) ≤ 200000 ∧ Hid (Low w wi) ∧ wo.heap.size + 1 ≤ wi.heap.size ∧ Hid (OwnU B wi v L') ∧ Hid (v.ownBlock ≠ some wo.heap.size) ∧ Hid (wi.heap[wo.heap.size]? = (wo.alloc (.cells #[.string x.t, .string x.i] 23)).heap[wo.heap.size]?) ∧ L'.length + ((M.erase x).flatMap g).length + (ps.length - j) + 1 ≤ gk ∧ L'.length + ((M.erase x).flatMap g).length + (ps.length - j) ≤ 200000)
     case atStart => exact ⟨0, L0, c, n', rfl, Nat.zero_le _, Nat.le_refl _, HKT, HMB, HCa, by omega, HLa, by simp, HOa, HNa, HBX0, by omega, by omega⟩
     case round =>
      clear HBX0 HLa HCa HOa HNa HMB HKT
      obtain ⟨j, L', c', n'', rfl, hj, hgj, KI, MI, CI, hni, LI, hszi, OI, NI, BI, hgi, hbi⟩ := hrel
      by_cases hlt : j < ps.length
      ·have zl : (j : Int) < (ps.length : Int) := by omega
       obtain ⟨pb, po, rfl, hcs⟩ := HP3.out j hlt
       obtain ⟨e0, e1⟩ := cells2 (LI.out.cells hcs)
       clear hcs
       obtain ⟨p, hp⟩ : ∃ p, p = ps[j] := ⟨_, rfl⟩
       rw [← hp] at e0 e1
       have hxM : x ∈ M := by
        apply Classical.byContradiction
        intro h
        have := HPS.out
        rw [if_neg h] at this
        rw [this] at hlt; simp at hlt
       have hpx : ps = g x := by have := HPS.out; rwa [if_pos hxM] at this
       have hjg : j < (g x).length := by rw [← hpx]; exact hlt
       have hpg : (g x)[j] = p := by rw [hp]; simp only [hpx]
       have hstep := KI.out.step hxM hjg
       rw [hpg] at hstep
       have hcp := KI.out.cnt p
       rw [if_pos hxM] at hcp
       have hdr : (g x).drop j = p :: (g x).drop (j + 1) := by rw [List.drop_eq_getElem_cons hjg, hpg]
       have hc1 : 1 ≤ ((g x).drop j).count p := by rw [hdr]; simp
       have hc2 : ((g x).drop j).count p ≤ ps.length - j := by
        refine Nat.le_trans List.count_le_length ?_
        rw [List.length_drop, hpx]; exact Nat.le_refl _
       have hc3 : occ g (M.erase x) p ≤ ((M.erase x).flatMap g).length := List.count_le_length
       obtain ⟨q, hq⟩ : ∃ q, q = c' p := ⟨_, rfl⟩
       have hq1 : 1 ≤ q ∧ q ≤ 200000 := by omega
       have HSTEP := Lib.hid hstep
       have HQ := Lib.hid hq
       clear hstep hcp hdr hc1 hc2 hc3 hpg hp hjg hpx
       have LW : Low wr (wr.alloc (.cells #[.string p.t, .string p.i] 23)).drew := (Gr.drew (Gr.alloc (Gr.refl wr) _)).low
       obtain ⟨fc, hfc, hfv⟩ := CI.out
       have M0 : MapAt keyUs (wr.alloc (.cells #[.string p.t, .string p.i] 23)).drew b2 n'' fc := hfc.block (LW.2.2.2 _ hfc.lt)
       obtain ⟨v0, st, w3, hent, hlk3, ht3, hst⟩ := M0.entry lawUs Tryz.underlying123 zeroIv (by unfold maxLen; omega) p
       have hlk0 := M0.look keyedUs Tryz.underlying123 (zeroIv _) p
       rw [hfv, ← hq] at hlk0 hlk3
       obtain ⟨w4, hst4, M4, ht4⟩ := hst (.int .i64 (q - 1))
       have hqw : IntKind.wrap .i64 (q - 1) = q - 1 := by rw [IntKind.wrap_i64]; omega
       have HM4 := Lib.hid M4
       have HT4 := Lib.hid ht4
       have HFV := Lib.hid hfv
       clear M4 ht4 hst M0 ht3 hfc hfv
       simp only [keyUs, usV] at hent hlk3 hlk0
       simp only [goInt] at hst4 hent
       have hb4 : Butv (wr.alloc (.cells #[.string p.t, .string p.i] 23)).drew w4 b2 := Butv.of (Low.refl _) HT4.out
       have hwsz : (wr.alloc (.cells #[.string p.t, .string p.i] 23)).drew.heap.size = wr.heap.size + 1 := by
        show (wr.alloc _).heap.size = _
        simp
       have hbw := HBw.out
       have f0 : w4.cell? ⟨wr.heap.size, 0, none⟩ = some (.string p.t) := by
        rw [World.cell?_of_block (hb4 wr.heap.size (by omega) (by omega))]
        show (wr.alloc _).cell? _ = _
        rw [World.cell?_alloc_mark]; rfl
       have f1 : w4.cell? ⟨wr.heap.size, 1, none⟩ = some (.string p.i) := by
        rw [World.cell?_of_block (hb4 wr.heap.size (by omega) (by omega))]
        show (wr.alloc _).cell? _ = _
        rw [World.cell?_alloc_mark]; rfl
       have HB4 := Lib.hid hb4
       have hs4 : wr.heap.size + 1 ≤ w4.heap.size := by have := HT4.out.grown.size; omega
       have HCN := Lib.hid (show Cntv w4 b2 (n'' + 1) (fun n => if n = p then c' n - 1 else c' n) from ⟨_, HM4.out, fun y => by
        show (if y = p then some (Value.int .i64 (q - 1)) else fc y).getD (.int .i64 0) = .int .i64 (if y = p then c' y - 1 else c' y)
        by_cases e : y = p
        ·rw [if_pos e, if_pos e, e, ← HQ.out]; rfl
        ·rw [if_neg e, if_neg e, HFV.out]⟩)
       have HOI := Lib.hid (show OwnU B w4 _ L' from OI.out.to fun k hk => (hb4 k (by have := (World.ownsRow.lt OI.out k hk).2; omega) (by have := (World.ownsRow.lt OI.out k hk).1; omega)).trans (LW.2.2.2 k (World.ownsRow.lt OI.out k hk).2))
       have HL4 := Lib.hid ((LI.out.trans LW).turned HT4.out hb2w)
       have HMI4 := Lib.hid (MI.out.block ((hb4 b1 (by have := MI.out.lt; omega) (by omega)).trans (LW.2.2.2 b1 MI.out.lt)))
       have HBI4 := Lib.hid (((hb4 wo.heap.size (by omega) (by omega)).trans (LW.2.2.2 wo.heap.size (by omega))).trans BI.out)
       have HVL : Hid ((updF fc p (some (.int .i64 (q - 1))) p).getD (.int .i64 0) = .int .i64 (q - 1)) := Lib.hid (by unfold updF; simp)
       clear hb4 hwsz hq
       go_wp2_with fail
       by_cases hq0 : q - 1 = 0
       ·have HV0 : Hid ((updF fc p (some (.int .i64 (q - 1))) p).getD (.int .i64 0) = .int .i64 0) := Lib.hid (by rw [HVL.out, hq0])
        have hst5 : (Instr.entryStore 123 (.map (some b2)) (.int .i64 (st : Int)) (.int .i64 0)).run Tryz.prog w3 = .ok () w4 := by rw [← hq0]; exact hst4
        go_region
        all_goals
         go_wp2_with (first
          | (at_lookup; refine at_look rfl _ _ _ rfl keyedUs Tryz.underlying123 (zeroIv _) rfl HM4.out p rfl _ HV0.out ?_)
          | (at_builtin; go_loud (refine appR rfl _ _ _ rfl Tryz.underlying48 u_info rfl (by decide) (by decide) encU_len encU_one B _ L' rfl (OwnR.alloc HOI.out _) p ⟨w4.heap.size, 0, none⟩ 1 rfl (fun j u hj => newcell_at _ _ _ _ _ rfl hj) (by omega) (by show B ≤ (w4.alloc _).heap.size; simp; omega) ?_); intro v5 w5 O5 B5 K5 N5))
         go_roundg (ps.length - (j + 1))
         case measure => omega
         case rel =>
          have hal := low_newU (Low.refl w4) (.cells #[.string p.t, .string p.i] 23)
          have hsal : (w4.alloc (.cells #[.string p.t, .string p.i] 23)).heap.size = w4.heap.size + 1 := by simp
          have hS := HSTEP.out
          rw [← HQ.out, if_pos hq0] at hS
          have hB5 := B5.size
          refine ⟨j + 1, L' ++ [p], _, n'' + 1, by go_num, by omega, by omega, Lib.hid hS, Lib.hid (HMI4.out.block ((B5.block b1 (by omega)).trans (hal.2.2.2 b1 HMI4.out.lt))), Lib.hid (HCN.out.block ((B5.block b2 (by omega)).trans (hal.2.2.2 b2 HCN.out.lt))), by omega, Lib.hid ((low_newU HL4.out _).trans_belowU B5 hbw.1), by omega, Lib.hid O5, Lib.hid ?_, Lib.hid ?_, by rw [List.length_append, List.length_singleton]; omega, by rw [List.length_append, List.length_singleton]; omega⟩
          ·intro e
           rcases N5 with h | h
           ·exact NI.out (h ▸ e)
           ·have := h _ e
            omega
          ·exact (K5 wo.heap.size (by omega) (fun e => NI.out e.symm)).trans ((hal.2.2.2 wo.heap.size (by omega)).trans HBI4.out)
       ·have zq : ¬ (q = 1) := by omega
        go_region
        all_goals
         go_wp2_with (at_lookup; refine at_look rfl _ _ _ rfl keyedUs Tryz.underlying123 (zeroIv _) rfl HM4.out p rfl _ HVL.out ?_)
         go_roundg (ps.length - (j + 1))
         case measure => omega
         case rel =>
          have hS := HSTEP.out
          rw [← HQ.out, if_neg hq0] at hS
          exact ⟨j + 1, L', _, n'' + 1, by go_num, by omega, by omega, Lib.hid hS, HMI4, HCN, by omega, HL4, by omega, HOI, NI, HBI4, by omega, by omega⟩
      ·have zl : ¬ (j : Int) < (ps.length : Int) := by omega
       have hx0 : wr.cell? ⟨wo.heap.size, 0, none⟩ = some (.string x.t) := by rw [World.cell?_of_block BI.out]; rw [World.cell?_alloc_mark]; rfl
       have hx1 : wr.cell? ⟨wo.heap.size, 1, none⟩ = some (.string x.i) := by rw [World.cell?_of_block BI.out]; rw [World.cell?_alloc_mark]; rfl
       go_wp2_with (at_delete; refine at_drop rfl _ _ _ rfl keyedUs Tryz.underlying87 rfl MI.out x rfl ?_; intro w8 M8 T8)
       have hbt := Butv.of (Low.refl wr) T8
       have hszz := T8.grown.size
       have hlo := LI.out.turned T8 hb1w
       clear T8
       go_roundg (L'.length + ((M.erase x).flatMap g).length)
       case measure => omega
       case rel =>
        refine ⟨M.erase x, L', c', n'', Lib.hid (KI.out.done fun hxM => ?_), Lib.hid (HN.out.erase x), Lib.hid (M8.congr fun y => ?_), Lib.hid (CI.out.block (hbt _ CI.out.lt (by omega))), by omega, Lib.hid hlo, by omega, Lib.hid (OI.out.to fun k hk => hbt k (World.ownsRow.lt OI.out k hk).2 (by have := (World.ownsRow.lt OI.out k hk).1; have := HBw.out; omega)), Nat.le_refl _, by omega⟩
        ·have := HPS.out
         rw [if_pos hxM] at this
         rw [← this]; omega
        ·unfold updF
         by_cases e : y = x
         ·rw [if_pos e, e, if_neg (by rw [HN.out.mem_erase_iff]; simp)]
         ·rw [if_neg e]
          show (if y ∈ M then fS l y else none) = _
          by_cases h : y ∈ M
          ·rw [if_pos h, if_pos ((List.mem_erase_of_ne e).2 h)]
          ·rw [if_neg h, if_neg fun h2 => h (List.mem_of_mem_erase h2)]
  ·intro u ao2 ln cp w4 cnt2 hfu hns R4 hlt4 G4 S4 hen
   have HR4 := Lib.hid R4
   have HL4 := Lib.hid (LL.out.of_range G4 (Nat.le_refl _))
   have hb4 := Lib.hid (Butv.of_grown G4)
   have HFU := Lib.hid hfu
   have HNS := Lib.hid hns
   have OO4 := Lib.hid (show OwnU (w2.heap.size + 1) w4 _ L from OO.out.to fun k hk => hb4.out k (World.ownsRow.lt OO.out k hk).2 (by have := (World.ownsRow.lt OO.out k hk).1; omega))
   clear R4 G4 hfu hns
   obtain ⟨q, hq⟩ : ∃ q, Hid (q = occ g ks u) := ⟨_, Lib.hid rfl⟩
   have hsz4 : w2.heap.size + 1 ≤ w4.heap.size := by omega
   have HS4 := Lib.hid S4
   clear S4
   have HCB := Lib.hid (show Cntv (w4.alloc (.cells #[.string u.t, .string u.i] 23)) b2 n2 (fun x => (occ g ks x : Int)) from HC2.out.block ((Gr.alloc (Gr.refl w4) _).low.2.2.2 _ (Nat.lt_of_lt_of_le HC2.out.lt (by omega)) |>.trans (HL4.out.2.2.2 _ HC2.out.lt)))
   obtain ⟨fc, hfc, hfv⟩ := HCB.out
   have HFC := Lib.hid hfc
   have hval : (fc u).getD (.int .i64 0) = .int .i64 (q : Int) := by rw [hfv, hq.out]
   have HV := Lib.hid hval
   clear hfc hfv hval
   have hkv : keyUs.kv u = .agg #[.string u.t, .string u.i] := rfl
   by_cases hq0 : q = 0
   ·have HV0 := Lib.hid (show (fc u).getD (.int .i64 0) = .int .i64 0 by rw [HV.out, hq0]; rfl)
    go_wp2_with (first
     | (at_lookup; refine at_look rfl _ _ _ rfl keyedUs Tryz.underlying123 (zeroIv _) rfl HFC.out u rfl _ HV0.out ?_)
     | (at_builtin; go_loud (refine appR rfl _ _ _ rfl Tryz.underlying48 u_info rfl (by decide) (by decide) encU_len encU_one (w2.heap.size + 1) _ L rfl (OwnR.alloc (OwnR.alloc OO4.out _) _) u ⟨w4.heap.size + 1, 0, none⟩ 1 rfl (fun j u hj => newcell_at _ _ _ _ _ rfl hj) (by omega) (by show w2.heap.size + 1 ≤ ((w4.alloc _).alloc _).heap.size; simp; omega) ?_); intro v5 w5 O5 B5 K5 N5))
    have H5 := Lib.hid O5
    have L5 := Lib.hid ((low_newU (low_newU HL4.out _) _).trans_belowU B5 (Nat.le_succ _))
    have HR5 := Lib.hid (HR4.out.block ((B5.block _ (by have := HR4.out.lt.2.1; have := HM2.out.lt; omega)).trans ((low_newU (low_newU (Low.refl w4) _) _).2.2.2 _ HR4.out.lt.2.1)) ((B5.block _ (by omega)).trans ((low_newU (low_newU (Low.refl w4) _) _).2.2.2 _ HR4.out.lt.1)))
    have hsz5 : w2.heap.size + 1 ≤ w5.heap.size := Nat.le_trans (by simp; omega) B5.size
    clear O5 B5 K5 N5
    go_roundg cnt2
    case measure => omega
    case rel =>
     refine ⟨seen ++ [u], cnt2, L ++ [u], Nat.le_refl _, HR5, L5, hsz5, H5, by simp; omega, Lib.hid fun x => ?_⟩
     have h0 : (occ g ks u : Int) = 0 := by have := hq.out; omega
     rw [List.mem_append, List.mem_append, HL.out x]
     constructor
     ·rintro (⟨h1, h2⟩ | h1)
      ·exact ⟨.inl h1, h2⟩
      ·simp at h1; subst h1; exact ⟨.inr (by simp), h0⟩
     ·rintro ⟨h1 | h1, h2⟩
      ·exact .inl ⟨h1, h2⟩
      ·exact .inr h1
   ·have zq : ¬ ((q : Int) = 0) := by omega
    go_wp2_with (at_lookup; refine at_look rfl _ _ _ rfl keyedUs Tryz.underlying123 (zeroIv _) rfl HFC.out u rfl _ HV.out ?_)
    have HR5 := Lib.hid (HR4.out.block ((low_newU (Low.refl w4) (.cells #[.string u.t, .string u.i] 23)).2.2.2 _ HR4.out.lt.2.1) ((low_newU (Low.refl w4) (.cells #[.string u.t, .string u.i] 23)).2.2.2 _ HR4.out.lt.1))
    go_roundg cnt2
    case measure => omega
    case rel =>
     refine ⟨seen ++ [u], cnt2, L, Nat.le_refl _, HR5, Lib.hid (low_newU HL4.out _), by simp; omega, Lib.hid (OwnR.alloc OO4.out _), by simp; omega, Lib.hid fun x => ?_⟩
     have h0 : ¬ (occ g ks u : Int) = 0 := by have := hq.out; omega
     rw [List.mem_append, HL.out x]
     constructor
     ·rintro ⟨h1, h2⟩
      exact ⟨.inl h1, h2⟩
     ·rintro ⟨h1 | h1, h2⟩
      ·exact ⟨h1, h2⟩
      ·simp at h1; subst h1; exact absurd h2 h0
end Go.Proofs.YtnchohglplobeaaGreat
namespace Go.Proofs.YtnchohglplobeaaGreat
open Go.RowKit Go.Maps Go.Sort
def RRoundP (l : List Sh) (R : Nat → List Us) (w : World) (e : Ending) (w' : World) : Prop := ∃ q : Bool, e = .returned (.bool q) ∧ (q = true ↔ ∃ i, ∃ hi : i < l.length, findI l l[i].u = (i : Int) ∧ Way (stepS l R) i i) ∧ Low w w'
set_option maxRecDepth 100000 in
set_option maxHeartbeats 3200000 in
theorem rRound_c (l : List Sh) (R : Nat → List Us) (hl : l.length ≤ 1000) (w : World) (r : Value) (hr : EsAt w r l) (hR : ∀ i (hi : i < l.length), UsAt w l[i].p (R i)) :
  Calls Tryz.prog 30 #[r] w (RRoundP l R w) := by
 have hab := above_cv l R hl w r hr hR
 obtain ⟨ao, c, rfl, ⟨hlc, hc9⟩, hx⟩ := id hr
 have HX := Lib.hid hx
 have HE := Lib.hid hr
 have HA := Lib.hid hab
 clear hx hr hR hab
 obtain ⟨N, hN⟩ : ∃ N, Hid (N = l.length * l.length) := ⟨_, Lib.hid rfl⟩
 have hNb : N ≤ 1000000 := by rw [hN.out]; exact Nat.mul_le_mul hl hl
 go_enter Tryz.func30, Tryz.ntmps30
 go_wp2_with fail
 refine HA.out.mono ?_
 rintro e w1 ⟨b, T, rfl, hb, TT, hT, L1⟩
 rw [← hN.out]
 have HT := Lib.hid hT
 have HTT := Lib.hid TT
 have HL1 := Lib.hid L1
 clear hT TT L1 HA
 go_wp2_with fail
 go_loopg [4] l.length (fun gk vi wr => ∃ i : Nat, vi = .int .i64 (i : Int) ∧ i ≤ l.length ∧ l.length - i ≤ gk ∧ Hid (Low w wr) ∧ Hid (TabAt wr b l.length T) ∧ Hid (∀ j (hj : j < l.length), j < i → ¬ (findI l l[j].u = (j : Int) ∧ T j j = true)))
 case atStart => exact ⟨0, rfl, Nat.zero_le _, Nat.le_refl _, HL1, HTT, Lib.hid fun j hj h => absurd h (Nat.not_lt_zero _)⟩
 case round =>
  clear HL1 HTT
  obtain ⟨i, rfl, hi, hg, L, TT, K⟩ := hrel
  by_cases hlt : i < l.length
  ·have zl : (i : Int) < (l.length : Int) := by omega
   obtain ⟨pb, po, rfl, hcs⟩ := HX.out i hlt
   obtain ⟨e0, e1, -⟩ := cells11 (L.out.cells hcs)
   clear hcs
   obtain ⟨p, hp⟩ : ∃ p, Hid (p = l[i].u) := ⟨_, Lib.hid rfl⟩
   rw [← hp.out] at e0 e1
   have hf := find_c l p wr _ (HE.out.low L.out)
   unfold usV at hf
   have HF := Lib.hid hf
   clear hf
   obtain ⟨Q, hQ⟩ : ∃ Q, Hid (Q = i * l.length) := ⟨_, Lib.hid rfl⟩
   have hQi : Q + i < N := by rw [hQ.out, hN.out]; exact sq_lt hlt hlt
   have q1 : IntKind.wrap .i64 ((i : Int) * (l.length : Int)) = (Q : Int) := by
    have : (i : Int) * (l.length : Int) = (Q : Int) := by rw [hQ.out]; simp
    rw [this, IntKind.wrap_i64]; omega
   have q3 : IntKind.wrap .i64 ((Q : Int) + (i : Int)) = (Q : Int) + (i : Int) := by rw [IntKind.wrap_i64]; omega
   have q6 : (Q : Int) + (i : Int) < (N : Int) := by omega
   have q9 : ((Q : Int) + (i : Int)).toNat = Q + i := by omega
   go_wp2_with fail
   refine HF.out.mono ?_
   rintro e w2 ⟨rfl, L2⟩
   have HL2 := Lib.hid (L.out.trans L2)
   have HT2 := Lib.hid (TT.out.low L2)
   have t0 : w2.cell? ⟨b, Q + i, none⟩ = some (.bool (T i i)) := by rw [hQ.out]; exact (TT.out.low L2).cell i i hlt hlt
   clear L2
   obtain ⟨f, hff⟩ : ∃ f, Hid (f = findI l p) := ⟨_, Lib.hid rfl⟩
   rw [← hff.out]
   obtain ⟨x, hx⟩ : ∃ x, Hid (x = T i i) := ⟨_, Lib.hid rfl⟩
   rw [← hx.out] at t0
   have next : ¬ (f = (i : Int) ∧ x = true) → ∀ j (hj : j < l.length), j < i + 1 → ¬ (findI l l[j].u = (j : Int) ∧ T j j = true) := fun hn j hj hji => by
    rcases Nat.lt_succ_iff_lt_or_eq.1 hji with h | rfl
    ·exact K.out j hj h
    ·rw [← hp.out, ← hff.out, ← hx.out]; exact hn
   have HN := Lib.hid next
   clear next
   by_cases hfi : f = (i : Int)
   ·have HFI := Lib.hid hfi
    rw [hfi]
    clear hfi
    cases x with
    | true =>
     go_wp2_with fail
     go_ret
     exact ⟨true, rfl, ⟨fun _ => ⟨i, hlt, by rw [← hp.out, ← hff.out]; exact HFI.out, (HT.out i i).1 hx.out.symm⟩, fun _ => rfl⟩, HL2.out⟩
    | false =>
     go_wp2_with fail
     go_roundg (l.length - (i + 1))
     case measure => omega
     case rel => exact ⟨i + 1, by go_num, by omega, by omega, HL2, HT2, Lib.hid (HN.out fun h => by simp at h)⟩
   ·have HFI := Lib.hid hfi
    go_wp2_with fail
    go_roundg (l.length - (i + 1))
    case measure => omega
    case rel => exact ⟨i + 1, by go_num, by omega, by omega, HL2, HT2, Lib.hid (HN.out fun h => HFI.out h.1)⟩
  ·have zl : ¬ (i : Int) < (l.length : Int) := by omega
   go_wp2_with fail
   go_ret
   refine ⟨false, rfl, ⟨fun h => by simp at h, fun ⟨j, hj, h1, h2⟩ => ?_⟩, L.out⟩
   exact absurd ⟨h1, (HT.out j j).2 h2⟩ (K.out j hj (by omega))
end Go.Proofs.YtnchohglplobeaaGreat
