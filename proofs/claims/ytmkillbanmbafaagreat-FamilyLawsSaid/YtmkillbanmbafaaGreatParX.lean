/- Names as keys of a map: how one is laid as a value, and what it reads as. No condition. Entities in memory by their names and their parents' slices; entity.parentsByName: the parents under each name, those of the first entity with it. No condition. 'm[k] += x' on a map by keys of one's own: the entry, the look behind it, the store into it. Condition: the key's type is one that the library knows (by its elder law). entity.stepsTo: how many steps lead to each name. Condition: no more than 100000 steps in all. -/
import Derived.Test.YtmkillbanmbafaaGreatRows
import Derived.Test.YtmkillbanmbafaaGreatMps
import Derived.Test.YtmkillbanmbafaaGreatEnts
import Derived.DeepKeys4
import Derived.Test.YtmkillbanmbafaaGreatGrs
import Derived.Lib.Hide
import Derived.WideKeyEntry
import Derived.Test.YtmkillbanmbafaaGreatCycs
namespace Go.Proofs.YtmkillbanmbafaaGreat
open Go.RowKit Go.Maps
def usV (u : Us) : Value := .agg #[.string u.t, .string u.i]
def usL (u : Us) : Lit := .string (keyBytes [.string u.t.data.toList, .string u.i.data.toList])
theorem laidOutE : laidOutB Tryz.prog = true := by kernel_rfl
theorem rowUs : 24 < Tryz.prog.types.size := of_decide_eq_true (by kernel_rfl)
theorem kt2Us : Tryz.prog.keyTypeAt 2 24 = true := by kernel_rfl
theorem lawUs : WideMaps.KeyLaw Tryz.prog 24 := deep_law_laid laidOutE (m := 2) (by omega) rowUs kt2Us (by rw [Tryz.underlying24])
theorem keyedUs : Keyed Tryz.prog 24 := Keyed.of_law lawUs
theorem cellsUs : Tryz.prog.cellsOf 24 = 2 := by kernel_rfl
theorem ktUs : Tryz.prog.keyType 24 = true := by kernel_rfl
theorem szP : ∃ D, Tryz.prog.types.size + 1 = D + 2 := ⟨Tryz.prog.types.size - 1, by have := rowUs; omega⟩
theorem lits_text (D : Nat) (s : ByteArray) (h : s.size ≤ maxLen) : Tryz.prog.keyLits (D + 1) 9 [.string s] = some [.string s.data.toList] := by
  unfold Program.keyLits
  rw [Tryz.underlying9]
  simp [h]
theorem usOk (u : Us) : keyOf Tryz.prog 24 (usV u) = some (usL u) := by
  have hf : (usV u).formed Tryz.prog 24 = true := by simp [usV, Value.formed, Tryz.underlying24, cellsUs]
  obtain ⟨D, hD⟩ := szP
  have hl : Tryz.prog.keyLits (Tryz.prog.types.size + 1) 24 [.string u.t, .string u.i] = some [.string u.t.data.toList, .string u.i.data.toList] := by
    have h1 := lits_text D u.t u.ht
    have h2 := lits_text D u.i u.hi
    have hc : Tryz.prog.cellsOf 9 = 1 := by kernel_rfl
    rw [hD]
    unfold Program.keyLits
    rw [Tryz.underlying24]
    simp [cellsUs, hc, h1, h2]
  unfold keyOf
  rw [Tryz.underlying24]
  simp only [ktUs, hf, Bool.and_self, if_true]
  show ((Tryz.prog.keyLits (Tryz.prog.types.size + 1) 24 [.string u.t, .string u.i]).map fun ls => Lit.string (keyBytes ls)) = _
  rw [hl]
  rfl
theorem usInj (a b : Us) (h : usV a = usV b) : a = b := by
  unfold usV at h
  injection h with h
  have h1 : ([.string a.t, .string a.i] : List Value) = [.string b.t, .string b.i] := by
    have := congrArg Array.toList h
    exact this
  injection h1 with e1 e2
  injection e2 with e2 _
  injection e1 with e1
  injection e2 with e2
  exact Us.ext' e1 e2
def keyUs : KeyF Tryz.prog 24 Us := ⟨usV, usL, usOk, usInj⟩
end Go.Proofs.YtmkillbanmbafaaGreat
namespace Go.Proofs.YtmkillbanmbafaaGreat
open Go.RowKit Go.Maps Go.Sort
/-- An entity as its cells are. -/
structure Sh where
  u : Us
  ap : Option Addr
  np : Nat
  cp : Nat
  h : Hd
  ai : Option Addr
  ni : Nat
  ci : Nat
  an : Option Addr
  nn : Nat
  cn : Nat
def Sh.p (s : Sh) : Value := .slice s.ap s.np s.cp
def Sh.cs (s : Sh) : List Value := [.string s.u.t, .string s.u.i, .slice s.ap s.np s.cp, .int .i64 s.h.k, .bool s.h.b, .int .i64 s.h.n, .string s.h.s, .string s.h.t, .string s.h.i, .slice s.ai s.ni s.ci, .slice s.an s.nn s.cn]
/-- A slice of entities. -/
def EsAt (w : World) (r : Value) (l : List Sh) : Prop :=
  ∃ ao c, r = .slice ao l.length c ∧ (l.length ≤ c ∧ c ≤ 9223372036854775807) ∧ ∀ j (hj : j < l.length), ∃ b o, ao = some ⟨b, o, none⟩ ∧ CellsAt w b (o + j * 11) l[j].cs
theorem EsAt.low {w w' : World} {r : Value} {l : List Sh} (h : EsAt w r l) (hl : Low w w') : EsAt w' r l := by
  obtain ⟨ao, c, rfl, hc, hx⟩ := h
  refine ⟨ao, c, rfl, hc, fun j hj => ?_⟩
  obtain ⟨b, o, rfl, hs⟩ := hx j hj
  exact ⟨b, o, rfl, hl.cells hs⟩
theorem cells11 {w : World} {b o : Nat} {s : Sh} (hc : CellsAt w b o s.cs) :
    w.cell? ⟨b, o, none⟩ = some (.string s.u.t) ∧ w.cell? ⟨b, o + 1, none⟩ = some (.string s.u.i) ∧ w.cell? ⟨b, o + 2, none⟩ = some (.slice s.ap s.np s.cp) ∧ w.cell? ⟨b, o + 3, none⟩ = some (.int .i64 s.h.k) ∧
    w.cell? ⟨b, o + 4, none⟩ = some (.bool s.h.b) ∧ w.cell? ⟨b, o + 5, none⟩ = some (.int .i64 s.h.n) ∧ w.cell? ⟨b, o + 6, none⟩ = some (.string s.h.s) ∧ w.cell? ⟨b, o + 7, none⟩ = some (.string s.h.t) ∧
    w.cell? ⟨b, o + 8, none⟩ = some (.string s.h.i) ∧ w.cell? ⟨b, o + 9, none⟩ = some (.slice s.ai s.ni s.ci) ∧ w.cell? ⟨b, o + 10, none⟩ = some (.slice s.an s.nn s.cn) :=
  ⟨hc 0 _ rfl, hc 1 _ rfl, hc 2 _ rfl, hc 3 _ rfl, hc 4 _ rfl, hc 5 _ rfl, hc 6 _ rfl, hc 7 _ rfl, hc 8 _ rfl, hc 9 _ rfl, hc 10 _ rfl⟩
/-- The parents under a name: those of the first entity with it. -/
def fS (l : List Sh) (x : Us) : Option Value := (l.find? fun s => decide (s.u = x)).map Sh.p
theorem fS_more {l : List Sh} {s : Sh} (x : Us) : fS (l ++ [s]) x = if (fS l x).isSome = true then fS l x else if s.u = x then some s.p else none := by
  unfold fS
  rw [List.find?_append]
  cases h : l.find? fun s => decide (s.u = x) with
  | some v => simp
  | none =>
    by_cases e : s.u = x
    · simp [e]
    · simp [e]
theorem fS_there {l : List Sh} {s : Sh} (h : (fS l s.u).isSome = true) : fS (l ++ [s]) = fS l := by
  funext x
  rw [fS_more]
  by_cases e : (fS l x).isSome = true
  · rw [if_pos e]
  · rw [if_neg e, if_neg (fun hx : s.u = x => e (hx ▸ h))]
    cases hf : fS l x with
    | none => rfl
    | some v => rw [hf] at e; simp at e
theorem fS_new {l : List Sh} {s : Sh} (h : (fS l s.u).isSome = false) : fS (l ++ [s]) = updF (fS l) s.u (some s.p) := by
  funext x
  rw [fS_more]
  unfold updF
  by_cases e : x = s.u
  · rw [if_pos e, e, h]; simp
  · rw [if_neg e, if_neg (Ne.symm e)]
    by_cases e2 : (fS l x).isSome = true
    · rw [if_pos e2]
    · rw [if_neg e2]
      cases hf : fS l x with
      | none => rfl
      | some v => rw [hf] at e2; simp at e2
theorem Low.turned {w a b : World} {k : Nat} (h : Low w a) (ht : a.mapTurned b k) (hk : w.heap.size ≤ k) : Low w b := by
  obtain ⟨es, cl, es', cl', hb, rfl⟩ := ht
  refine ⟨h.1, h.2.1, ?_, fun j hj => ?_⟩
  · have := h.2.2.1
    simp [ChangeMaps.setBlock]
    exact this
  · rw [← h.2.2.2 j hj]
    exact ChangeMaps.heap_setBlock_other hb _ (by omega)
theorem zeroUs (w : World) : (zeroValue 33).run Tryz.prog w = .ok (.slice none 0 0) w := by kernel_rfl
/-- What parentsByName answers. -/
def ParP (l : List Sh) (w : World) (e : Ending) (w' : World) : Prop := ∃ b, e = .returned (.map (some b)) ∧ w.heap.size ≤ b ∧ MapAt keyUs w' b l.length (fS l) ∧ Low w w'
set_option maxHeartbeats 1600000 in
theorem par_c (l : List Sh) (w : World) (r : Value) (hr : EsAt w r l) : Calls Tryz.prog 32 #[r] w (ParP l w) := by
  obtain ⟨ao, c, rfl, ⟨hlc, hc9⟩, hx⟩ := hr
  have hmm := @run_makeMap Tryz.prog
  have HX := Lib.hid hx
  clear hx
  go_enter Tryz.func32, Tryz.ntmps32
  go_wp2_with fail
  clear hmm
  go_loopg [11] l.length (fun gk vi wr => ∃ i : Nat, vi = .int .i64 (i : Int) ∧ i ≤ l.length ∧ l.length - i ≤ gk ∧ Hid (Low w wr) ∧ Hid (MapAt keyUs wr w.heap.size i (fS (l.take i))))
  case atStart => exact ⟨0, rfl, Nat.zero_le _, Nat.le_refl _, Lib.hid (by exact (Low.of_below ((Below.refl _ _).alloc (Nat.le_refl _) _))), Lib.hid ((MapAt.made keyUs w).congr fun _ => rfl)⟩
  case round =>
    obtain ⟨i, rfl, hi, hg, L, M⟩ := hrel
    by_cases hlt : i < l.length
    · have zl : (i : Int) < (l.length : Int) := by omega
      obtain ⟨b, o, rfl, hcs⟩ := HX.out i hlt
      obtain ⟨e0, e1, e2, e3, e4, e5, e6, e7, e8, e9, e10⟩ := cells11 (L.out.cells hcs)
      clear hcs
      obtain ⟨s, hs⟩ : ∃ s, s = l[i] := ⟨_, rfl⟩
      have HT := Lib.hid (show l.take (i + 1) = l.take i ++ [s] by rw [hs, List.take_succ_eq_append_getElem hlt])
      rw [← hs] at e0 e1 e2 e3 e4 e5 e6 e7 e8 e9 e10
      clear hs
      have M2 := Lib.hid (show MapAt keyUs (wr.alloc (.cells s.cs.toArray 39)) w.heap.size i (fS (l.take i)) from M.out.block ((Gr.alloc (Gr.refl wr) _).low.2.2.2 _ M.out.lt))
      have L2 := Lib.hid (show Low w (wr.alloc (.cells s.cs.toArray 39)) from L.out.trans (Gr.alloc (Gr.refl wr) _).low)
      cases hq : (fS (l.take i) s.u).isSome with
      | true =>
        have HQ := Lib.hid hq
        clear hq
        go_wp2_with (at_lookup; refine at_lookOk rfl _ _ _ rfl keyedUs Tryz.underlying68 (zeroUs _) rfl M2.out s.u rfl _ true rfl HQ.out ?_)
        go_roundg (l.length - (i + 1))
        case measure => omega
        case rel => exact ⟨i + 1, by go_num, by omega, by omega, L2, Lib.hid (by rw [HT.out, fS_there HQ.out]; exact M2.out.mono (Nat.le_succ _))⟩
      | false =>
        have HQ := Lib.hid hq
        clear hq
        go_wp2_with (first
          | (at_lookup; refine at_lookOk rfl _ _ _ rfl keyedUs Tryz.underlying68 (zeroUs _) rfl M2.out s.u rfl _ false rfl HQ.out ?_)
          | (at_mapUpdate; refine at_store rfl _ _ _ _ rfl keyedUs Tryz.underlying68 rfl M2.out (by unfold maxLen; omega) s.u rfl s.p rfl ?_; intro w1 M3 T3))
        have M4 := Lib.hid M3
        have L4 := Lib.hid (L2.out.turned T3 (Nat.le_refl _))
        clear M3 T3
        go_wp2_with fail
        go_roundg (l.length - (i + 1))
        case measure => omega
        case rel => exact ⟨i + 1, by go_num, by omega, by omega, L4, Lib.hid (by rw [HT.out, fS_new HQ.out]; exact M4.out)⟩
    · have zl : ¬ (i : Int) < (l.length : Int) := by omega
      go_wp2_with fail
      go_ret
      obtain rfl : i = l.length := by omega
      exact ⟨_, rfl, Nat.le_refl _, by have := M.out; rwa [List.take_length] at this, L.out⟩
end Go.Proofs.YtmkillbanmbafaaGreat
namespace Go.Proofs.YtmkillbanmbafaaGreat
open Go.RowKit Go.Maps Go.ChangeShapes Go.WideShapes Go.MapKept Go.ChangeMaps Go.WideElems
open Go.WideMaps (KeyLaw)
section
variable {P : Program} {k : TypeId} {α : Type}
theorem entry_runs {w : World} {t e : TypeId} {R : Value → Option (DataW Value × List MemPlace)} {b : Nat} {es : Array MapEntry} {clock : Nat} (K : KeyLaw P k) (ht : P.underlying t = some (.map k e)) {z : Value} (hz : ∀ u : World, (zeroValue e).run P u = .ok z u) (hb : w.heap[b]? = some (.map es clock)) (F : Fit P k R es clock)
    {key : Value} {kl : Lit} (hkey : keyOf P k key = some kl) :
    (∃ v1, (Instr.mapEntry t (.map (some b)) key).run P w = .ok v1 (setBlock w b (.map (es.push ⟨key, z, clock⟩) (clock + 1))) ∧ (Instr.mapUpdate t (.map (some b)) key z).run P w = .ok () (setBlock w b (.map (es.push ⟨key, z, clock⟩) (clock + 1))) ∧ (Instr.lookup t (.map (some b)) key false).run P w = .ok z w) ∨
    (∃ v1, (Instr.mapEntry t (.map (some b)) key).run P w = .ok v1 (setBlock w b (.map es clock))) := by
  rcases K.find w hkey es.toList F.keys with ⟨h1, h2⟩ | ⟨j, e0, h1, h2, h3⟩
  · refine .inl ⟨.tuple #[z, goInt clock], ?_, ?_, ?_⟩
    · simp [Instr.mapEntry, run_underlying ht, MapKept.run_getObj_map hb, K.check w false hkey, h1, hz, MapKept.run_setObj_map _ hb, Result.andThen, setBlock]
    · simp [Instr.mapUpdate, run_underlying ht, MapKept.run_getObj_map hb, K.check w false hkey, h1, MapKept.run_setObj_map _ hb, Result.andThen, setBlock]
    · simp [Instr.lookup, run_underlying ht, MapKept.run_getObj_map hb, K.check w es.isEmpty hkey, h1, hz, Result.andThen]
  · have hj : es[j]? = some e0 := by simpa using h2
    have hsame : es.modify j (fun e => { e with key := key }) = es := by
      apply Array.ext'
      rw [Array.toList_modify, modify_eq_set _ _ _ _ h2]
      have : ({ e0 with key := key } : MapEntry) = e0 := by rw [← h3]
      rw [this]
      exact set_self _ _ _ h2
    exact .inr ⟨.tuple #[e0.val, goInt e0.born], by simp [Instr.mapEntry, run_underlying ht, MapKept.run_getObj_map hb, K.check w false hkey, h1, hj, h3, K.stays w hkey, hsame, MapKept.run_setObj_map _ hb, Result.andThen, setBlock]⟩
theorem MapAt.entry [DecidableEq α] {F : KeyF P k α} {w : World} {b n : Nat} {f : α → Option Value} (h : MapAt F w b n f) (KL : KeyLaw P k) {t e : TypeId} (ht : P.underlying t = some (.map k e)) {z : Value} (hz : ∀ u : World, (zeroValue e).run P u = .ok z u) (hn : n < maxLen) (a : α) :
    ∃ (v0 : Value) (st : Nat) (w1 : World), (Instr.mapEntry t (.map (some b)) (F.kv a)).run P w = .ok (.tuple #[v0, goInt st]) w1 ∧ (Instr.lookup t (.map (some b)) (F.kv a) false).run P w1 = .ok ((f a).getD z) w1 ∧ w.mapTurned w1 b ∧
      ∀ val, ∃ w2, (Instr.entryStore t (.map (some b)) (goInt st) val).run P w1 = .ok () w2 ∧ MapAt F w2 b (n + 1) (updF f a (some val)) ∧ w.mapTurned w2 b := by
  have K : Keyed P k := Keyed.of_law KL
  have h0 := h
  obtain ⟨D, hD⟩ := h
  obtain ⟨es, clock, hb, Fi, _⟩ := hD.owns
  obtain ⟨v0, st, es1, clock1, hent, _, hst⟩ := entry_then_store KL ht hz hb Fi (F.ok a)
  have hb1 : (setBlock w b (.map es1 clock1)).heap[b]? = some (.map es1 clock1) := heap_setBlock_same hb _
  have t1 : w.mapTurned (setBlock w b (.map es1 clock1)) b := ⟨es, clock, es1, clock1, hb, rfl⟩
  refine ⟨v0, st, _, hent, ?_, t1, fun val => ?_⟩
  · rcases entry_runs KL ht hz hb Fi (F.ok a) with ⟨v1, g1, g2, g3⟩ | ⟨v1, g1⟩
    · rw [hent] at g1
      simp only [Result.ok.injEq] at g1
      obtain ⟨w', hrun, hm, _⟩ := h0.store K ht hn a z
      rw [g2] at hrun
      simp only [Result.ok.injEq, true_and] at hrun
      have h3 := h0.look K ht (hz w) a
      rw [g3] at h3
      simp only [Result.ok.injEq, and_true] at h3
      rw [g1.2, hrun, hm.look K ht (hz _) a, ← h3]
      unfold updF
      simp
    · rw [hent] at g1
      simp only [Result.ok.injEq] at g1
      have hm : MapAt F (setBlock w b (.map es1 clock1)) b n f := by
        rw [g1.2]
        exact h0.block (by rw [heap_setBlock_same hb, hb])
      exact hm.look K ht (hz _) a
  · obtain ⟨es', clock', r1, r2⟩ := hst _ val hb1
    obtain ⟨w', hrun, hm, _⟩ := h0.store K ht hn a val
    rw [r2] at hrun
    simp only [Result.ok.injEq, true_and] at hrun
    refine ⟨_, r1, hm.block ?_, t1.trans ⟨es1, clock1, es', clock', hb1, rfl⟩⟩
    rw [← hrun, heap_setBlock_same hb1, heap_setBlock_same hb]
end
end Go.Proofs.YtmkillbanmbafaaGreat
namespace Go.Proofs.YtmkillbanmbafaaGreat
open Go.RowKit Go.Maps Go.Sort
def Us.cs (u : Us) : List Value := [.string u.t, .string u.i]
/-- A slice of names. -/
def UsAt (w : World) (r : Value) (l : List Us) : Prop :=
  ∃ ao c, r = .slice ao l.length c ∧ (l.length ≤ c ∧ c ≤ 9223372036854775807) ∧ ∀ j (hj : j < l.length), ∃ b o, ao = some ⟨b, o, none⟩ ∧ CellsAt w b (o + j * 2) l[j].cs
theorem UsAt.low {w w' : World} {r : Value} {l : List Us} (h : UsAt w r l) (hl : Low w w') : UsAt w' r l := by
  obtain ⟨ao, c, rfl, hc, hx⟩ := h
  refine ⟨ao, c, rfl, hc, fun j hj => ?_⟩
  obtain ⟨b, o, rfl, hs⟩ := hx j hj
  exact ⟨b, o, rfl, hl.cells hs⟩
theorem cells2 {w : World} {b o : Nat} {u : Us} (hc : CellsAt w b o u.cs) : w.cell? ⟨b, o, none⟩ = some (.string u.t) ∧ w.cell? ⟨b, o + 1, none⟩ = some (.string u.i) := ⟨hc 0 _ rfl, hc 1 _ rfl⟩
/-- A count as an entry: none where it is nought. -/
def cntV (l : List Us) (x : Us) : Option Value := if l.count x = 0 then none else some (.int .i64 (l.count x : Int))
theorem cntV_get (l : List Us) (x : Us) : (cntV l x).getD (.int .i64 0) = .int .i64 (l.count x : Int) := by
  unfold cntV
  split
  · rename_i h; rw [h]; rfl
  · rfl
theorem cntV_more (l : List Us) (u : Us) : cntV (l ++ [u]) = updF (cntV l) u (some (.int .i64 ((l.count u : Int) + 1))) := by
  funext x
  unfold updF cntV
  rw [List.count_append, List.count_singleton]
  by_cases e : x = u
  · rw [if_pos e, e]; simp
  · have : (u == x) = false := by simpa using fun h => e h.symm
    rw [if_neg e, this]; simp
theorem zeroI (w : World) : (zeroValue 3).run Tryz.prog w = .ok (.int .i64 0) w := by kernel_rfl
/-- The rows under the names of a map. -/
structure RowsAt (w : World) (f : Us → Option Value) (g : Us → List Us) : Prop where
  row : ∀ u v, f u = some v → UsAt w v (g u)
  few : ∀ seen : List Us, seen.Nodup → (∀ a ∈ seen, (f a).isSome = true) → (seen.flatMap g).length ≤ 100000
/-- What stepsTo answers. -/
def StepP (f : Us → Option Value) (g : Us → List Us) (w : World) (e : Ending) (w' : World) : Prop := ∃ (b n : Nat) (ks : List Us), e = .returned (.map (some b)) ∧ w.heap.size ≤ b ∧ ks.Nodup ∧ (∀ a, a ∈ ks ↔ (f a).isSome = true) ∧ n ≤ 100000 ∧ MapAt keyUs w' b n (cntV (ks.flatMap g)) ∧ Low w w'
theorem RangeAt.block {P : Program} {k : TypeId} {α : Type} {F : KeyF P k α} {w w' : World} {b r n : Nat} {f : α → Option Value} {seen : List α} {cnt : Nat} (h : RangeAt F w b r n f seen cnt) (eb : w'.heap[b]? = w.heap[b]?) (er : w'.heap[r]? = w.heap[r]?) : RangeAt F w' b r n f seen cnt := by
  obtain ⟨D, left, hD, hr, rest⟩ := h
  obtain ⟨es, clock, hb, q⟩ := hD.owns
  obtain ⟨es2, clock2, since, sn, c0, hb2, F2, hs2, hD2, hr2, rest2⟩ := hr
  exact ⟨D, left, ⟨⟨es, clock, eb.trans hb, q⟩, hD.has, hD.at', hD.key, hD.num⟩, ⟨es2, clock2, since, sn, c0, eb.trans hb2, F2, hs2, hD2, er.trans hr2, rest2⟩, rest⟩
/-- All blocks but one are as they were. -/
def But (w w' : World) (m : Nat) : Prop := ∀ k, k < w.heap.size → k ≠ m → w'.heap[k]? = w.heap[k]?
theorem But.of {w a b : World} {m : Nat} (h : Low w a) (ht : a.mapTurned b m) : But w b m := by
  obtain ⟨es, cl, es', cl', hb, rfl⟩ := ht
  intro k hk hne
  rw [← h.2.2.2 k hk]
  exact ChangeMaps.heap_setBlock_other hb _ hne
theorem But.of_grown {w b : World} {m : Nat} (ht : w.grownBy b (some m)) : But w b m := fun k hk hne => ht.block k hk (by simpa using hne)
theorem Low.of_range {w a b : World} {m : Nat} (h : Low w a) (ht : a.grownBy b (some m)) (hm : w.heap.size ≤ m) : Low w b :=
  ⟨ht.os.trans h.1, ht.output.trans h.2.1, Nat.le_trans h.2.2.1 ht.size, fun k hk => (ht.block k (Nat.lt_of_lt_of_le hk h.2.2.1) (by simp; omega)).trans (h.2.2.2 k hk)⟩
set_option maxHeartbeats 1600000 in
theorem step_c (f : Us → Option Value) (g : Us → List Us) (w : World) (b n : Nat) (hM : MapAt keyUs w b n f) (hR : RowsAt w f g) : Calls Tryz.prog 45 #[.map (some b)] w (StepP f g w) := by
  have hmm := @run_makeMap Tryz.prog
  have HM := Lib.hid hM
  have HR := Lib.hid hR
  clear hM hR
  go_enter Tryz.func45, Tryz.ntmps45
  go_wp2_with (first
    | (at_range; refine at_rangeM rfl _ _ rfl keyedUs Tryz.underlying68 rfl (HM.out.block ((Gr.alloc (Gr.refl w) _).low.2.2.2 _ HM.out.lt)) ?_; intro w1 cnt0 R1 G1 S1))
  have hsz : (w.alloc (Obj.map #[] 0)).heap.size = w.heap.size + 1 := by simp
  rw [hsz] at R1
  have HR1 := Lib.hid R1
  have M1 : MapAt keyUs w1 w.heap.size 0 (cntV []) := ((MapAt.made keyUs w).block (G1.block _ (by simp) (by simp))).congr fun _ => rfl
  have HM1 := Lib.hid M1
  have HL1 := Lib.hid (show Low w w1 from by
    have := (Gr.alloc (Gr.refl w) (.map #[] 0)).low
    exact ⟨G1.os.trans this.1, G1.output.trans this.2.1, Nat.le_trans this.2.2.1 G1.size, fun k hk => (G1.block k (Nat.lt_of_lt_of_le hk this.2.2.1) (by simp)).trans (this.2.2.2 k hk)⟩)
  have hbw := HM.out.lt
  clear R1 M1 G1 S1
  go_frame
  rw [hsz]
  clear hsz
  go_loopg [11] cnt0 (fun gk _ wr => ∃ (seen : List Us) (cnt m : Nat), cnt ≤ gk ∧ Hid (RangeAt keyUs wr b (w.heap.size + 1) n f seen cnt) ∧ Hid (Low w wr) ∧ m ≤ (seen.flatMap g).length ∧ Hid (MapAt keyUs wr w.heap.size m (cntV (seen.flatMap g))))
  case atStart => exact ⟨[], cnt0, 0, Nat.le_refl _, HR1, HL1, Nat.le_refl _, HM1⟩
  case round =>
    clear HR1 HL1 HM1
    obtain ⟨seen, cnt, m, hck, RR, LL, hm, MM⟩ := hrel
    go_wp2_with (at_next; go_loud (refine at_nextM rfl _ rfl keyedUs (fun c : Option Addr × Nat × Nat => .slice c.1 c.2.1 c.2.2) (fun u v hv => by obtain ⟨ao, c, rfl, _⟩ := HR.out.row u v hv; exact ⟨(ao, _, c), rfl⟩) rfl RR.out ?_ ?_))
    · intro hall
      go_wp2_with fail
      go_ret
      obtain ⟨_, _, _, _, h1, h2, _⟩ := RR.out
      exact ⟨_, m, seen, rfl, Nat.le_refl _, h1, fun a => ⟨h2 a, hall a⟩, Nat.le_trans hm (HR.out.few seen h1 h2), MM.out, LL.out⟩
    · intro u ao ln cp w2 cnt2 hfu hns R2 hlt2 G2 S2 hen
      have hW := HR.out.row u _ hfu
      obtain ⟨ao', cp', hv, ⟨hl1, hl2⟩, hx⟩ := hW
      injection hv with hv1 hv2 hv3
      subst hv1 hv2 hv3
      have HX := Lib.hid hx
      have HN := Lib.hid hns
      have HF := Lib.hid hfu
      have HR2 := Lib.hid R2
      have HL2 := Lib.hid (LL.out.of_range G2 (by simp))
      have HM2 := Lib.hid (MM.out.block (But.of_grown G2 _ MM.out.lt (by simp)))
      clear hx hns hfu R2 G2 S2
      go_wp2_with fail
      go_loopg [17] (g u).length (fun gj vj wr => ∃ (j m' : Nat), vj = .int .i64 (j : Int) ∧ j ≤ (g u).length ∧ (g u).length - j ≤ gj ∧ Hid (RangeAt keyUs wr b (w.heap.size + 1) n f (seen ++ [u]) cnt2) ∧ Hid (Low w wr) ∧ m' ≤ (seen.flatMap g).length + j ∧ Hid (MapAt keyUs wr w.heap.size m' (cntV (seen.flatMap g ++ (g u).take j))))
      case atStart => exact ⟨0, m, rfl, Nat.zero_le _, Nat.le_refl _, HR2, HL2, by omega, Lib.hid (by rw [List.take_zero, List.append_nil]; exact HM2.out)⟩
      case round =>
        clear HR2 HL2 HM2
        obtain ⟨j, m', rfl, hj, hgj, RJ, LJ, hm', MJ0⟩ := hrel
        obtain ⟨L, hL⟩ : ∃ L, Hid (L = seen.flatMap g ++ (g u).take j) := ⟨_, Lib.hid rfl⟩
        have MJ := Lib.hid (show MapAt keyUs wr w.heap.size m' (cntV L) by rw [hL.out]; exact MJ0.out)
        clear MJ0
        by_cases hlt : j < (g u).length
        · have zl : (j : Int) < ((g u).length : Int) := by omega
          obtain ⟨pb, po, rfl, hcs⟩ := HX.out j hlt
          obtain ⟨e0, e1⟩ := cells2 (LJ.out.cells hcs)
          clear hcs
          obtain ⟨p, hp⟩ : ∃ p, p = (g u)[j] := ⟨_, rfl⟩
          have HT := Lib.hid (show (g u).take (j + 1) = (g u).take j ++ [p] by rw [hp, List.take_succ_eq_append_getElem hlt])
          rw [← hp] at e0 e1
          clear hp
          have LW : Low wr (wr.alloc (.cells #[.string p.t, .string p.i] 24)).drew := (Gr.drew (Gr.alloc (Gr.refl wr) _)).low
          have M0 : MapAt keyUs (wr.alloc (.cells #[.string p.t, .string p.i] 24)).drew w.heap.size m' (cntV L) := MJ.out.block (LW.2.2.2 _ MJ.out.lt)
          have hnd : (seen ++ [u]).Nodup ∧ ∀ a ∈ seen ++ [u], (f a).isSome = true := by
            obtain ⟨_, _, _, _, h1, h2, _⟩ := RJ.out
            exact ⟨h1, h2⟩
          have hfew := HR.out.few (seen ++ [u]) hnd.1 hnd.2
          rw [List.flatMap_append, List.length_append] at hfew
          simp only [List.flatMap_cons, List.flatMap_nil, List.append_nil] at hfew
          have hLl : L.length ≤ 100000 := by rw [hL.out, List.length_append, List.length_take]; omega
          clear hnd
          obtain ⟨v0, st, w3, hent, hlk3, ht3, hst⟩ := M0.entry lawUs Tryz.underlying83 zeroI (by unfold maxLen; omega) p
          have hlk0 := M0.look keyedUs Tryz.underlying83 (zeroI _) p
          rw [cntV_get] at hlk0 hlk3
          obtain ⟨q, hq⟩ : ∃ q, q = L.count p := ⟨_, rfl⟩
          rw [← hq] at hlk0 hlk3
          have HQ := Lib.hid hq
          have hql : q ≤ 100000 := by rw [hq]; exact Nat.le_trans List.count_le_length hLl
          clear hq
          obtain ⟨w4, hst4, M4, ht4⟩ := hst (.int .i64 ((q : Int) + 1))
          have hqw : IntKind.wrap .i64 ((q : Int) + 1) = (q : Int) + 1 := by rw [IntKind.wrap_i64]; omega
          have HM4 := Lib.hid M4
          have HT4 := Lib.hid ht4
          clear M4 ht4 hst M0 ht3
          simp only [keyUs, usV] at hent hlk3 hlk0
          simp only [goInt] at hst4 hent
          go_wp2_with fail
          go_region
          all_goals
            go_wp2_with fail
            go_roundg ((g u).length - (j + 1))
            case measure => omega
            case rel =>
              have hb3 := But.of (Gr.refl (wr.alloc (.cells #[.string p.t, .string p.i] 24)).drew).low HT4.out
              refine ⟨j + 1, m' + 1, by go_num, by omega, by omega, Lib.hid (RJ.out.block ?_ ?_), Lib.hid ((LJ.out.trans LW).turned HT4.out (Nat.le_refl _)), by omega, Lib.hid ?_⟩
              · rw [hb3 _ (Nat.lt_of_lt_of_le RJ.out.lt.2.1 LW.2.2.1) (by omega), LW.2.2.2 _ RJ.out.lt.2.1]
              · rw [hb3 _ (Nat.lt_of_lt_of_le RJ.out.lt.1 LW.2.2.1) (by omega), LW.2.2.2 _ RJ.out.lt.1]
              · have hLL : seen.flatMap g ++ (g u).take (j + 1) = L ++ [p] := by rw [HT.out, hL.out, List.append_assoc]
                rw [hLL, cntV_more, ← HQ.out]
                exact HM4.out
        · have zl : ¬ (j : Int) < ((g u).length : Int) := by omega
          go_wp2_with fail
          go_roundg cnt2
          case measure => omega
          case rel =>
            have hjl : j = (g u).length := by omega
            refine ⟨seen ++ [u], cnt2, m', Nat.le_refl _, RJ, LJ, ?_, Lib.hid ?_⟩
            · rw [List.flatMap_append, List.length_append]; simp only [List.flatMap_cons, List.flatMap_nil, List.append_nil]; omega
            · have hLL : (seen ++ [u]).flatMap g = L := by rw [hL.out, hjl, List.take_length]; simp [List.flatMap_append]
              rw [hLL]; exact MJ.out
end Go.Proofs.YtmkillbanmbafaaGreat
