/- 'm[k] += x' on a map by keys of one's own: the entry, the look behind it, the store into it. Condition: the key's type is one that the library knows (by its elder law). -/
import Derived.Test.YtijjbfdbhfjfmaaMapW
import Derived.WideKeyEntry
namespace Go.Proofs.Ytijjbfdbhfjfmaa
open Go.RowKit Go.Maps Go.ChangeShapes Go.WideShapes Go.MapKept Go.ChangeMaps Go.WideElems
open Go.WideMaps (KeyLaw)
section
variable {P : Program} {k : TypeId} {α : Type}
theorem entry_runs {w : World} {t e : TypeId} {R : Value → Option (DataW Value × List MemPlace)} {b : Nat} {es : Array MapEntry} {clock : Nat} (K : KeyLaw P k) (ht : P.underlying t = some (.map k e)) {z : Value} (hz : ∀ u : World, (zeroValue e).run P u = .ok z u) (hb : w.heap[b]? = some (.map es clock)) (F : Fit P k R es clock)
    {key : Value} {kl : Lit} (hkey : keyOf P k key = some kl) :
    (∃ v1, (Instr.mapEntry t (.map (some b)) key).run P w = .ok v1 (setBlock w b (.map (es.push ⟨key, z, clock⟩) (clock + 1))) ∧ (Instr.mapUpdate t (.map (some b)) key z).run P w = .ok () (setBlock w b (.map (es.push ⟨key, z, clock⟩) (clock + 1))) ∧ (Instr.lookup t (.map (some b)) key false).run P w = .ok z w) ∨
    (∃ v1, (Instr.mapEntry t (.map (some b)) key).run P w = .ok v1 (setBlock w b (.map es clock))) := by
  rcases K.find w hkey es.toList F.keys with ⟨h1, h2⟩ | ⟨j, e0, h1, h2, h3⟩
  · refine .inl ⟨.tuple #[z, goInt clock], ?_, ?_, ?_⟩
    · simp [Instr.mapEntry, run_underlying ht, MapKept.run_getObj_map hb, K.check w false hkey, h1, hz, MapKept.run_setObj_map _ hb, Result.andThen, setBlock]
    · simp [Instr.mapUpdate, run_underlying ht, MapKept.run_getObj_map hb, K.check w false hkey, h1, MapKept.run_setObj_map _ hb, Result.andThen, setBlock]
    · simp [Instr.lookup, run_underlying ht, MapKept.run_getObj_map hb, K.check w es.isEmpty hkey, h1, hz, Result.andThen]
  · have hj : es[j]? = some e0 := by simpa using h2
    have hsame : es.modify j (fun e => { e with key := key }) = es := by
      apply Array.ext'
      rw [Array.toList_modify, modify_eq_set _ _ _ _ h2]
      have : ({ e0 with key := key } : MapEntry) = e0 := by rw [← h3]
      rw [this]
      exact set_self _ _ _ h2
    exact .inr ⟨.tuple #[e0.val, goInt e0.born], by simp [Instr.mapEntry, run_underlying ht, MapKept.run_getObj_map hb, K.check w false hkey, h1, hj, h3, K.stays w hkey, hsame, MapKept.run_setObj_map _ hb, Result.andThen, setBlock]⟩
theorem MapAt.entry [DecidableEq α] {F : KeyF P k α} {w : World} {b n : Nat} {f : α → Option Value} (h : MapAt F w b n f) (KL : KeyLaw P k) {t e : TypeId} (ht : P.underlying t = some (.map k e)) {z : Value} (hz : ∀ u : World, (zeroValue e).run P u = .ok z u) (hn : n < maxLen) (a : α) :
    ∃ (v0 : Value) (st : Nat) (w1 : World), (Instr.mapEntry t (.map (some b)) (F.kv a)).run P w = .ok (.tuple #[v0, goInt st]) w1 ∧ (Instr.lookup t (.map (some b)) (F.kv a) false).run P w1 = .ok ((f a).getD z) w1 ∧ w.mapTurned w1 b ∧
      ∀ val, ∃ w2, (Instr.entryStore t (.map (some b)) (goInt st) val).run P w1 = .ok () w2 ∧ MapAt F w2 b (n + 1) (updF f a (some val)) ∧ w.mapTurned w2 b := by
  have K : Keyed P k := Keyed.of_law KL
  have h0 := h
  obtain ⟨D, hD⟩ := h
  obtain ⟨es, clock, hb, Fi, _⟩ := hD.owns
  obtain ⟨v0, st, es1, clock1, hent, _, hst⟩ := entry_then_store KL ht hz hb Fi (F.ok a)
  have hb1 : (setBlock w b (.map es1 clock1)).heap[b]? = some (.map es1 clock1) := heap_setBlock_same hb _
  have t1 : w.mapTurned (setBlock w b (.map es1 clock1)) b := ⟨es, clock, es1, clock1, hb, rfl⟩
  refine ⟨v0, st, _, hent, ?_, t1, fun val => ?_⟩
  · rcases entry_runs KL ht hz hb Fi (F.ok a) with ⟨v1, g1, g2, g3⟩ | ⟨v1, g1⟩
    · rw [hent] at g1
      simp only [Result.ok.injEq] at g1
      obtain ⟨w', hrun, hm, _⟩ := h0.store K ht hn a z
      rw [g2] at hrun
      simp only [Result.ok.injEq, true_and] at hrun
      have h3 := h0.look K ht (hz w) a
      rw [g3] at h3
      simp only [Result.ok.injEq, and_true] at h3
      rw [g1.2, hrun, hm.look K ht (hz _) a, ← h3]
      unfold updF
      simp
    · rw [hent] at g1
      simp only [Result.ok.injEq] at g1
      have hm : MapAt F (setBlock w b (.map es1 clock1)) b n f := by
        rw [g1.2]
        exact h0.block (by rw [heap_setBlock_same hb, hb])
      exact hm.look K ht (hz _) a
  · obtain ⟨es', clock', r1, r2⟩ := hst _ val hb1
    obtain ⟨w', hrun, hm, _⟩ := h0.store K ht hn a val
    rw [r2] at hrun
    simp only [Result.ok.injEq, true_and] at hrun
    refine ⟨_, r1, hm.block ?_, t1.trans ⟨es1, clock1, es', clock', hb1, rfl⟩⟩
    rw [← hrun, heap_setBlock_same hb1, heap_setBlock_same hb]
end
end Go.Proofs.Ytijjbfdbhfjfmaa
