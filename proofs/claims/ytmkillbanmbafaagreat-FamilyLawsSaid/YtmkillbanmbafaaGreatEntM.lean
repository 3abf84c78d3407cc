/- Entities in memory, as what they are; what the walks of their parents want. No condition. -/
import Derived.Test.YtmkillbanmbafaaGreatRoundW
import Derived.Test.YtmkillbanmbafaaGreatAbvs
import Derived.Test.YtmkillbanmbafaaGreatEnts
namespace Go.Proofs.YtmkillbanmbafaaGreat
open Go.RowKit Go.Sort Go.Maps
/-- A slice of names, in blocks that may be. -/
def UsIn (A : Nat → Prop) (w : World) (r : Value) (l : List Us) : Prop :=
  ∃ ao c, r = .slice ao l.length c ∧ (l.length ≤ c ∧ c ≤ 9223372036854775807) ∧ ∀ j (hj : j < l.length), ∃ b o, ao = some ⟨b, o, none⟩ ∧ A b ∧ CellsAt w b (o + j * 2) l[j].cs
theorem UsIn.any {A : Nat → Prop} {w : World} {r : Value} {l : List Us} (h : UsIn A w r l) : UsAt w r l := by
  obtain ⟨ao, c, rfl, hc, hx⟩ := h
  refine ⟨ao, c, rfl, hc, fun j hj => ?_⟩
  obtain ⟨b, o, rfl, _, hs⟩ := hx j hj
  exact ⟨b, o, rfl, hs⟩
theorem UsIn.to {A A' : Nat → Prop} {w w' : World} (h : ∀ b, A b → b < w.heap.size → A' b ∧ w'.heap[b]? = w.heap[b]?) {r : Value} {l : List Us} (hu : UsIn A w r l) : UsIn A' w' r l := by
  obtain ⟨ao, c, rfl, hc, hx⟩ := hu
  refine ⟨ao, c, rfl, hc, fun j hj => ?_⟩
  obtain ⟨b, o, rfl, ha, hs⟩ := hx j hj
  have hb := cell_lt (hs 0 _ rfl)
  exact ⟨b, o, rfl, (h b ha hb).1, fun k v hv => cell_to (hs k v hv) fun k => (h b ha k).2⟩
theorem UsIn.low {A : Nat → Prop} {w w' : World} {r : Value} {l : List Us} (h : UsIn A w r l) (hl : Low w w') : UsIn A w' r l := h.to fun b ha hb => ⟨ha, hl.2.2.2 b hb⟩
theorem UsIn.mono {A A' : Nat → Prop} {w : World} {r : Value} {l : List Us} (h : UsIn A w r l) (hA : ∀ b, A b → A' b) : UsIn A' w r l := h.to fun b ha _ => ⟨hA b ha, rfl⟩
theorem UsIn.shape {A : Nat → Prop} {w : World} {ao : Option Addr} {n c : Nat} {l : List Us} (h : UsIn A w (.slice ao n c) l) : n = l.length ∧ l.length ≤ c ∧ c ≤ 9223372036854775807 := by
  obtain ⟨ao, c, hv, hc, -⟩ := h
  simp only [Value.slice.injEq] at hv
  obtain ⟨-, rfl, rfl⟩ := hv
  exact ⟨rfl, hc⟩
/-- A row of the call's own is such a slice. -/
theorem OwnR.usIn {B : Nat} {w : World} {v : Value} {l : List Us} (h : OwnU B w v l) {A : Nat → Prop} (hA : ∀ g, v.ownBlock = some g → A g) : UsIn A w v l := by
  obtain ⟨ao, cap, rfl, h1, h2, h3⟩ := h.shape
  refine ⟨ao, cap, rfl, ⟨h1, h2⟩, fun j hj => ?_⟩
  rcases h3 with h0 | ⟨g, rfl, -, -⟩
  · rw [h0] at hj; simp at hj
  · refine ⟨g, 0, rfl, hA g rfl, fun c u hu => ?_⟩
    have hc : c < 2 := by have := (List.getElem?_eq_some_iff.1 hu).1; simpa [Us.cs] using this
    rw [Nat.zero_add, OwnR.cell encU_len h j c hj hc]
    exact hu
/-- An entity, and where its rows lie. -/
structure Ee where
  e : En
  ap : Option Addr
  cp : Nat
  ai : Option Addr
  ci : Nat
  an : Option Addr
  cn : Nat
def Ee.sh (q : Ee) : Sh := ⟨q.e.u, q.ap, q.e.ps.length, q.cp, q.e.a.h, q.ai, q.e.a.l.length, q.ci, q.an, q.e.a.ns.length, q.cn⟩
def Ee.it (q : Ee) : Value := .slice q.ai q.e.a.l.length q.ci
def Ee.nm (q : Ee) : Value := .slice q.an q.e.a.ns.length q.cn
def EeOk (A : Nat → Prop) (w : World) (q : Ee) : Prop := UsIn A w q.sh.p q.e.ps ∧ Rep A w q.e.a q.it q.nm
theorem EeOk.to {A A' : Nat → Prop} {w w' : World} (h : ∀ b, A b → b < w.heap.size → A' b ∧ w'.heap[b]? = w.heap[b]?) {q : Ee} (hq : EeOk A w q) : EeOk A' w' q := ⟨hq.1.to h, Rep.to h _ hq.2⟩
theorem EeOk.low {A : Nat → Prop} {w w' : World} {q : Ee} (hq : EeOk A w q) (hl : Low w w') : EeOk A w' q := hq.to fun b ha hb => ⟨ha, hl.2.2.2 b hb⟩
/-- A slice of entities. -/
def EtAt (w : World) (r : Value) (qs : List Ee) : Prop := EsAt w r (qs.map Ee.sh) ∧ ∀ q ∈ qs, EeOk (fun _ => True) w q
theorem EtAt.low {w w' : World} {r : Value} {qs : List Ee} (h : EtAt w r qs) (hl : Low w w') : EtAt w' r qs := ⟨h.1.low hl, fun q hq => (h.2 q hq).low hl⟩
theorem EtAt.at {w : World} {r : Value} {qs : List Ee} (h : EtAt w r qs) : ∃ ao c, r = .slice ao qs.length c ∧ (qs.length ≤ c ∧ c ≤ 9223372036854775807) ∧ ∀ j (hj : j < qs.length), ∃ b o, ao = some ⟨b, o, none⟩ ∧ CellsAt w b (o + j * 11) qs[j].sh.cs := by
  obtain ⟨ao, c, rfl, hc, hx⟩ := h.1
  refine ⟨ao, c, by rw [List.length_map], by rwa [List.length_map] at hc, fun j hj => ?_⟩
  obtain ⟨b, o, rfl, hs⟩ := hx j (by rwa [List.length_map])
  rw [List.getElem_map] at hs
  exact ⟨b, o, rfl, hs⟩
def ensOf (qs : List Ee) : List En := qs.map (·.e)
theorem find_ee (qs : List Ee) (x : Us) : ∃ o : Option Ee, (qs.map Ee.sh).find? (fun s => decide (s.u = x)) = o.map Ee.sh ∧ fstE (ensOf qs) x = o.map (·.e) ∧ ∀ q, o = some q → q ∈ qs := by
  refine ⟨qs.find? fun q => decide (q.e.u = x), ?_, ?_, fun q h => List.mem_of_find?_eq_some h⟩
  · rw [List.find?_map]; rfl
  · unfold fstE ensOf
    rw [List.find?_map]; rfl
theorem fS_names {qs : List Ee} {x : Us} : (fS (qs.map Ee.sh) x).isSome = true ↔ x ∈ namesE (ensOf qs) := by
  rw [← fst_some]
  obtain ⟨o, h1, h2, -⟩ := find_ee qs x
  unfold fS
  rw [h1, h2]
  cases o <;> simp
theorem fS_row {qs : List Ee} {w : World} {A : Nat → Prop} (hok : ∀ q ∈ qs, EeOk A w q) {x : Us} {v : Value} (h : fS (qs.map Ee.sh) x = some v) : UsAt w v (PE (ensOf qs) x) := by
  obtain ⟨o, h1, h2, h3⟩ := find_ee qs x
  unfold fS at h
  unfold PE
  rw [h2]
  rw [h1] at h
  cases o with
  | none => simp at h
  | some q =>
    simp at h
    subst h
    exact (hok q (h3 q rfl)).1.any
/-- Few entities, of few parents each. -/
def FewE (l : List En) : Prop := l.length ≤ 300 ∧ ∀ e ∈ l, e.ps.length ≤ 300
theorem PE_len {l : List En} (h : FewE l) (x : Us) : (PE l x).length ≤ 300 := by
  unfold PE
  cases e : fstE l x with
  | none => simp
  | some q => exact h.2 q (List.mem_of_find?_eq_some e)
theorem flat_le {l : List En} (h : FewE l) : ∀ seen : List Us, (seen.flatMap (PE l)).length ≤ seen.length * 300
  | [] => by simp
  | x :: r => by
    have h1 := PE_len h x
    have h2 := flat_le h r
    rw [List.flatMap_cons, List.length_append, List.length_cons]
    omega
theorem rowsE {qs : List Ee} {w : World} {A : Nat → Prop} (hok : ∀ q ∈ qs, EeOk A w q) (hf : FewE (ensOf qs)) : RowsAt w (fS (qs.map Ee.sh)) (PE (ensOf qs)) where
  row := fun u v h => fS_row hok h
  few := fun seen hn hs => by
    have h1 := seen_len hn hs
    have h2 := flat_le hf seen
    have h3 := hf.1
    rw [List.length_map] at h1
    unfold ensOf at h3
    rw [List.length_map] at h3
    omega
/-- Round's word by memory is that by what the entities are. -/
theorem round_word (qs : List Ee) : (∃ a, Way (fun x y => (fS (qs.map Ee.sh) x).isSome = true ∧ y ∈ PE (ensOf qs) x ∧ (fS (qs.map Ee.sh) y).isSome = true) a a) ↔ RoundE (ensOf qs) := by
  unfold RoundE
  have e : (fun x y => (fS (qs.map Ee.sh) x).isSome = true ∧ y ∈ PE (ensOf qs) x ∧ (fS (qs.map Ee.sh) y).isSome = true) = stepE (ensOf qs) := by
    funext x y
    unfold stepE
    rw [fS_names, fS_names]
  rw [e]
theorem rround_word (qs : List Ee) : (∃ i, ∃ hi : i < (qs.map Ee.sh).length, findI (qs.map Ee.sh) (qs.map Ee.sh)[i].u = (i : Int) ∧ Way (stepS (qs.map Ee.sh) (fun i => ((ensOf qs)[i]?.map (·.ps)).getD [])) i i) ↔ RoundE (ensOf qs) := by
  rw [← round_word]
  refine (rnd_same fun i hi hf => ?_).symm
  have hi' : i < qs.length := by simpa using hi
  have hu : ∀ j (hj : j < qs.length), (qs.map Ee.sh)[j]'(by simpa using hj) = qs[j].sh := fun j hj => List.getElem_map _
  have h1 : idxS (qs.map Ee.sh) (qs.map Ee.sh)[i].u = i := by
    unfold findI at hf
    split at hf <;> omega
  unfold idxS at h1
  rw [List.findIdx_map] at h1
  have h2 : fstE (ensOf qs) (qs.map Ee.sh)[i].u = some qs[i].e := by
    unfold fstE ensOf
    rw [List.find?_map]
    have : qs.find? ((fun e : En => decide (e.u = (qs.map Ee.sh)[i].u)) ∘ (·.e)) = some qs[i] := by
      rw [List.find?_eq_some_iff_getElem]
      refine ⟨by simp [Ee.sh], i, hi', rfl, fun j hj => ?_⟩
      have := List.not_of_lt_findIdx (p := (fun s : Sh => decide (s.u = (qs.map Ee.sh)[i].u)) ∘ Ee.sh) (xs := qs) (i := j) (by rw [h1]; exact hj)
      simp at this
      simp
      exact this
    rw [this]; rfl
  unfold PE
  rw [h2]
  simp [ensOf, hi']
end Go.Proofs.YtmkillbanmbafaaGreat
