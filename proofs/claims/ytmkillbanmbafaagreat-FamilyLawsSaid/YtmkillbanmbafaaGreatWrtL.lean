/- Being in goes over three; two that are in one another are the same; what is told is new memory. No condition. -/
import Derived.Test.YtmkillbanmbafaaGreatFAbvL
namespace Go.Proofs.YtmkillbanmbafaaGreat
open Go.RowKit Go.Sort Go.Maps
theorem canD_lens {v : V} (h : (canD v).1 = 0) (hk : v.h.k = 6) : (canD v).2.ns.length = (canD v).2.l.length := by
  have e := (canD_ok h).1
  rw [e] at h ⊢
  have hv := can_v v
  rw [hk] at hv
  simp only [show ¬ ((6 : Int) = 1) by decide, show ¬ ((6 : Int) = 2) by decide, show ¬ ((6 : Int) = 3) by decide, show ¬ ((6 : Int) = 4) by decide, show ¬ ((6 : Int) = 5) by decide, if_false, if_true] at hv
  rw [hv] at h ⊢
  by_cases h1 : v.ns.length = v.l.length
  · rw [if_pos h1] at h ⊢
    by_cases h2 : (canL v.l).1 = 0
    · rw [if_pos h2] at h ⊢
      unfold recC at h ⊢
      by_cases h3 : v.ns.Nodup
      · rw [if_pos h3]
        show (List.map _ _).length = (List.map _ _).length
        rw [List.length_map, List.length_map]
      · rw [if_neg h3] at h; simp at h
    · rw [if_neg h2] at h; exact absurd h h2
  · rw [if_neg h1] at h; simp at h
theorem can_lens {l : List En} (h : (canE canD l).1 = 0) : ∀ e ∈ (canE canD l).2, e.a.ns.length = e.a.l.length := by
  obtain ⟨-, hn, he, -⟩ := canE_ok.1 h
  rw [canE_val h]
  have hn' : (namesE (l.map (oneE canD))).Nodup := by rw [names_one]; exact hn
  intro e hm
  obtain ⟨d, hd, rfl⟩ := List.mem_map.1 ((mem_en hn').1 hm)
  have h0 := he d hd
  unfold errE at h0
  by_cases k1 : d.a.h.k ≠ 6
  · rw [if_pos k1] at h0; exact absurd h0 (by decide)
  · rw [if_neg k1] at h0
    by_cases k2 : (canD d.a).1 ≠ 0
    · rw [if_pos k2] at h0; exact absurd h0 k2
    · exact canD_lens (by omega) (by omega)
theorem in_trans {c : List En} {a b d : Us} (h1 : inB c a b = true) (h2 : inB c b d = true) : inB c a d = true := by
  rw [inB_iff] at h1 h2 ⊢
  rcases h1 with rfl | h1
  · exact h2
  · rcases h2 with rfl | h2
    · exact .inr h1
    · exact .inr (h1.trans h2)
theorem in_anti {c : List En} (hr : ¬ RoundE c) {a b : Us} (h1 : inB c a b = true) (h2 : inB c b a = true) : a = b := by
  rw [inB_iff] at h1 h2
  rcases h1 with h1 | h1
  · exact h1
  · rcases h2 with h2 | h2
    · exact h2.symm
    · exact absurd ⟨_, h1.trans h2⟩ hr
/-! ### what may be written -/
structure WrB (w : World) (b m : Nat) : Prop where
  cell : ∀ o, o < m → (w.cell? ⟨b, o, none⟩).isSome = true
  free : ∀ o, w.frozen? ⟨b, o, none⟩ = false
theorem WrB.get {w : World} {b m o : Nat} (h : WrB w b m) (ho : o < m) : ∃ v, w.cell? ⟨b, o, none⟩ = some v := Option.isSome_iff_exists.1 (h.cell o ho)
theorem WrB.set {w : World} {b m : Nat} (h : WrB w b m) (a : Addr) (v : Value) : WrB (w.setCell a v) b m where
  cell := fun o ho => by
    by_cases e : a = ⟨b, o, none⟩
    · subst e
      rw [World.cell?_setCell_same' _ _ _ (h.cell o ho)]; rfl
    · rw [World.cell?_setCell_other _ _ _ _ e]; exact h.cell o ho
  free := fun o => by rw [World.frozen?_setCell]; exact h.free o
theorem WrB.low {w w' : World} {b m : Nat} (h : WrB w b m) (l : Low w w') (hb : b < w.heap.size) : WrB w' b m where
  cell := fun o ho => by rw [l.cell hb]; exact h.cell o ho
  free := fun o => by rw [l.frozen hb]; exact h.free o
theorem ownR_wr {α : Type} {e : TypeId} {k : Nat} {enc : α → List Value} (hk : ∀ x, (enc x).length = k) (hk0 : 0 < k) {B : Nat} {w : World} {v : Value} {l : List α} (h : OwnR e k enc B w v l) {g : Nat} (hg : v.ownBlock = some g) : WrB w g (l.length * k) := by
  obtain ⟨ao, cap, rfl, -, -, h3⟩ := h.shape
  rcases h3 with h0 | ⟨g', rfl, -, -⟩
  · refine ⟨fun o ho => by rw [h0] at ho; simp at ho, fun o => ?_⟩
    obtain ⟨-, h2⟩ := h
    rcases h2 with ⟨hv, -⟩ | ⟨g2, c2, cur, hv, -, hb, -⟩
    · rw [hv] at hg; simp [Value.ownBlock] at hg
    · rw [hv] at hg
      simp [Value.ownBlock] at hg
      subst hg
      simp [World.frozen?, hb]
  · have hgg : g' = g := by simpa [Value.ownBlock] using hg
    subst hgg
    refine ⟨fun o ho => ?_, fun o => h.frozen o⟩
    have hd : o / k < l.length := (Nat.div_lt_iff_lt_mul hk0).2 ho
    have := OwnR.cell hk h (o / k) (o % k) hd (Nat.mod_lt _ hk0)
    rw [show o / k * k + o % k = o from Nat.div_add_mod' o k] at this
    rw [this, List.getElem?_eq_getElem (by rw [hk]; exact Nat.mod_lt _ hk0)]; rfl
/-- An entity's rows may be written. -/
structure WOk (w : World) (q : Ee) : Prop where
  ps : 0 < q.e.ps.length → ∃ g, q.ap = some ⟨g, 0, none⟩ ∧ WrB w g (q.e.ps.length * 2)
  its : 0 < q.e.a.l.length → ∃ g, q.ai = some ⟨g, 0, none⟩ ∧ WrB w g (q.e.a.l.length * 8)
  nms : 0 < q.e.a.ns.length → ∃ g, q.an = some ⟨g, 0, none⟩ ∧ WrB w g (q.e.a.ns.length * 1)
theorem WOk.set {w : World} {q : Ee} (h : WOk w q) (a : Addr) (v : Value) : WOk (w.setCell a v) q :=
  ⟨fun k => by obtain ⟨g, h1, h2⟩ := h.ps k; exact ⟨g, h1, h2.set a v⟩, fun k => by obtain ⟨g, h1, h2⟩ := h.its k; exact ⟨g, h1, h2.set a v⟩, fun k => by obtain ⟨g, h1, h2⟩ := h.nms k; exact ⟨g, h1, h2.set a v⟩⟩
theorem own_at {α : Type} {e : TypeId} {k : Nat} {enc : α → List Value} {B : Nat} {w : World} {ao : Option Addr} {n c : Nat} {l : List α} (h : OwnR e k enc B w (.slice ao n c) l) (h0 : 0 < l.length) : ∃ g, ao = some ⟨g, 0, none⟩ ∧ B ≤ g ∧ g < w.heap.size := by
  obtain ⟨a, cap, hv, -, -, h3⟩ := h.shape
  simp only [Value.slice.injEq] at hv
  obtain ⟨rfl, -, -⟩ := hv
  rcases h3 with h3 | ⟨g, h3, h4, h5⟩
  · rw [h3] at h0; simp at h0
  · exact ⟨g, h3, h4, h5⟩
theorem WrE.wok {B : Nat} {w : World} {v : Value} {q : Ee} (h : WrE B w v q) : WOk w q := by
  obtain ⟨els, h1, h2⟩ := h.its
  refine ⟨fun k => ?_, fun k => ?_, fun k => ?_⟩
  · obtain ⟨g, e, -, -⟩ := own_at h.ps k
    exact ⟨g, e, ownR_wr encU_len (by decide) h.ps (by rw [e]; rfl)⟩
  · obtain ⟨g, e, -, -⟩ := own_at h2 (by omega)
    exact ⟨g, e, by rw [← h1]; exact ownR_wr encV_len (by decide) h2 (by rw [e]; rfl)⟩
  · obtain ⟨g, e, -, -⟩ := own_at h.nms k
    exact ⟨g, e, ownR_wr encN_len (by decide) h.nms (by rw [e]; rfl)⟩
/-- Where an entity's rows lie. -/
def Away (B g : Nat) (q : Ee) : Prop := ∀ b o, (q.ap = some ⟨b, o, none⟩ ∨ q.ai = some ⟨b, o, none⟩ ∨ q.an = some ⟨b, o, none⟩) → B ≤ b ∧ b ≠ g
/-- The heads of the rows of entities that lie in a row. -/
def Heads (w : World) (g : Nat) (ms : List Ee) : Prop := ∀ j (hj : j < ms.length), w.cell? ⟨g, j * 11 + 2, none⟩ = some (.slice ms[j].ap ms[j].e.ps.length ms[j].cp) ∧ w.cell? ⟨g, j * 11 + 9, none⟩ = some (.slice ms[j].ai ms[j].e.a.l.length ms[j].ci) ∧ w.cell? ⟨g, j * 11 + 10, none⟩ = some (.slice ms[j].an ms[j].e.a.ns.length ms[j].cn)
theorem Heads.set {w : World} {g : Nat} {ms : List Ee} (h : Heads w g ms) (b o : Nat) (v : Value) (hb : b ≠ g ∨ o % 11 = 1) : Heads (w.setCell ⟨b, o, none⟩ v) g ms := fun j hj => by
  obtain ⟨h1, h2, h3⟩ := h j hj
  have key : ∀ r, r ≠ 1 → r < 11 → (⟨g, j * 11 + r, none⟩ : Addr) ≠ ⟨b, o, none⟩ := fun r hr hr2 e => by
    simp only [Addr.mk.injEq] at e
    obtain ⟨e1, e2, -⟩ := e
    rcases hb with hb | hb
    · exact hb e1.symm
    · omega
  rw [World.cell?_setCell_other _ _ _ _ (key 2 (by decide) (by decide)).symm, World.cell?_setCell_other _ _ _ _ (key 9 (by decide) (by decide)).symm, World.cell?_setCell_other _ _ _ _ (key 10 (by decide) (by decide)).symm]
  exact ⟨h1, h2, h3⟩
end Go.Proofs.YtmkillbanmbafaaGreat
