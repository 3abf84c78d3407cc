/- Rows of types, and of attributes, that a call makes itself; slices.Clone of them. No condition. -/
import Derived.Test.YtijjbfdbhfjfmaaTyM
import Derived.Test.YtijjbfdbhfjfmaaClone
import Derived.Shelf.SlicesE.Clone
namespace Go.Proofs.Ytijjbfdbhfjfmaa
open Go.RowKit
structure Te where
  t : T
  pe : Option Addr
  ce : Nat
  pv : Option Addr
  cv : Nat
def Te.e (p : Te) : Value := .slice p.pe p.t.l.length p.ce
def Te.v (p : Te) : Value := .slice p.pv p.t.ats.length p.cv
def encT (p : Te) : List Value := tcs p.t p.e p.v
theorem encT_len (p : Te) : (encT p).length = 4 := rfl
theorem encT_one (p : Te) : ∀ u ∈ encT p, u.oneCell' = true := by
  intro u hu
  simp only [encT, tcs, Te.e, Te.v, List.mem_cons, List.not_mem_nil, or_false] at hu
  rcases hu with rfl | rfl | rfl | rfl <;> rfl
def TeOk (A : Nat → Prop) (w : World) (n : Nat) (p : Te) : Prop := RT A w n p.t p.e p.v
structure Ae where
  x : At
  pe : Option Addr
  ce : Nat
  pv : Option Addr
  cv : Nat
def Ae.e (p : Ae) : Value := .slice p.pe (aty p.x).l.length p.ce
def Ae.v (p : Ae) : Value := .slice p.pv (aty p.x).ats.length p.cv
def encA (p : Ae) : List Value := acs p.x p.e p.v
theorem encA_len (p : Ae) : (encA p).length = 6 := rfl
theorem encA_one (p : Ae) : ∀ u ∈ encA p, u.oneCell' = true := by
  intro u hu
  simp only [encA, acs, Ae.e, Ae.v, List.mem_cons, List.not_mem_nil, or_false] at hu
  rcases hu with rfl | rfl | rfl | rfl | rfl | rfl <;> rfl
def AeOk (A : Nat → Prop) (w : World) (n : Nat) (p : Ae) : Prop := (an p.x).size ≤ 9223372036854775807 ∧ RT A w n (aty p.x) p.e p.v
theorem t_info : (Try.prog.info? 55).map (fun i => (i.zero, i.size, i.bytes)) = some (some (.agg #[.int .i64 0, .string ⟨#[]⟩, .slice none 0 0, .slice none 0 0]), 4, 72) := by kernel_rfl
theorem a_info : (Try.prog.info? 76).map (fun i => (i.zero, i.size, i.bytes)) = some (some (.agg #[.string ⟨#[]⟩, .int .i64 0, .string ⟨#[]⟩, .slice none 0 0, .slice none 0 0, .bool false]), 6, 96) := by kernel_rfl
theorem flat_ones {α : Type} {enc : α → List Value} (h : ∀ x, ∀ u ∈ enc x, u.oneCell' = true) (l : List α) : ∀ u ∈ l.flatMap enc, u.oneCell' = true := fun u hu => by
  obtain ⟨x, _, hx⟩ := List.mem_flatMap.1 hu
  exact h x u hx
theorem flat_holds {α : Type} {enc : α → List Value} {k : Nat} (hk : ∀ x, (enc x).length = k) (h0 : 0 < k) {w : World} {b o : Nat} {l : List α} (h : ∀ j (hj : j < l.length), CellsAt w b (o + j * k) (enc l[j])) (j : Nat) (u : Value) (hu : (l.flatMap enc)[j]? = some u) : w.cell? ⟨b, o + j, none⟩ = some u := by
  have hj : j < l.length * k := by have := (List.getElem?_eq_some_iff.1 hu).1; rwa [flat_len hk] at this
  have hd : j / k < l.length := (Nat.div_lt_iff_lt_mul h0).2 hj
  have hm : j % k < k := Nat.mod_lt _ h0
  have he : j / k * k + j % k = j := by rw [Nat.mul_comm]; exact Nat.div_add_mod j k
  have := flat_at hk l (j / k) (j % k) hd hm
  rw [he] at this
  rw [this] at hu
  have := h (j / k) hd (j % k) u hu
  rwa [show o + j / k * k + j % k = o + j by omega] at this
/-- Such a row is a row of types. -/
theorem ownT_row {B n : Nat} {w : World} {v : Value} {ps : List Te} {A A' : Nat → Prop} (h : OwnR 55 4 encT B w v ps) (hp : ∀ p ∈ ps, TeOk A w n p) (hA : ∀ b, A b → A' b) (hv : ∀ g, v.ownBlock = some g → A' g) : RL A' w n (ps.map (·.t)) v := by
  obtain ⟨ao, cap, rfl, h1, h2, h3⟩ := h.shape
  refine ⟨ao, cap, by rw [List.length_map], ⟨by rw [List.length_map]; exact h1, h2⟩, ?_⟩
  rcases h3 with h0 | ⟨g, rfl, hb, hg⟩
  · exact .inl (by rw [h0]; rfl)
  · refine .inr ⟨g, 0, rfl, hv g rfl, fun j hj => ?_⟩
    have hj' : j < ps.length := by simpa using hj
    refine ⟨ps[j].e, ps[j].v, fun c u hu => ?_, ?_⟩
    · have hc : c < 4 := by have := (List.getElem?_eq_some_iff.1 hu).1; simpa [tcs] using this
      rw [Nat.zero_add, OwnR.cell encT_len h j c hj' hc]
      rw [List.getElem_map] at hu
      exact hu
    · rw [List.getElem_map]
      exact RT.imp (hp ps[j] (List.getElem_mem hj')) hA
theorem ownA_row {B n : Nat} {w : World} {v : Value} {ps : List Ae} {A A' : Nat → Prop} (h : OwnR 76 6 encA B w v ps) (hp : ∀ p ∈ ps, AeOk A w n p) (hA : ∀ b, A b → A' b) (hv : ∀ g, v.ownBlock = some g → A' g) : RAs A' w n (ps.map (·.x)) v := by
  obtain ⟨ao, cap, rfl, h1, h2, h3⟩ := h.shape
  refine ⟨ao, cap, by rw [List.length_map], ⟨by rw [List.length_map]; exact h1, h2⟩, ?_⟩
  rcases h3 with h0 | ⟨g, rfl, hb, hg⟩
  · exact .inl (by rw [h0]; rfl)
  · refine .inr ⟨g, 0, rfl, hv g rfl, fun j hj => ?_⟩
    have hj' : j < ps.length := by simpa using hj
    refine ⟨ps[j].e, ps[j].v, fun c u hu => ?_, ?_⟩
    · have hc : c < 6 := by have := (List.getElem?_eq_some_iff.1 hu).1; simpa [acs] using this
      rw [Nat.zero_add, OwnR.cell encA_len h j c hj' hc]
      rw [List.getElem_map] at hu
      exact hu
    · rw [List.getElem_map]
      exact ⟨(hp ps[j] (List.getElem_mem hj')).1, RT.imp (hp ps[j] (List.getElem_mem hj')).2 hA⟩
/-- What lies in a row, each with its slices. -/
theorem els {α β : Type} (f : β → α) (enc : α → Value → Value → List Value) (enc' : β → List Value) (R : α → Value → Value → Prop) (Ok : β → Prop) (w : World) (b : Nat) (sz : Nat)
    (hx : ∀ x e v, R x e v → ∃ y, f y = x ∧ Ok y ∧ enc' y = enc x e v) : ∀ (l : List α) (o : Nat), (∀ j (hj : j < l.length), ∃ e v, CellsAt w b (o + j * sz) (enc l[j] e v) ∧ R l[j] e v) →
    ∃ ps : List β, ps.map f = l ∧ (∀ p ∈ ps, Ok p) ∧ ∀ j (hj : j < ps.length), CellsAt w b (o + j * sz) (enc' ps[j])
  | [], _, _ => ⟨[], rfl, (fun p hp => by simp at hp), fun j hj => absurd hj (Nat.not_lt_zero _)⟩
  | x :: l, o, h => by
    obtain ⟨e, v, hc, hr⟩ := h 0 (by simp)
    obtain ⟨y, hy, hok, hen⟩ := hx _ _ _ hr
    obtain ⟨ps, h1, h2, h3⟩ := els f enc enc' R Ok w b sz hx l (o + sz) fun j hj => by
      obtain ⟨e, v, hc, hr⟩ := h (j + 1) (by simpa using hj)
      exact ⟨e, v, by rwa [show o + sz + j * sz = o + (j + 1) * sz by rw [Nat.add_mul]; omega], hr⟩
    refine ⟨y :: ps, by rw [List.map_cons, h1, hy]; rfl, fun p hp => ?_, fun j hj => ?_⟩
    · rcases List.mem_cons.1 hp with rfl | hp
      · exact hok
      · exact h2 p hp
    · match j, hj with
      | 0, _ => rw [List.getElem_cons_zero, hen]; exact hc
      | j + 1, hj =>
        have := h3 j (by simpa using hj)
        rw [show o + (j + 1) * sz = o + sz + j * sz by rw [Nat.add_mul]; omega]; exact this
theorem elsT {A : Nat → Prop} {w : World} {n b o : Nat} {l : List T} (h : ∀ j (hj : j < l.length), ∃ e v, CellsAt w b (o + j * 4) (tcs l[j] e v) ∧ RT A w n l[j] e v) : ∃ ps : List Te, ps.map (·.t) = l ∧ (∀ p ∈ ps, TeOk A w n p) ∧ ∀ j (hj : j < ps.length), CellsAt w b (o + j * 4) (encT ps[j]) :=
  els (fun p : Te => p.t) tcs encT (RT A w n) (TeOk A w n) w b 4 (fun x e v hr => by
    obtain ⟨pe, ce, pv, cv, rfl, rfl, -⟩ := hr.sl
    exact ⟨⟨x, pe, ce, pv, cv⟩, rfl, hr, rfl⟩) l o h
theorem elsA {A : Nat → Prop} {w : World} {n b o : Nat} {l : List At} (h : ∀ j (hj : j < l.length), ∃ e v, CellsAt w b (o + j * 6) (acs l[j] e v) ∧ (an l[j]).size ≤ 9223372036854775807 ∧ RT A w n (aty l[j]) e v) : ∃ ps : List Ae, ps.map (·.x) = l ∧ (∀ p ∈ ps, AeOk A w n p) ∧ ∀ j (hj : j < ps.length), CellsAt w b (o + j * 6) (encA ps[j]) :=
  els (fun p : Ae => p.x) acs encA (fun x e v => (an x).size ≤ 9223372036854775807 ∧ RT A w n (aty x) e v) (AeOk A w n) w b 6 (fun x e v hr => by
    obtain ⟨pe, ce, pv, cv, rfl, rfl, -⟩ := hr.2.sl
    exact ⟨⟨x, pe, ce, pv, cv⟩, rfl, hr, rfl⟩) l o h
set_option maxRecDepth 100000 in
theorem cloneT_c {A : Nat → Prop} {n : Nat} (l : List T) (w : World) (v : Value) (hn : l.length ≤ 1000000) (h : RL A w n l v) : Calls Try.prog 85 #[v] w fun e w' => ∃ v' ps, e = .returned v' ∧ ps.map (·.t) = l ∧ (∀ p ∈ ps, TeOk A w n p) ∧ OwnR 55 4 encT w.heap.size w' v' ps ∧ Low w w' := by
  obtain ⟨ao, c, rfl, ⟨h1, h2⟩, h3⟩ := h
  rcases Nat.eq_zero_or_pos l.length with h0 | h0
  · obtain rfl := List.eq_nil_of_length_eq_zero h0
    clear h3
    simp only [List.length_nil]
    have q22 : ∀ (w : World) (a : Option Addr) (n c n' c' : Nat), (binOp .eql 53 (.slice a n c) (.slice none n' c')).run Try.prog w = .ok (.bool a.isNone) w := fun w a n c n' c' => Lib.run_eql_slice_nil w _ _ a n c n' c' Try.underlying53
    cases ao with
    | none =>
      go_enter Try.func85, Try.ntmps85
      go_wp2_with fail
      go_ret
      exact ⟨_, [], rfl, rfl, (fun p hp => by simp at hp), OwnR.nil _ _ _ _ _, Low.refl _⟩
    | some a =>
      go_enter Try.func85, Try.ntmps85
      go_wp2_with fail
      go_ret
      exact ⟨_, [], rfl, rfl, (fun p hp => by simp at hp), World.ownsRow_made w #[] 0 (Nat.le_refl _) (Nat.zero_le _) (by simp), low_new (Low.refl w) _⟩
  · rcases h3 with h3 | ⟨b, o, rfl, -, hf⟩
    · rw [h3] at h0; exact absurd h0 (Nat.lt_irrefl _)
    obtain ⟨ps, hp1, hp2, hp3⟩ := elsT hf
    have hl : ps.length = l.length := by rw [← hp1, List.length_map]
    obtain ⟨i0, hi, hz0, hz1, hz2⟩ := info_parts t_info
    have hcon := AnyE.slices_Clone Try.cloneT i0 _ 4 72 hi hz0 hz1 hz2 rfl (by decide) Try.sizeOf55 b o l.length c (ps.flatMap encT) w (by rw [flat_len encT_len, hl]) (by unfold maxLen; omega) (by omega) (fun j u hu => flat_holds encT_len (by decide) hp3 j u hu) (flat_ones encT_one ps)
    change Calls Try.prog 85 _ _ _ at hcon
    refine hcon.mono ?_
    rintro e w' ⟨v', rfl, hO, -, hB⟩
    rw [← hl] at hO
    exact ⟨_, ps, rfl, hp1, hp2, hO, Low.of_below hB⟩
end Go.Proofs.Ytijjbfdbhfjfmaa
