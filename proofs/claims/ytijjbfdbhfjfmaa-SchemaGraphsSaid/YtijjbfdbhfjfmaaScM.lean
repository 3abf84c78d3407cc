/- Names, rows of names, maps of rows, schemas in memory. No condition. -/
import Derived.Test.YtijjbfdbhfjfmaaRows
import Derived.Test.YtijjbfdbhfjfmaaGrA
import Derived.Test.YtijjbfdbhfjfmaaTyM
import Derived.Test.YtijjbfdbhfjfmaaGrM
import Derived.StringKeys
namespace Go.Proofs.Ytijjbfdbhfjfmaa
open Go.RowKit Go.Maps
set_option linter.unusedVariables false
theorem lawNm : WideMaps.KeyLaw Try.prog 9 := WideMaps.string_law Try.underlying9
theorem keyedNm : Keyed Try.prog 9 := Keyed.of_law lawNm
def keyNm : KeyF Try.prog 9 Nm := ⟨fun x => .string x.s, fun x => .string x.s.data.toList, fun x => WideMaps.keyOf_string_mk Try.underlying9 (by have := x.hs; unfold maxLen; omega), fun a b h => Nm.ext' (by simpa using h)⟩
theorem zeroNs (w : World) : (zeroValue 30).run Try.prog w = .ok (.slice none 0 0) w := by kernel_rfl
/-- A row, each with what belongs to it. -/
def RowB {α β : Type} (w : World) (sz : Nat) (enc : α → β → List Value) (R : World → α → β → Prop) (l : List α) (it : Value) : Prop :=
  ∃ p cap, it = .slice p l.length cap ∧ (l.length ≤ cap ∧ cap ≤ 9223372036854775807) ∧ ∀ j (hj : j < l.length), ∃ b o e, p = some ⟨b, o, none⟩ ∧ CellsAt w b (o + j * sz) (enc l[j] e) ∧ R w l[j] e
theorem RowB.low {α β : Type} {w w' : World} {sz : Nat} {enc : α → β → List Value} {R : World → α → β → Prop} {l : List α} {it : Value} (h : RowB w sz enc R l it) (hl : Low w w') (hR : ∀ x e, R w x e → R w' x e) : RowB w' sz enc R l it := by
  obtain ⟨p, cap, rfl, hc, hx⟩ := h
  refine ⟨p, cap, rfl, hc, fun j hj => ?_⟩
  obtain ⟨b, o, e, rfl, h1, h2⟩ := hx j hj
  exact ⟨b, o, e, rfl, h1.low hl, hR _ _ h2⟩
theorem RowB.sl {α β : Type} {w : World} {sz : Nat} {enc : α → β → List Value} {R : World → α → β → Prop} {l : List α} {it : Value} (h : RowB w sz enc R l it) : ∃ p c, it = .slice p l.length c ∧ l.length ≤ c ∧ c ≤ 9223372036854775807 := by
  obtain ⟨p, cap, rfl, ⟨h1, h2⟩, -⟩ := h
  exact ⟨p, cap, rfl, h1, h2⟩
theorem RowB.at {α β : Type} {w : World} {sz : Nat} {enc : α → β → List Value} {R : World → α → β → Prop} {l : List α} {p : Option Addr} {m c : Nat} (h : RowB w sz enc R l (.slice p m c)) {j : Nat} (hj : j < l.length) :
    ∃ b o e, p = some ⟨b, o, none⟩ ∧ CellsAt w b (o + j * sz) (enc l[j] e) ∧ R w l[j] e := by
  obtain ⟨q, cap, hq, -, hr⟩ := h
  simp only [Value.slice.injEq] at hq
  obtain ⟨rfl, -, -⟩ := hq
  exact hr j hj
theorem RowB.nil {α β : Type} (w : World) (sz : Nat) (enc : α → β → List Value) (R : World → α → β → Prop) : RowB w sz enc R [] (.slice none 0 0) := ⟨none, 0, rfl, ⟨by simp, by simp⟩, fun j hj => absurd hj (Nat.not_lt_zero _)⟩
/-! ### Names -/
def encNm (x : Nm) (_ : Unit) : List Value := [.string x.s]
def NsAt (w : World) (l : List Nm) (v : Value) : Prop := RowB w 1 encNm (fun _ _ _ => True) l v
theorem NsAt.low {w w' : World} {l : List Nm} {v : Value} (h : NsAt w l v) (hl : Low w w') : NsAt w' l v := RowB.low h hl fun _ _ _ => trivial
theorem NsAt.at {w : World} {l : List Nm} {p : Option Addr} {m c : Nat} (h : NsAt w l (.slice p m c)) {j : Nat} (hj : j < l.length) : ∃ b o, p = some ⟨b, o, none⟩ ∧ w.cell? ⟨b, o + j, none⟩ = some (.string l[j].s) := by
  obtain ⟨b, o, e, rfl, h1, h2⟩ := RowB.at h hj
  refine ⟨b, o, rfl, ?_⟩
  have := h1 0 _ rfl
  rwa [Nat.mul_one, Nat.add_zero] at this
theorem NsAt.nil (w : World) : NsAt w [] (.slice none 0 0) := RowB.nil _ _ _ _
/-! ### Types of entities, actions -/
structure Et where
  nm : Nm
  ins : List Nm
  ats : List At
structure Ac where
  nm : Nm
  ins : List Nm
  ps : List Nm
  rs : List Nm
  ats : List At
def Et.r (x : Et) : Nm × List Nm := (x.nm, x.ins)
def Ac.r (x : Ac) : Nm × List Nm := (x.nm, x.ins)
def encEt (x : Et) (e : Value × Value) : List Value := [.string x.nm.s, e.1, e.2]
def encAc (x : Ac) (e : (Value × Value) × Value × Value) : List Value := [.string x.nm.s, e.1.1, e.1.2, e.2.1, e.2.2]
def EtOk (n : Nat) (w : World) (x : Et) (e : Value × Value) : Prop := NsAt w x.ins e.1 ∧ RAs (fun _ => True) w n x.ats e.2
def AcOk (n : Nat) (w : World) (x : Ac) (e : (Value × Value) × Value × Value) : Prop := NsAt w x.ins e.1.1 ∧ NsAt w x.ps e.1.2 ∧ NsAt w x.rs e.2.1 ∧ RAs (fun _ => True) w n x.ats e.2.2
theorem EtOk.low {n : Nat} {w w' : World} {x : Et} {e : Value × Value} (h : EtOk n w x e) (hl : Low w w') : EtOk n w' x e := ⟨h.1.low hl, RAs.low h.2 hl⟩
theorem AcOk.low {n : Nat} {w w' : World} {x : Ac} {e : (Value × Value) × Value × Value} (h : AcOk n w x e) (hl : Low w w') : AcOk n w' x e := ⟨h.1.low hl, h.2.1.low hl, h.2.2.1.low hl, RAs.low h.2.2.2 hl⟩
def EtsAt (n : Nat) (w : World) (l : List Et) (v : Value) : Prop := RowB w 3 encEt (EtOk n) l v
def AcsAt (n : Nat) (w : World) (l : List Ac) (v : Value) : Prop := RowB w 5 encAc (AcOk n) l v
theorem EtsAt.low {n : Nat} {w w' : World} {l : List Et} {v : Value} (h : EtsAt n w l v) (hl : Low w w') : EtsAt n w' l v := RowB.low h hl fun _ _ k => k.low hl
theorem AcsAt.low {n : Nat} {w w' : World} {l : List Ac} {v : Value} (h : AcsAt n w l v) (hl : Low w w') : AcsAt n w' l v := RowB.low h hl fun _ _ k => k.low hl
theorem RAs.sl {A : Nat → Prop} {w : World} {n : Nat} {l : List At} {v : Value} (h : RAs A w n l v) : ∃ p c, v = .slice p l.length c ∧ l.length ≤ c ∧ c ≤ 9223372036854775807 := RowR.sl h
theorem EtsAt.at {n : Nat} {w : World} {l : List Et} {p : Option Addr} {m c : Nat} (h : EtsAt n w l (.slice p m c)) {j : Nat} (hj : j < l.length) :
    ∃ b o pi ci pa ca, p = some ⟨b, o, none⟩ ∧ w.cell? ⟨b, o + j * 3, none⟩ = some (.string l[j].nm.s) ∧ w.cell? ⟨b, o + j * 3 + 1, none⟩ = some (.slice pi l[j].ins.length ci) ∧ w.cell? ⟨b, o + j * 3 + 2, none⟩ = some (.slice pa l[j].ats.length ca) ∧
      NsAt w l[j].ins (.slice pi l[j].ins.length ci) ∧ RAs (fun _ => True) w n l[j].ats (.slice pa l[j].ats.length ca) ∧ l[j].ins.length ≤ ci ∧ ci ≤ 9223372036854775807 ∧ l[j].ats.length ≤ ca ∧ ca ≤ 9223372036854775807 := by
  obtain ⟨b, o, ⟨e1, e2⟩, rfl, h1, h2, h3⟩ := RowB.at h hj
  obtain ⟨pi, ci, hi, z1, z2⟩ := RowB.sl h2
  obtain ⟨pa, ca, ha, z3, z4⟩ := RowR.sl h3
  simp only at hi ha h2 h3
  subst hi ha
  exact ⟨b, o, pi, ci, pa, ca, rfl, h1 0 _ rfl, h1 1 _ rfl, h1 2 _ rfl, h2, h3, z1, z2, z3, z4⟩
theorem AcsAt.at {n : Nat} {w : World} {l : List Ac} {p : Option Addr} {m c : Nat} (h : AcsAt n w l (.slice p m c)) {j : Nat} (hj : j < l.length) :
    ∃ b o pi ci pp cp pr cr pa ca, p = some ⟨b, o, none⟩ ∧ w.cell? ⟨b, o + j * 5, none⟩ = some (.string l[j].nm.s) ∧ w.cell? ⟨b, o + j * 5 + 1, none⟩ = some (.slice pi l[j].ins.length ci) ∧ w.cell? ⟨b, o + j * 5 + 2, none⟩ = some (.slice pp l[j].ps.length cp) ∧
      w.cell? ⟨b, o + j * 5 + 3, none⟩ = some (.slice pr l[j].rs.length cr) ∧ w.cell? ⟨b, o + j * 5 + 4, none⟩ = some (.slice pa l[j].ats.length ca) ∧
      NsAt w l[j].ins (.slice pi l[j].ins.length ci) ∧ NsAt w l[j].ps (.slice pp l[j].ps.length cp) ∧ NsAt w l[j].rs (.slice pr l[j].rs.length cr) ∧ RAs (fun _ => True) w n l[j].ats (.slice pa l[j].ats.length ca) ∧
      (l[j].ins.length ≤ ci ∧ ci ≤ 9223372036854775807) ∧ (l[j].ps.length ≤ cp ∧ cp ≤ 9223372036854775807) ∧ (l[j].rs.length ≤ cr ∧ cr ≤ 9223372036854775807) ∧ (l[j].ats.length ≤ ca ∧ ca ≤ 9223372036854775807) := by
  obtain ⟨b, o, ⟨⟨e1, e2⟩, e3, e4⟩, rfl, h1, h2, h3, h4, h5⟩ := RowB.at h hj
  obtain ⟨pi, ci, hi, z1, z2⟩ := RowB.sl h2
  obtain ⟨pp, cp, hp, z5, z6⟩ := RowB.sl h3
  obtain ⟨pr, cr, hr, z7, z8⟩ := RowB.sl h4
  obtain ⟨pa, ca, ha, z3, z4⟩ := RowR.sl h5
  simp only at hi ha hp hr h2 h3 h4 h5
  subst hi ha hp hr
  exact ⟨b, o, pi, ci, pp, cp, pr, cr, pa, ca, rfl, h1 0 _ rfl, h1 1 _ rfl, h1 2 _ rfl, h1 3 _ rfl, h1 4 _ rfl, h2, h3, h4, h5, ⟨z1, z2⟩, ⟨z5, z6⟩, ⟨z7, z8⟩, ⟨z3, z4⟩⟩
/-! ### Maps of rows -/
/-- Block b is a map of the first row of each name. -/
def InsAt (w : World) (b n : Nat) (g : Gra) : Prop := ∃ f, MapAt keyNm w b n f ∧ (∀ x, (f x).isSome = (look g x).isSome) ∧ ∀ x v, f x = some v → NsAt w (nxt g x) v
theorem InsAt.low {w w' : World} {b n : Nat} {g : Gra} (h : InsAt w b n g) (hl : Low w w') : InsAt w' b n g := by
  obtain ⟨f, h1, h2, h3⟩ := h
  exact ⟨f, h1.block (hl.2.2.2 _ h1.lt), h2, fun x v hv => (h3 x v hv).low hl⟩
theorem InsAt.lt {w : World} {b n : Nat} {g : Gra} (h : InsAt w b n g) : b < w.heap.size := by
  obtain ⟨f, h1, -⟩ := h
  exact h1.lt
theorem InsAt.made (w : World) : InsAt (w.alloc (.map #[] 0)) w.heap.size 0 [] := ⟨_, MapAt.made keyNm w, fun x => rfl, by intro x v hv; cases hv⟩
theorem InsAt.mono {w : World} {b n m : Nat} {g : Gra} (h : InsAt w b n g) (hm : n ≤ m) : InsAt w b m g := by
  obtain ⟨f, h1, h2⟩ := h
  exact ⟨f, h1.mono hm, h2⟩
/-- A row that is looked up. -/
theorem InsAt.get {w : World} {b n : Nat} {g : Gra} (h : InsAt w b n g) (x : Nm) : ∃ f p c, MapAt keyNm w b n f ∧ (f x).getD (.slice none 0 0) = .slice p (nxt g x).length c ∧ NsAt w (nxt g x) (.slice p (nxt g x).length c) ∧ (f x).isSome = (look g x).isSome ∧ (nxt g x).length ≤ c ∧ c ≤ 9223372036854775807 := by
  obtain ⟨f, h1, h2, h3⟩ := h
  cases hf : f x with
  | none =>
    have hl : look g x = none := by
      have := h2 x
      rw [hf] at this
      cases e : look g x with
      | none => rfl
      | some v => rw [e] at this; simp at this
    have hn : nxt g x = [] := by unfold nxt; rw [hl]; rfl
    refine ⟨f, none, 0, h1, by rw [hf, hn]; rfl, by rw [hn]; exact NsAt.nil w, h2 x, by rw [hn]; simp, by omega⟩
  | some v =>
    have h4 := h3 x v hf
    obtain ⟨p, c, rfl, z1, z2⟩ := RowB.sl h4
    exact ⟨f, p, c, h1, by rw [hf]; rfl, h4, h2 x, z1, z2⟩
theorem Low.turned {w a b : World} {k : Nat} (h : Low w a) (ht : a.mapTurned b k) (hk : w.heap.size ≤ k) : Low w b := by
  obtain ⟨es, cl, es', cl', hb, rfl⟩ := ht
  refine ⟨h.1, h.2.1, ?_, fun j hj => ?_⟩
  · have := h.2.2.1
    simp [ChangeMaps.setBlock]
    exact this
  · rw [← h.2.2.2 j hj]
    exact ChangeMaps.heap_setBlock_other hb _ (by omega)
theorem NsAt.blk {w w' : World} {l : List Nm} {v : Value} {m : Nat} (h : NsAt w l v) (hb : ∀ k, k < w.heap.size → k ≠ m → w'.heap[k]? = w.heap[k]?) (hm : ∃ es cl, w.heap[m]? = some (.map es cl)) : NsAt w' l v := by
  obtain ⟨p, cap, rfl, hc, hx⟩ := h
  refine ⟨p, cap, rfl, hc, fun j hj => ?_⟩
  obtain ⟨b, o, e, rfl, h1, h2⟩ := hx j hj
  refine ⟨b, o, e, rfl, fun c v hv => ?_, trivial⟩
  have h3 := h1 c v hv
  refine (World.cell?_of_block (hb b (cell_lt h3) fun e2 => ?_)).trans h3
  obtain ⟨es, cl, hq⟩ := hm
  subst e2
  unfold World.cell? at h3
  simp [hq] at h3
end Go.Proofs.Ytijjbfdbhfjfmaa
