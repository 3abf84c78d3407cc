/- A type among a law's arguments is a tree that lies in memory. No condition. -/
import Derived.Test.YtijjbfdbhfjfmaaTyM
import Derived.Deep.Slices
import Derived.ChangeArms
import Derived.DataReads
namespace Go.Proofs.Ytijjbfdbhfjfmaa
open Go.RowKit Go.ChangeShapes Go.WideShapes Go.Deep
variable {H : Type} {enc : TypeId × Value → H} {w : World} {spare : Nat → Bool} {held : Bool}
theorem cofT : Try.prog.cellsOf 55 = 4 := by kernel_rfl
theorem cofA : Try.prog.cellsOf 76 = 6 := by kernel_rfl
theorem cofI : Try.prog.cellsOf 3 = 1 := by kernel_rfl
theorem cofB : Try.prog.cellsOf 4 = 1 := by kernel_rfl
theorem cofS : Try.prog.cellsOf 9 = 1 := by kernel_rfl
theorem cofLT : Try.prog.cellsOf 53 = 1 := by kernel_rfl
theorem cofLA : Try.prog.cellsOf 31 = 1 := by kernel_rfl
theorem addr_plain {a : Addr} {v : Value} (h : w.cell? (a.add 0) = some v) : ∃ b o, a = ⟨b, o, none⟩ := by
  have e : a.add 0 = a := by simp [Addr.add]
  rw [e] at h
  obtain ⟨b, o, s⟩ := a
  cases s with
  | none => exact ⟨b, o, rfl⟩
  | some s => unfold World.cell? at h; split at h <;> simp at h
theorem RT.mono {A : Nat → Prop} {n m : Nat} {t : T} {e v : Value} (h : RT A w n t e v) (hm : n ≤ m) : RT A w m t e v := RT.re (h.dp.le hm) h
instance : Inhabited T := ⟨noT⟩
/-- A slice of rows of one's own. -/
theorem row_of {α : Type} [Inhabited α] {fuel sz : Nat} {ty el : TypeId} {cs : List Value} {x : DataW H × List MemPlace} {base : Nat} (hu : Try.prog.underlying ty = some (.slice el)) (hsz : Try.prog.cellsOf el = sz) (encX : α → Value → Value → List Value) (R : α → Value → Value → Prop)
    (hlen : ∀ x e v, (encX x e v).length = sz) (hf0 : ∀ x e v, ∃ u, (encX x e v)[0]? = some u)
    (ih : ∀ m, m < fuel → ∀ (cs : List Value) (x : DataW H × List MemPlace), DataW.trod enc Try.prog w base spare held m el cs = some x → ∃ (y : α) (e v : Value), cs = encX y e v ∧ R y e v)
    (h : DataW.trod enc Try.prog w base spare held fuel ty cs = some x) : ∃ (l : List α) (it : Value), cs = [it] ∧ RowR (fun _ => True) w sz encX R l it := by
  rcases DataW.trod_slice hu h with ⟨rfl, -⟩ | ⟨a, len, cap, elems, rest, n2, hn2, rfl, -, -, hlc, hcm, hel, hall, -, -⟩
  · exact ⟨[], _, rfl, none, 0, rfl, ⟨by simp, by simp⟩, .inl rfl⟩
  · rw [hsz] at hall
    have hx : ∀ j, j < len → ∃ z : α × Value × Value, (∀ c u, (encX z.1 z.2.1 z.2.2)[c]? = some u → w.cell? (a.add (j * sz + c)) = some u) ∧ R z.1 z.2.1 z.2.2 := fun j hj => by
      have h1 := hall j hj
      rw [List.getElem?_eq_getElem (by omega)] at h1
      obtain ⟨c, h2, h3⟩ := Option.bind_eq_some_iff.1 h1
      obtain ⟨y, e, v, rfl, hr⟩ := ih n2 (by omega) _ _ h3
      obtain ⟨-, -, hat⟩ := World.cells?_some h2
      refine ⟨(y, e, v), fun c u hu => ?_, hr⟩
      have h8 : c < sz := by have := (List.getElem?_eq_some_iff.1 hu).1; rwa [hlen] at this
      have := hat c h8
      rw [add_add] at this
      rw [this]; exact hu
    haveI : Inhabited (α × Value × Value) := ⟨(default, .nilFunc, .nilFunc)⟩
    obtain ⟨f, hfz⟩ := choose_lt hx
    refine ⟨(List.range len).map fun j => (f j).1, _, rfl, some a, cap, by simp, ⟨by simp; exact hlc, by unfold maxLen at hcm; exact hcm⟩, ?_⟩
    rcases Nat.eq_zero_or_pos len with h0 | h0
    · exact .inl (by rw [h0]; rfl)
    · obtain ⟨u, hu⟩ := hf0 (f 0).1 (f 0).2.1 (f 0).2.2
      have ha := (hfz 0 h0).1 0 u hu
      rw [Nat.zero_mul, Nat.add_zero] at ha
      obtain ⟨bb, oo, rfl⟩ := addr_plain ha
      refine .inr ⟨bb, oo, rfl, trivial, fun j hj => ?_⟩
      have hj' : j < len := by simpa using hj
      refine ⟨(f j).2.1, (f j).2.2, fun c u hu => ?_, ?_⟩
      · have := (hfz j hj').1 c u (by simpa using hu)
        rw [Addr.add_lit] at this
        rw [Nat.add_assoc]; exact this
      · have := (hfz j hj').2
        simpa using this
set_option maxRecDepth 100000 in
theorem trod_ty {base : Nat} : ∀ (fuel : Nat) {cs : List Value} {x : DataW H × List MemPlace}, DataW.trod enc Try.prog w base spare held fuel 55 cs = some x → ∃ (t : T) (e v : Value), cs = tcs t e v ∧ RT (fun _ => True) w fuel t e v := by
  intro fuel
  induction fuel using Nat.strongRecOn with
  | _ fuel ih =>
    intro cs x h
    obtain ⟨xs, n, rfl, -, hlen, hxl, hf⟩ := DataW.trod_struct Try.underlying55 h
    rw [cofT] at hlen
    have hx4 : xs.length = 4 := hxl
    have get : ∀ i, i < 4 → ∃ y, xs[i]? = some y := fun i hi => ⟨xs[i]'(by omega), List.getElem?_eq_getElem (by omega)⟩
    match cs, hlen with
    | [c0, c1, c2, c3], _ =>
      obtain ⟨y0, g0⟩ := get 0 (by decide)
      obtain ⟨y1, g1⟩ := get 1 (by decide)
      obtain ⟨y2, g2⟩ := get 2 (by decide)
      obtain ⟨y3, g3⟩ := get 3 (by decide)
      have f0 : DataW.trod enc Try.prog w base spare held n 3 (([c0, c1, c2, c3].drop 0).take (Try.prog.cellsOf 3)) = some y0 := (hf 0 _ rfl).trans g0
      have f1 : DataW.trod enc Try.prog w base spare held n 9 (([c0, c1, c2, c3].drop 1).take (Try.prog.cellsOf 9)) = some y1 := (hf 1 _ rfl).trans g1
      have f2 : DataW.trod enc Try.prog w base spare held n 53 (([c0, c1, c2, c3].drop 2).take (Try.prog.cellsOf 53)) = some y2 := (hf 2 _ rfl).trans g2
      have f3 : DataW.trod enc Try.prog w base spare held n 31 (([c0, c1, c2, c3].drop 3).take (Try.prog.cellsOf 31)) = some y3 := (hf 3 _ rfl).trans g3
      rw [cofI] at f0
      rw [cofS] at f1
      rw [cofLT] at f2
      rw [cofLA] at f3
      obtain ⟨k, e0, -, -⟩ := DataW.trod_int Try.underlying3 f0
      obtain ⟨s, e1, -, hs⟩ := DataW.trod_string Try.underlying9 f1
      obtain ⟨l, e, e2, hl⟩ := row_of Try.underlying53 cofT tcs (RT (fun _ => True) w n) (fun _ _ _ => rfl) tcs_0 (fun m hm cs x hx => by
        obtain ⟨t, e, v, h1, h2⟩ := ih m (by omega) hx
        exact ⟨t, e, v, h1, h2.mono (by omega)⟩) f2
      obtain ⟨as', v, e3, ha⟩ := row_of Try.underlying31 cofA acs (fun x e v => (an x).size ≤ 9223372036854775807 ∧ RT (fun _ => True) w n (aty x) e v) (fun _ _ _ => rfl) acs_0 (fun m hm cs x hx => by
        obtain ⟨zs, n3, rfl, -, hlen, hzl, hz⟩ := DataW.trod_struct Try.underlying76 hx
        rw [cofA] at hlen
        have hz3 : zs.length = 3 := hzl
        match cs, hlen with
        | [d0, d1, d2, d3, d4, d5], _ =>
          have q0 : DataW.trod enc Try.prog w base spare held n3 9 (([d0, d1, d2, d3, d4, d5].drop 0).take (Try.prog.cellsOf 9)) = some _ := (hz 0 _ rfl).trans (List.getElem?_eq_getElem (by omega))
          have q1 : DataW.trod enc Try.prog w base spare held n3 55 (([d0, d1, d2, d3, d4, d5].drop 1).take (Try.prog.cellsOf 55)) = some _ := (hz 1 _ rfl).trans (List.getElem?_eq_getElem (by omega))
          have q2 : DataW.trod enc Try.prog w base spare held n3 4 (([d0, d1, d2, d3, d4, d5].drop 5).take (Try.prog.cellsOf 4)) = some _ := (hz 2 _ rfl).trans (List.getElem?_eq_getElem (by omega))
          rw [cofS] at q0
          rw [cofT] at q1
          rw [cofB] at q2
          obtain ⟨m1, r0, -, hm1⟩ := DataW.trod_string Try.underlying9 q0
          obtain ⟨t, e, v, r1, hr⟩ := ih n3 (by omega) q1
          obtain ⟨b, r2, -⟩ := DataW.trod_bool Try.underlying4 q2
          simp [tcs] at r0 r1 r2
          obtain ⟨r3, r4, r5, r6⟩ := r1
          subst r0 r2 r3 r4 r5 r6
          exact ⟨(m1, t, b), _, _, rfl, by unfold maxLen at hm1; exact hm1, hr.mono (by omega)⟩) f3
      simp at e0 e1 e2 e3
      subst e0 e1 e2 e3
      exact ⟨.mk k s l as', _, _, rfl, by unfold maxLen at hs; exact hs, hl, ha⟩
set_option maxRecDepth 100000 in
theorem open_ty {r : Reach} {base : Nat} {v : Value} {d : DataW H} {p : List MemPlace} (hv : Value.okWide Try.prog w r base 55 v) (h : DataW.Trod enc Try.prog w 0 spare held 55 v d p) : ∃ (n : Nat) (t : T) (e u : Value), v = tv t e u ∧ RT (fun _ => True) w n t e u := by
  obtain ⟨cs, rfl, -⟩ := okWide_struct Try.underlying55 hv
  obtain ⟨fuel, hf⟩ := h
  obtain ⟨x, it, nm, he, hr⟩ := trod_ty fuel hf
  refine ⟨fuel, x, it, nm, ?_, hr⟩
  have : cs = (tcs x it nm).toArray := by
    rw [← he]; simp [Value.cells]
  rw [this]; rfl
end Go.Proofs.Ytijjbfdbhfjfmaa
