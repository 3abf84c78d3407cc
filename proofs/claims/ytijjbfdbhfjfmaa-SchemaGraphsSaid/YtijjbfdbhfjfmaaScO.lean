/- A schema among a law's arguments lies in memory as rows. No condition. -/
import Derived.Test.YtijjbfdbhfjfmaaScM
import Derived.Test.YtijjbfdbhfjfmaaTyOp
namespace Go.Proofs.Ytijjbfdbhfjfmaa
open Go.RowKit Go.ChangeShapes Go.WideShapes Go.Deep
set_option linter.unusedVariables false
variable {H : Type} {enc : TypeId × Value → H} {w : World} {spare : Nat → Bool} {held : Bool} {base : Nat}
theorem cofN : Try.prog.cellsOf 30 = 1 := by kernel_rfl
theorem cofEt : Try.prog.cellsOf 33 = 3 := by kernel_rfl
theorem cofAc : Try.prog.cellsOf 37 = 5 := by kernel_rfl
theorem cofSc : Try.prog.cellsOf 25 = 2 := by kernel_rfl
theorem cofLE : Try.prog.cellsOf 22 = 1 := by kernel_rfl
theorem cofLC : Try.prog.cellsOf 23 = 1 := by kernel_rfl
instance : Inhabited Nm := ⟨⟨⟨#[]⟩, by decide⟩⟩
instance : Inhabited Et := ⟨⟨default, [], []⟩⟩
instance : Inhabited Ac := ⟨⟨default, [], [], [], []⟩⟩
/-- A slice of rows of one's own. -/
theorem rowB_of {α β : Type} [Inhabited α] [Inhabited β] {fuel sz : Nat} {ty el : TypeId} {cs : List Value} {x : DataW H × List MemPlace} (hu : Try.prog.underlying ty = some (.slice el)) (hsz : Try.prog.cellsOf el = sz) (encX : α → β → List Value) (R : World → α → β → Prop)
    (hlen : ∀ x e, (encX x e).length = sz) (hf0 : ∀ x e, ∃ u, (encX x e)[0]? = some u)
    (ih : ∀ m, m < fuel → ∀ (cs : List Value) (x : DataW H × List MemPlace), DataW.trod enc Try.prog w base spare held m el cs = some x → ∃ (y : α) (e : β), cs = encX y e ∧ R w y e)
    (h : DataW.trod enc Try.prog w base spare held fuel ty cs = some x) : ∃ (l : List α) (it : Value), cs = [it] ∧ RowB w sz encX R l it := by
  rcases DataW.trod_slice hu h with ⟨rfl, -⟩ | ⟨a, len, cap, elems, rest, n2, hn2, rfl, -, -, hlc, hcm, hel, hall, -, -⟩
  · exact ⟨[], _, rfl, RowB.nil _ _ _ _⟩
  · rw [hsz] at hall
    have hx : ∀ j, j < len → ∃ z : α × β, (∀ c u, (encX z.1 z.2)[c]? = some u → w.cell? (a.add (j * sz + c)) = some u) ∧ R w z.1 z.2 := fun j hj => by
      have h1 := hall j hj
      rw [List.getElem?_eq_getElem (by omega)] at h1
      obtain ⟨c, h2, h3⟩ := Option.bind_eq_some_iff.1 h1
      obtain ⟨y, e, rfl, hr⟩ := ih n2 (by omega) _ _ h3
      obtain ⟨-, -, hat⟩ := World.cells?_some h2
      refine ⟨(y, e), fun c u hu => ?_, hr⟩
      have h8 : c < sz := by have := (List.getElem?_eq_some_iff.1 hu).1; rwa [hlen] at this
      have := hat c h8
      rw [add_add] at this
      rw [this]; exact hu
    haveI : Inhabited (α × β) := ⟨(default, default)⟩
    obtain ⟨f, hfz⟩ := choose_lt hx
    refine ⟨(List.range len).map fun j => (f j).1, _, rfl, some a, cap, by simp, ⟨by simp; exact hlc, by unfold maxLen at hcm; exact hcm⟩, fun j hj => ?_⟩
    have hj' : j < len := by simpa using hj
    obtain ⟨u, hu⟩ := hf0 (f 0).1 (f 0).2
    have ha := (hfz 0 (by omega)).1 0 u hu
    rw [Nat.zero_mul, Nat.add_zero] at ha
    obtain ⟨bb, oo, rfl⟩ := addr_plain ha
    refine ⟨bb, oo, (f j).2, rfl, fun c u hu => ?_, ?_⟩
    · have := (hfz j hj').1 c u (by simpa using hu)
      rw [Addr.add_lit] at this
      rw [Nat.add_assoc]; exact this
    · have := (hfz j hj').2
      simpa using this
instance : Inhabited Value := ⟨.nilFunc⟩
theorem trod_ns {fuel : Nat} {cs : List Value} {x : DataW H × List MemPlace} (h : DataW.trod enc Try.prog w base spare held fuel 30 cs = some x) : ∃ (l : List Nm) (it : Value), cs = [it] ∧ NsAt w l it :=
  rowB_of Try.underlying30 cofS encNm (fun _ _ _ => True) (fun _ _ => rfl) (fun _ _ => ⟨_, rfl⟩) (fun m hm cs x hx => by
    obtain ⟨s, rfl, -, hs⟩ := DataW.trod_string Try.underlying9 hx
    exact ⟨⟨s, by unfold maxLen at hs; exact hs⟩, (), rfl, trivial⟩) h
set_option maxRecDepth 100000 in
theorem trod_as {fuel : Nat} {cs : List Value} {x : DataW H × List MemPlace} (h : DataW.trod enc Try.prog w base spare held fuel 31 cs = some x) : ∃ (l : List At) (it : Value), cs = [it] ∧ RAs (fun _ => True) w fuel l it := by
  obtain ⟨l, v, e3, ha⟩ := row_of Try.underlying31 cofA acs (fun x e v => (an x).size ≤ 9223372036854775807 ∧ RT (fun _ => True) w fuel (aty x) e v) (fun _ _ _ => rfl) acs_0 (fun m hm cs x hx => by
    obtain ⟨zs, n3, rfl, -, hlen, hzl, hz⟩ := DataW.trod_struct Try.underlying76 hx
    rw [cofA] at hlen
    have hz3 : zs.length = 3 := hzl
    match cs, hlen with
    | [d0, d1, d2, d3, d4, d5], _ =>
      have q0 : DataW.trod enc Try.prog w base spare held n3 9 (([d0, d1, d2, d3, d4, d5].drop 0).take (Try.prog.cellsOf 9)) = some _ := (hz 0 _ rfl).trans (List.getElem?_eq_getElem (by omega))
      have q1 : DataW.trod enc Try.prog w base spare held n3 55 (([d0, d1, d2, d3, d4, d5].drop 1).take (Try.prog.cellsOf 55)) = some _ := (hz 1 _ rfl).trans (List.getElem?_eq_getElem (by omega))
      have q2 : DataW.trod enc Try.prog w base spare held n3 4 (([d0, d1, d2, d3, d4, d5].drop 5).take (Try.prog.cellsOf 4)) = some _ := (hz 2 _ rfl).trans (List.getElem?_eq_getElem (by omega))
      rw [cofS] at q0
      rw [cofT] at q1
      rw [cofB] at q2
      obtain ⟨m1, r0, -, hm1⟩ := DataW.trod_string Try.underlying9 q0
      obtain ⟨t, e, v, r1, hr⟩ := trod_ty n3 q1
      obtain ⟨b, r2, -⟩ := DataW.trod_bool Try.underlying4 q2
      simp [tcs] at r0 r1 r2
      obtain ⟨r3, r4, r5, r6⟩ := r1
      subst r0 r2 r3 r4 r5 r6
      exact ⟨(m1, t, b), _, _, rfl, by unfold maxLen at hm1; exact hm1, hr.mono (by omega)⟩) h
  exact ⟨l, v, e3, ha⟩
theorem RAs.mono {n m : Nat} {l : List At} {v : Value} (h : RAs (fun _ => True) w n l v) (hm : n ≤ m) : RAs (fun _ => True) w m l v :=
  RowR.to acs_0 (fun b ha _ => ⟨ha, rfl⟩) (fun _ _ _ _ k => ⟨k.1, k.2.mono hm⟩) h
set_option maxRecDepth 100000 in
theorem trod_et {fuel : Nat} {cs : List Value} {x : DataW H × List MemPlace} (h : DataW.trod enc Try.prog w base spare held fuel 33 cs = some x) : ∃ (t : Et) (e : Value × Value), cs = encEt t e ∧ EtOk fuel w t e := by
  obtain ⟨xs, n, rfl, -, hlen, hxl, hf⟩ := DataW.trod_struct Try.underlying33 h
  rw [cofEt] at hlen
  have hx3 : xs.length = 3 := hxl
  match cs, hlen with
  | [c0, c1, c2], _ =>
    have f0 : DataW.trod enc Try.prog w base spare held n 9 (([c0, c1, c2].drop 0).take (Try.prog.cellsOf 9)) = some _ := (hf 0 _ rfl).trans (List.getElem?_eq_getElem (by omega))
    have f1 : DataW.trod enc Try.prog w base spare held n 30 (([c0, c1, c2].drop 1).take (Try.prog.cellsOf 30)) = some _ := (hf 1 _ rfl).trans (List.getElem?_eq_getElem (by omega))
    have f2 : DataW.trod enc Try.prog w base spare held n 31 (([c0, c1, c2].drop 2).take (Try.prog.cellsOf 31)) = some _ := (hf 2 _ rfl).trans (List.getElem?_eq_getElem (by omega))
    rw [cofS] at f0
    rw [cofN] at f1
    rw [cofLA] at f2
    obtain ⟨s, e0, -, hs⟩ := DataW.trod_string Try.underlying9 f0
    obtain ⟨l, v1, e1, hl⟩ := trod_ns f1
    obtain ⟨as', v2, e2, ha⟩ := trod_as f2
    simp at e0 e1 e2
    subst e0 e1 e2
    exact ⟨⟨⟨s, by unfold maxLen at hs; exact hs⟩, l, as'⟩, (_, _), rfl, hl, ha.mono (by omega)⟩
set_option maxRecDepth 100000 in
theorem trod_ac {fuel : Nat} {cs : List Value} {x : DataW H × List MemPlace} (h : DataW.trod enc Try.prog w base spare held fuel 37 cs = some x) : ∃ (t : Ac) (e : (Value × Value) × Value × Value), cs = encAc t e ∧ AcOk fuel w t e := by
  obtain ⟨xs, n, rfl, -, hlen, hxl, hf⟩ := DataW.trod_struct Try.underlying37 h
  rw [cofAc] at hlen
  have hx3 : xs.length = 5 := hxl
  match cs, hlen with
  | [c0, c1, c2, c3, c4], _ =>
    have f0 : DataW.trod enc Try.prog w base spare held n 9 (([c0, c1, c2, c3, c4].drop 0).take (Try.prog.cellsOf 9)) = some _ := (hf 0 _ rfl).trans (List.getElem?_eq_getElem (by omega))
    have f1 : DataW.trod enc Try.prog w base spare held n 30 (([c0, c1, c2, c3, c4].drop 1).take (Try.prog.cellsOf 30)) = some _ := (hf 1 _ rfl).trans (List.getElem?_eq_getElem (by omega))
    have f2 : DataW.trod enc Try.prog w base spare held n 30 (([c0, c1, c2, c3, c4].drop 2).take (Try.prog.cellsOf 30)) = some _ := (hf 2 _ rfl).trans (List.getElem?_eq_getElem (by omega))
    have f3 : DataW.trod enc Try.prog w base spare held n 30 (([c0, c1, c2, c3, c4].drop 3).take (Try.prog.cellsOf 30)) = some _ := (hf 3 _ rfl).trans (List.getElem?_eq_getElem (by omega))
    have f4 : DataW.trod enc Try.prog w base spare held n 31 (([c0, c1, c2, c3, c4].drop 4).take (Try.prog.cellsOf 31)) = some _ := (hf 4 _ rfl).trans (List.getElem?_eq_getElem (by omega))
    rw [cofS] at f0
    rw [cofN] at f1 f2 f3
    rw [cofLA] at f4
    obtain ⟨s, e0, -, hs⟩ := DataW.trod_string Try.underlying9 f0
    obtain ⟨l1, v1, e1, h1⟩ := trod_ns f1
    obtain ⟨l2, v2, e2, h2⟩ := trod_ns f2
    obtain ⟨l3, v3, e3, h3⟩ := trod_ns f3
    obtain ⟨as', v4, e4, ha⟩ := trod_as f4
    simp at e0 e1 e2 e3 e4
    subst e0 e1 e2 e3 e4
    exact ⟨⟨⟨s, by unfold maxLen at hs; exact hs⟩, l1, l2, l3, as'⟩, ((_, _), _, _), rfl, h1, h2, h3, ha.mono (by omega)⟩
theorem EtOk.mono {n m : Nat} {t : Et} {e : Value × Value} (h : EtOk n w t e) (hm : n ≤ m) : EtOk m w t e := ⟨h.1, h.2.mono hm⟩
theorem AcOk.mono {n m : Nat} {t : Ac} {e : (Value × Value) × Value × Value} (h : AcOk n w t e) (hm : n ≤ m) : AcOk m w t e := ⟨h.1, h.2.1, h.2.2.1, h.2.2.2.mono hm⟩
set_option maxRecDepth 100000 in
theorem trod_sc {fuel : Nat} {cs : List Value} {x : DataW H × List MemPlace} (h : DataW.trod enc Try.prog w base spare held fuel 25 cs = some x) : ∃ (ts : List Et) (acs : List Ac) (vt va : Value), cs = [vt, va] ∧ EtsAt fuel w ts vt ∧ AcsAt fuel w acs va := by
  obtain ⟨xs, n, rfl, -, hlen, hxl, hf⟩ := DataW.trod_struct Try.underlying25 h
  rw [cofSc] at hlen
  have hx3 : xs.length = 2 := hxl
  match cs, hlen with
  | [c0, c1], _ =>
    have f0 : DataW.trod enc Try.prog w base spare held n 22 (([c0, c1].drop 0).take (Try.prog.cellsOf 22)) = some _ := (hf 0 _ rfl).trans (List.getElem?_eq_getElem (by omega))
    have f1 : DataW.trod enc Try.prog w base spare held n 23 (([c0, c1].drop 1).take (Try.prog.cellsOf 23)) = some _ := (hf 1 _ rfl).trans (List.getElem?_eq_getElem (by omega))
    rw [cofLE] at f0
    rw [cofLC] at f1
    obtain ⟨ts, v0, e0, h0⟩ := rowB_of Try.underlying22 cofEt encEt (EtOk (n + 1)) (fun _ _ => rfl) (fun _ _ => ⟨_, rfl⟩) (fun m hm cs x hx => by
      obtain ⟨t, e, h1, h2⟩ := trod_et hx
      exact ⟨t, e, h1, h2.mono (by omega)⟩) f0
    obtain ⟨as', v1, e1, h1⟩ := rowB_of Try.underlying23 cofAc encAc (AcOk (n + 1)) (fun _ _ => rfl) (fun _ _ => ⟨_, rfl⟩) (fun m hm cs x hx => by
      obtain ⟨t, e, h1, h2⟩ := trod_ac hx
      exact ⟨t, e, h1, h2.mono (by omega)⟩) f1
    simp at e0 e1
    subst e0 e1
    exact ⟨ts, as', _, _, rfl, h0, h1⟩
set_option maxRecDepth 100000 in
theorem open_sc {r : Reach} {v : Value} {d : DataW H} {p : List MemPlace} (hv : Value.okWide Try.prog w r base 25 v) (h : DataW.Trod enc Try.prog w 0 spare held 25 v d p) : ∃ (n : Nat) (ts : List Et) (acs : List Ac) (vt va : Value), v = .agg #[vt, va] ∧ EtsAt n w ts vt ∧ AcsAt n w acs va := by
  obtain ⟨cs, rfl, -⟩ := okWide_struct Try.underlying25 hv
  obtain ⟨fuel, hf⟩ := h
  obtain ⟨ts, as', vt, va, he, h1, h2⟩ := trod_sc hf
  refine ⟨fuel, ts, as', vt, va, ?_, h1, h2⟩
  have : cs = #[vt, va] := by
    have h3 : cs.toList = [vt, va] := by
      rw [← he]; simp [Value.cells]
    exact Array.ext' h3
  rw [this]
end Go.Proofs.Ytijjbfdbhfjfmaa
