/- As ScO, with a bound: the names of types are no longer than what the argument holds; a claim with a condition at a world whose variables have their shapes. No condition. -/
import Derived.Test.YtijjbfdbhfjfmaaScO
import Derived.HandedShaped
import Derived.JoinedCond
namespace Go.Proofs.Ytijjbfdbhfjfmaa
open Go.RowKit Go.ChangeShapes Go.WideShapes Go.Deep Go.ChangeAt
set_option linter.unusedVariables false
set_option maxRecDepth 100000 in
theorem cond_shaped {H : Type} {enc : TypeId × Value → H} {os : Os} {f : FuncId} {fn : Func} {s : OpenSpec} {k : (H : Type) → List (DataW H) → Bool} (hk : s.cond = some k) {F : Stop.Interp} {conds : List PathCond}
    (own : ownKnob Try.checked.prog.godebug = none) (started : os.Started) (noInit : Try.checked.prog.inits.idxOf? f = none) (hfn : Try.checked.prog.funcs[f]? = some fn)
    (witness : ∃ (w : World) (tape : Tape) (i : Input), w.os = os ∧ (w.forCall tape i).Shaped Try.checked.prog ∧ i.vars = [] ∧ Input.okWide Try.checked.prog (w.forCall tape i) .any w.heap.size f i ∧
      s.pre6 enc Try.checked.prog fn conds false (w.forCall tape i).memory i.args ∧ ({} : Assume).holds Try.checked.prog (lone (Frame.enter Try.checked.prog f i.args .normal) [] (w.forCall tape i)))
    (contract : ∀ (W : World) (base : Nat) (args : Array Value) (ds gs : List (DataW H)) (before : List MemPlace),
      (∀ (j : Nat) t v, fn.params[j]? = some t → args[j]? = some v → Value.okWide Try.checked.prog W .any base t v) →
      DataW.Whole enc Try.checked.prog fn.params.toList s.vars false W args.toList ds gs before → k H (ds ++ gs) = true → W.ShapedOpen Try.checked.prog →
      Calls Try.checked.prog f args W fun e W' => ∃ v, e = .returned v ∧ (s.at F).post enc Try.checked.prog fn false true false false W args v W') :
    ReturnsInHanded {} Try.checked os f .any (s.pre6 enc Try.checked.prog fn conds false) ((s.at F).post enc Try.checked.prog fn false true false false) := by
  refine returnsInHanded_of_calls own started noInit witness fun w tape i _ hsh _ hok hpre _ => ?_
  obtain ⟨_, _, _, fn2, h2, _, _, _, _, hval⟩ := hok
  obtain rfl : fn2 = fn := Option.some.inj (h2.symm.trans hfn)
  obtain ⟨ds, gs, before, hw, _, hkk⟩ := (OpenSpec.pre_some hk conds false _ _).1 hpre.1
  refine (contract (w.forCall tape i) w.heap.size i.args ds gs before hval (DataW.Whole.of_heap (w' := w.forCall tape i) (by rfl) hw) hkk hsh).mono fun e W' ⟨v, he, hp⟩ => ?_
  subst he
  exact ChangeSpec.post_blind hp
variable {H : Type} {enc : TypeId × Value → H} {w : World} {spare : Nat → Bool} {held : Bool} {base : Nat}
theorem bulk_str (s : ByteArray) : Rows.uptoBulk (DataW.lit (H := H) (.string s.data.toList)) = s.size + 1 := by
  have e : s.data.toList.length = s.size := by rw [Array.length_toList]; rfl
  simp only [Rows.uptoBulk, e]
theorem bulk_in : ∀ {l : List (DataW H)} {j : Nat} (h : j < l.length), Rows.uptoBulk l[j] ≤ Rows.uptoBulkAll l
  | [], _, h => absurd h (Nat.not_lt_zero _)
  | x :: l, 0, _ => by simp [Rows.uptoBulkAll]
  | x :: l, j + 1, h => by
    have := bulk_in (l := l) (j := j) (by simpa using h)
    simp only [Rows.uptoBulkAll, List.getElem_cons_succ]
    omega
/-- A slice of rows of one's own, each with a bound. -/
theorem rowB_ofB {α β : Type} [Inhabited α] [Inhabited β] {fuel sz : Nat} {ty el : TypeId} {cs : List Value} {x : DataW H × List MemPlace} (f : α → Nat) (hu : Try.prog.underlying ty = some (.slice el)) (hsz : Try.prog.cellsOf el = sz) (encX : α → β → List Value) (R : World → α → β → Prop)
    (hlen : ∀ x e, (encX x e).length = sz) (hf0 : ∀ x e, ∃ u, (encX x e)[0]? = some u)
    (ih : ∀ m, m < fuel → ∀ (cs : List Value) (x : DataW H × List MemPlace), DataW.trod enc Try.prog w base spare held m el cs = some x → ∃ (y : α) (e : β), cs = encX y e ∧ R w y e ∧ f y ≤ Rows.uptoBulk x.1)
    (h : DataW.trod enc Try.prog w base spare held fuel ty cs = some x) : ∃ (l : List α) (it : Value), cs = [it] ∧ RowB w sz encX R l it ∧ ∀ y ∈ l, f y ≤ Rows.uptoBulk x.1 := by
  rcases DataW.trod_slice hu h with ⟨rfl, -⟩ | ⟨a, len, cap, elems, rest, n2, hn2, rfl, rfl, -, hlc, hcm, hel, hall, -, -⟩
  · exact ⟨[], _, rfl, RowB.nil _ _ _ _, by simp⟩
  · rw [hsz] at hall
    have hx : ∀ j, j < len → ∃ z : α × β, (∀ c u, (encX z.1 z.2)[c]? = some u → w.cell? (a.add (j * sz + c)) = some u) ∧ R w z.1 z.2 ∧ ∀ (k : j < elems.length), f z.1 ≤ Rows.uptoBulk elems[j].1 := fun j hj => by
      have h1 := hall j hj
      rw [List.getElem?_eq_getElem (by omega)] at h1
      obtain ⟨c, h2, h3⟩ := Option.bind_eq_some_iff.1 h1
      obtain ⟨y, e, rfl, hr, hb⟩ := ih n2 (by omega) _ _ h3
      obtain ⟨-, -, hat⟩ := World.cells?_some h2
      refine ⟨(y, e), fun c u hu => ?_, hr, fun _ => hb⟩
      have h8 : c < sz := by have := (List.getElem?_eq_some_iff.1 hu).1; rwa [hlen] at this
      have := hat c h8
      rw [add_add] at this
      rw [this]; exact hu
    haveI : Inhabited (α × β) := ⟨(default, default)⟩
    obtain ⟨g, hfz⟩ := choose_lt hx
    refine ⟨(List.range len).map fun j => (g j).1, _, rfl, ⟨some a, cap, by simp, ⟨by simp; exact hlc, by unfold maxLen at hcm; exact hcm⟩, fun j hj => ?_⟩, fun y hy => ?_⟩
    · have hj' : j < len := by simpa using hj
      obtain ⟨u, hu⟩ := hf0 (g 0).1 (g 0).2
      have ha := (hfz 0 (by omega)).1 0 u hu
      rw [Nat.zero_mul, Nat.add_zero] at ha
      obtain ⟨bb, oo, rfl⟩ := addr_plain ha
      refine ⟨bb, oo, (g j).2, rfl, fun c u hu => ?_, ?_⟩
      · have := (hfz j hj').1 c u (by simpa using hu)
        rw [Addr.add_lit] at this
        rw [Nat.add_assoc]; exact this
      · have := (hfz j hj').2.1
        simpa using this
    · obtain ⟨j, hj, rfl⟩ := List.mem_map.1 hy
      have hj' : j < len := List.mem_range.1 hj
      have h1 := (hfz j hj').2.2 (by omega)
      have h2 := bulk_in (l := elems.map (·.1)) (j := j) (by simp; omega)
      simp only [List.getElem_map] at h2
      simp only [Rows.uptoBulk]
      omega
set_option maxRecDepth 100000 in
theorem trod_etB {fuel : Nat} {cs : List Value} {x : DataW H × List MemPlace} (h : DataW.trod enc Try.prog w base spare held fuel 33 cs = some x) : ∃ (t : Et) (e : Value × Value), cs = encEt t e ∧ EtOk fuel w t e ∧ t.nm.s.size ≤ Rows.uptoBulk x.1 := by
  obtain ⟨t, e, h1, h2⟩ := trod_et h
  refine ⟨t, e, h1, h2, ?_⟩
  obtain ⟨xs, n, rfl, rfl, hlen, hxl, hf⟩ := DataW.trod_struct Try.underlying33 h
  have hx3 : xs.length = 3 := hxl
  have f0 : DataW.trod enc Try.prog w base spare held n 9 ((cs.drop 0).take (Try.prog.cellsOf 9)) = some _ := (hf 0 _ rfl).trans (List.getElem?_eq_getElem (by omega))
  rw [cofS, h1] at f0
  obtain ⟨s, e0, hd, hs⟩ := DataW.trod_string Try.underlying9 f0
  have he : t.nm.s = s := by simpa [encEt] using e0
  have h4 := bulk_in (l := xs.map (·.1)) (j := 0) (by simp; omega)
  simp only [List.getElem_map] at h4
  rw [hd, bulk_str] at h4
  simp only [Rows.uptoBulk]
  rw [he]
  omega
set_option maxRecDepth 100000 in
theorem open_scB {r : Reach} {v : Value} {d : DataW H} {p : List MemPlace} (hv : Value.okWide Try.prog w r base 25 v) (h : DataW.Trod enc Try.prog w 0 spare held 25 v d p) : ∃ (n : Nat) (ts : List Et) (acs : List Ac) (vt va : Value), v = .agg #[vt, va] ∧ EtsAt n w ts vt ∧ AcsAt n w acs va ∧ ∀ t ∈ ts, t.nm.s.size ≤ Rows.uptoBulk d := by
  obtain ⟨cs, rfl, -⟩ := okWide_struct Try.underlying25 hv
  obtain ⟨fuel, hf⟩ := h
  obtain ⟨xs, n, hfu, hxx, hlen, hxl, hf2⟩ := DataW.trod_struct Try.underlying25 hf
  subst hfu
  have hx3 : xs.length = 2 := hxl
  have hc2 : cs.toList.length = 2 := by rw [cofSc] at hlen; simpa [Value.cells] using hlen
  obtain ⟨c0, c1, hcs⟩ : ∃ c0 c1, cs.toList = [c0, c1] := by
    match h : cs.toList, hc2 with
    | [c0, c1], _ => exact ⟨c0, c1, rfl⟩
  have hcc : (Value.agg cs).cells.toList = [c0, c1] := by simpa [Value.cells] using hcs
  have f0 : DataW.trod enc Try.prog w 0 spare held n 22 (((Value.agg cs).cells.toList.drop 0).take (Try.prog.cellsOf 22)) = some _ := (hf2 0 _ rfl).trans (List.getElem?_eq_getElem (by omega))
  have f1 : DataW.trod enc Try.prog w 0 spare held n 23 (((Value.agg cs).cells.toList.drop 1).take (Try.prog.cellsOf 23)) = some _ := (hf2 1 _ rfl).trans (List.getElem?_eq_getElem (by omega))
  rw [cofLE, hcc] at f0
  rw [cofLC, hcc] at f1
  obtain ⟨ts, v0, e0, h0, hb⟩ := rowB_ofB (fun t : Et => t.nm.s.size) Try.underlying22 cofEt encEt (EtOk (n + 1)) (fun _ _ => rfl) (fun _ _ => ⟨_, rfl⟩) (fun m hm cs x hx => by
    obtain ⟨t, e, h1, h2, h3⟩ := trod_etB hx
    exact ⟨t, e, h1, h2.mono (by omega), h3⟩) f0
  obtain ⟨as', v1, e1, h1⟩ := rowB_of Try.underlying23 cofAc encAc (AcOk (n + 1)) (fun _ _ => rfl) (fun _ _ => ⟨_, rfl⟩) (fun m hm cs x hx => by
    obtain ⟨t, e, h1, h2⟩ := trod_ac hx
    exact ⟨t, e, h1, h2.mono (by omega)⟩) f1
  simp at e0 e1
  subst e0 e1
  refine ⟨n + 1, ts, as', _, _, ?_, h0, h1, fun t ht => ?_⟩
  · have : cs = #[c0, c1] := Array.ext' hcs
    rw [this]
  · have h2 := hb t ht
    have h3 := bulk_in (l := xs.map (·.1)) (j := 0) (by simp; omega)
    simp only [List.getElem_map] at h3
    have hd : Rows.uptoBulk d = Rows.uptoBulkAll (xs.map (·.1)) + 1 := by
      have : d = .agg (xs.map (·.1)) := by simpa using congrArg Prod.fst hxx
      rw [this]; simp only [Rows.uptoBulk]
    omega
end Go.Proofs.Ytijjbfdbhfjfmaa
