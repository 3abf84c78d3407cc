/- A value among a law's arguments is a tree that lies in memory. No condition. A row of values, of texts or of numbers among a law's arguments lies in memory. No condition. What a store that is nil answers; plain facts of lists as they must be. No condition. Plain: the reference's way of telling whether one is above another: by steps. No condition. Worlds behind a call that may ask a store: what is kept, and how a result is put into a box of the call's own. No condition. value.Get, its result in the same blocks; the item by its name. No condition. slices.IndexFunc and slices.ContainsFunc at rows of a schema, of its closures. Condition: what a closure answers of each. slices.ContainsFunc at names, of the closure of inOneOf; inOneOf. No condition. refs: the names of a value that is one, or a set of such. No condition. Small operators of package eval: not, typed. No condition. The reckoner as a value; what has the attributes of a value. No condition. The reckoner, and its request. No condition. Rows of expressions in memory. No condition. -/
import Derived.Test.YtnchohglplobeaaGreatZg12
import Derived.Deep.Slices
import Derived.ChangeArms
import Derived.DataReads
import Derived.OpenShut
set_option linter.unusedVariables false
set_option linter.unusedSimpArgs false
set_option linter.unnecessarySimpa false
namespace Go.Proofs.YtnchohglplobeaaGreat
open Go.RowKit Go.ChangeShapes Go.WideShapes Go.Deep
variable {H : Type} {enc : TypeId × Value → H} {w : World} {spare : Nat → Bool} {held : Bool}
theorem cof27 : Tryz.prog.cellsOf 27 = 8 := by kernel_rfl
theorem cof3 : Tryz.prog.cellsOf 3 = 1 := by kernel_rfl
theorem cof4 : Tryz.prog.cellsOf 4 = 1 := by kernel_rfl
theorem cof2 : Tryz.prog.cellsOf 2 = 1 := by kernel_rfl
theorem cof9 : Tryz.prog.cellsOf 9 = 1 := by kernel_rfl
theorem cof23 : Tryz.prog.cellsOf 23 = 2 := by kernel_rfl
theorem cof24 : Tryz.prog.cellsOf 24 = 1 := by kernel_rfl
theorem cof25 : Tryz.prog.cellsOf 25 = 1 := by kernel_rfl
theorem addr_plainv {a : Addr} {v : Value} (h : w.cell? (a.add 0) = some v) : ∃ b o, a = ⟨b, o, none⟩ := by
 have e : a.add 0 = a := by simp [Addr.add]
 rw [e] at h
 obtain ⟨b, o, s⟩ := a
 cases s with
 | none => exact ⟨b, o, rfl⟩
 | some s => unfold World.cell? at h; split at h <;> simp at h
theorem trod_names {base fuel : Nat} {cs : List Value} {x : DataW H × List MemPlace} (h : DataW.trod enc Tryz.prog w base spare held fuel 25 cs = some x) : ∃ (ns : List ByteArray) (nm : Value), cs = [nm] ∧ Na w ns nm := by
 rcases DataW.trod_slice Tryz.underlying25 h with ⟨rfl, -⟩ | ⟨a, len, cap, elems, rest, n, -, rfl, -, -, hlc, hcm, hel, hall, -, -⟩
 ·exact ⟨[], _, rfl, none, 0, rfl, by simp, by simp, .inl rfl⟩
 ·rw [cof9] at hall
  have hx : ∀ i, i < len → ∃ s : ByteArray, w.cell? (a.add i) = some (.string s) ∧ s.size ≤ 9223372036854775807 := fun i hi => by
   have h1 := hall i hi
   rw [List.getElem?_eq_getElem (by omega)] at h1
   obtain ⟨c, h2, h3⟩ := Option.bind_eq_some_iff.1 h1
   obtain ⟨s, rfl, -, hs⟩ := DataW.trod_string Tryz.underlying9 h3
   obtain ⟨-, -, hat⟩ := World.cells?_some h2
   have := hat 0 (by decide)
   rw [add_add, Nat.mul_one, Nat.add_zero] at this
   exact ⟨s, this, by unfold maxLen at hs; exact hs⟩
  haveI : Inhabited ByteArray := ⟨⟨#[]⟩⟩
  obtain ⟨f, hf⟩ := choose_lt hx
  refine ⟨(List.range len).map f, _, rfl, some a, cap, by simp, by simp; unfold maxLen at hcm; omega, fun x hx => ?_, ?_⟩
  ·obtain ⟨i, hi, rfl⟩ := List.mem_map.1 hx
   exact (hf i (List.mem_range.1 hi)).2
  ·rcases Nat.eq_zero_or_pos len with h0 | h0
   ·exact .inl (by rw [h0]; rfl)
   ·obtain ⟨b, o, rfl⟩ := addr_plainv (hf 0 h0).1
    refine .inr ⟨b, o, rfl, trivial, fun j hj => ?_⟩
    have hj' : j < len := by simpa using hj
    have := (hf j hj').1
    rw [Addr.add_lit] at this
    rw [this]
    simp
instance : Inhabited V := ⟨V0⟩
set_option maxRecDepth 100000 in
theorem trod_valI {base : Nat} : ∀ (fuel : Nat) {cs : List Value} {x : DataW H × List MemPlace}, DataW.trod enc Tryz.prog w base spare held fuel 27 cs = some x → ∃ (v : V) (it nm : Value), cs = hdc v.h it nm ∧ R w v it nm ∧ Iv v := by
 intro fuel
 induction fuel using Nat.strongRecOn with
 | _ fuel ih =>
  intro cs x h
  obtain ⟨xs, n, rfl, -, hlen, hxl, hf⟩ := DataW.trod_struct Tryz.underlying27 h
  rw [cof27] at hlen
  have hx7 : xs.length = 7 := hxl
  have get : ∀ i, i < 7 → ∃ y, xs[i]? = some y := fun i hi => ⟨xs[i]'(by omega), List.getElem?_eq_getElem (by omega)⟩
  match cs, hlen with
  | [c0, c1, c2, c3, c4, c5, c6, c7], _ =>
   obtain ⟨y0, g0⟩ := get 0 (by decide)
   obtain ⟨y1, g1⟩ := get 1 (by decide)
   obtain ⟨y2, g2⟩ := get 2 (by decide)
   obtain ⟨y3, g3⟩ := get 3 (by decide)
   obtain ⟨y4, g4⟩ := get 4 (by decide)
   obtain ⟨y5, g5⟩ := get 5 (by decide)
   obtain ⟨y6, g6⟩ := get 6 (by decide)
   have f0 : DataW.trod enc Tryz.prog w base spare held n 3 (([c0, c1, c2, c3, c4, c5, c6, c7].drop 0).take (Tryz.prog.cellsOf 3)) = some y0 := (hf 0 _ rfl).trans g0
   have f1 : DataW.trod enc Tryz.prog w base spare held n 4 (([c0, c1, c2, c3, c4, c5, c6, c7].drop 1).take (Tryz.prog.cellsOf 4)) = some y1 := (hf 1 _ rfl).trans g1
   have f2 : DataW.trod enc Tryz.prog w base spare held n 2 (([c0, c1, c2, c3, c4, c5, c6, c7].drop 2).take (Tryz.prog.cellsOf 2)) = some y2 := (hf 2 _ rfl).trans g2
   have f3 : DataW.trod enc Tryz.prog w base spare held n 9 (([c0, c1, c2, c3, c4, c5, c6, c7].drop 3).take (Tryz.prog.cellsOf 9)) = some y3 := (hf 3 _ rfl).trans g3
   have f4 : DataW.trod enc Tryz.prog w base spare held n 23 (([c0, c1, c2, c3, c4, c5, c6, c7].drop 4).take (Tryz.prog.cellsOf 23)) = some y4 := (hf 4 _ rfl).trans g4
   have f5 : DataW.trod enc Tryz.prog w base spare held n 24 (([c0, c1, c2, c3, c4, c5, c6, c7].drop 6).take (Tryz.prog.cellsOf 24)) = some y5 := (hf 5 _ rfl).trans g5
   have f6 : DataW.trod enc Tryz.prog w base spare held n 25 (([c0, c1, c2, c3, c4, c5, c6, c7].drop 7).take (Tryz.prog.cellsOf 25)) = some y6 := (hf 6 _ rfl).trans g6
   rw [cof3] at f0
   rw [cof4] at f1
   rw [cof2] at f2
   rw [cof9] at f3
   rw [cof23] at f4
   rw [cof24] at f5
   rw [cof25] at f6
   obtain ⟨k, e0, -, -⟩ := DataW.trod_int Tryz.underlying3 f0
   obtain ⟨b, e1, -⟩ := DataW.trod_bool Tryz.underlying4 f1
   obtain ⟨m, e2, -, hmw⟩ := DataW.trod_int Tryz.underlying2 f2
   obtain ⟨s, e3, -, hs⟩ := DataW.trod_string Tryz.underlying9 f3
   obtain ⟨us, un, -, -, -, hul, huf⟩ := DataW.trod_struct Tryz.underlying23 f4
   have hu2 : us.length = 2 := hul
   have u0 : DataW.trod enc Tryz.prog w base spare held un 9 ((([c0, c1, c2, c3, c4, c5, c6, c7].drop 4).take 2).drop 0 |>.take (Tryz.prog.cellsOf 9)) = some _ := (huf 0 _ rfl).trans (List.getElem?_eq_getElem (by omega))
   have u1 : DataW.trod enc Tryz.prog w base spare held un 9 ((([c0, c1, c2, c3, c4, c5, c6, c7].drop 4).take 2).drop 1 |>.take (Tryz.prog.cellsOf 9)) = some _ := (huf 1 _ rfl).trans (List.getElem?_eq_getElem (by omega))
   rw [cof9] at u0 u1
   obtain ⟨t, e4, -, ht⟩ := DataW.trod_string Tryz.underlying9 u0
   obtain ⟨i, e5, -, hi⟩ := DataW.trod_string Tryz.underlying9 u1
   obtain ⟨ns, nm, e7, hns⟩ := trod_names f6
   simp at e0 e1 e2 e3 e4 e5 e7
   subst e0 e1 e2 e3 e4 e5 e7
   have hb : Bh ⟨k, b, m, s, t, i⟩ := ⟨by unfold maxLen at hs; exact hs, by unfold maxLen at ht; exact ht, by unfold maxLen at hi; exact hi⟩
   have hmr : -9223372036854775808 ≤ m ∧ m ≤ 9223372036854775807 := by
    simp [Lit.wf, IntKind.min, IntKind.max, IntKind.signed, IntKind.bits] at hmw
    omega
   rcases DataW.trod_slice Tryz.underlying24 f5 with ⟨e6, -⟩ | ⟨a, len, cap, elems, rest, n2, hn2, e6, -, -, hlc, hcm, hel, hall, -, -⟩
   ·simp at e6
    subst e6
    exact ⟨.mk ⟨k, b, m, s, t, i⟩ [] ns, _, _, rfl, rep_v.2 ⟨hb, hns, none, 0, rfl, ⟨by simp [V.l], by simp⟩, .inl rfl⟩, iv_flat hmr⟩
   ·simp at e6
    subst e6
    rw [cof27] at hall
    have hx : ∀ j, j < len → ∃ z : V × Value × Value, (∀ c u, (hdc z.1.h z.2.1 z.2.2)[c]? = some u → w.cell? (a.add (j * 8 + c)) = some u) ∧ R w z.1 z.2.1 z.2.2 ∧ Iv z.1 := fun j hj => by
     have h1 := hall j hj
     rw [List.getElem?_eq_getElem (by omega)] at h1
     obtain ⟨c, h2, h3⟩ := Option.bind_eq_some_iff.1 h1
     obtain ⟨v, it, nm, rfl, hr, hiv⟩ := ih n2 (by omega) h3
     obtain ⟨-, -, hat⟩ := World.cells?_some h2
     refine ⟨(v, it, nm), fun c u hu => ?_, hr, hiv⟩
     have h8 : c < 8 := by have := (List.getElem?_eq_some_iff.1 hu).1; simpa [hdc] using this
     have := hat c h8
     rw [add_add] at this
     rw [this]; exact hu
    haveI : Inhabited (V × Value × Value) := ⟨(V0, .nilFunc, .nilFunc)⟩
    obtain ⟨f, hfz⟩ := choose_lt hx
    refine ⟨.mk ⟨k, b, m, s, t, i⟩ ((List.range len).map fun j => (f j).1) ns, _, _, rfl, rep_v.2 ⟨hb, hns, some a, cap, by simp [V.l], ⟨by simp [V.l]; exact hlc, by unfold maxLen at hcm; exact hcm⟩, ?_⟩, iv_v.2 ⟨hmr, fun x hx => by
     obtain ⟨j, hj, rfl⟩ := List.mem_map.1 (show x ∈ (List.range len).map fun j => (f j).1 from hx)
     exact (hfz j (List.mem_range.1 hj)).2.2⟩⟩
    rcases Nat.eq_zero_or_pos len with h0 | h0
    ·exact .inl (by rw [h0]; rfl)
    ·obtain ⟨bb, oo, rfl⟩ := addr_plainv ((hfz 0 h0).1 0 _ rfl)
     refine .inr ⟨bb, oo, rfl, trivial, repF_of fun j hj => ?_⟩
     have hj' : j < len := by simpa [V.l] using hj
     have hg : (V.mk ⟨k, b, m, s, t, i⟩ ((List.range len).map fun j => (f j).1) ns).l[j] = (f j).1 := by simp [V.l]
     rw [hg]
     refine ⟨(f j).2.1, (f j).2.2, fun c u hu => ?_, (hfz j hj').2.1⟩
     have := (hfz j hj').1 c u hu
     rw [Addr.add_lit] at this
     rw [Nat.add_assoc]; exact this
end Go.Proofs.YtnchohglplobeaaGreat
namespace Go.Proofs.YtnchohglplobeaaGreat
open Go.RowKit Go.ChangeShapes Go.WideShapes Go.Deep
variable {H : Type} {enc : TypeId × Value → H} {w : World} {spare : Nat → Bool} {held : Bool}
def Nu (w : World) (zs : List Int) (v : Value) : Prop :=
 ∃ ao cap, v = .slice ao zs.length cap ∧ zs.length ≤ 9223372036854775807 ∧ (∀ z ∈ zs, -9223372036854775808 ≤ z ∧ z ≤ 9223372036854775807) ∧
  (zs = [] ∨ ∃ b o, ao = some ⟨b, o, none⟩ ∧ ∀ j (hj : j < zs.length), w.cell? ⟨b, o + j, none⟩ = some (.int .i64 zs[j]))
theorem Nu.low {w w' : World} {zs : List Int} {v : Value} (h : Nu w zs v) (l : Low w w') : Nu w' zs v := by
 obtain ⟨ao, cap, h1, h2, h3, h4⟩ := h
 exact ⟨ao, cap, h1, h2, h3, h4.imp id fun ⟨b, o, h5, h6⟩ => ⟨b, o, h5, fun j hj => l.keep (h6 j hj)⟩⟩
end Go.Proofs.YtnchohglplobeaaGreat
namespace Go.Proofs.YtnchohglplobeaaGreat
open Go.RowKit Go.Sort Go.Maps
set_option maxRecDepth 100000 in
theorem in_nil (w : World) (a b : Us) : Calls Tryz.prog 36 #[.pointer none, .agg #[.string a.t, .string a.i], .agg #[.string b.t, .string b.i]] w fun e w' => e = .returned (.bool (decide (a = b))) ∧ Low w w' := by
 have qE := fun W => us_eql a b W
 go_enter Tryz.func36, Tryz.ntmps36
 go_wp2_with fail
 go_ret
 exact ⟨rfl, Low.alloc (Low.alloc (Low.refl _) _) _⟩
set_option maxRecDepth 100000 in
set_option maxHeartbeats 1600000 in
theorem get_nil (w : World) (u : Us) : Calls Tryz.prog 179 #[.pointer none, .agg #[.string u.t, .string u.i]] w fun e w' => e = .returned (.tuple #[.agg #[.string ⟨#[]⟩, .string ⟨#[]⟩, .slice none 0 0, .int .i64 0, .bool false, .int .i64 0, .string ⟨#[]⟩, .string ⟨#[]⟩, .string ⟨#[]⟩, .slice none 0 0, .slice none 0 0], .bool false]) ∧ Low w w' := by
 obtain ⟨U0, hU0⟩ : ∃ W, W = (w.alloc (.cells #[.string u.t, .string u.i] 23)).alloc (.cells #[.string ⟨#[]⟩, .string ⟨#[]⟩, .slice none 0 0, .int .i64 0, .bool false, .int .i64 0, .string ⟨#[]⟩, .string ⟨#[]⟩, .string ⟨#[]⟩, .slice none 0 0, .slice none 0 0] 72) := ⟨_, rfl⟩
 have HU0 := Lib.hid hU0
 have L0 := Lib.hid (show Low w U0 by rw [hU0]; exact Low.alloc (Low.alloc (Low.refl w) _) _)
 have BZ := Lib.hid (show BoxAtv U0 (w.heap.size + 1) [.string ⟨#[]⟩, .string ⟨#[]⟩, .slice none 0 0, .int .i64 0, .bool false, .int .i64 0, .string ⟨#[]⟩, .string ⟨#[]⟩, .string ⟨#[]⟩, .slice none 0 0, .slice none 0 0] from BoxAtv.made hU0 (by simp) rfl)
 clear hU0
 go_enter Tryz.func179, Tryz.ntmps179
 go_upto_region 1 with fail
 rw [← HU0.out]
 clear HU0
 obtain ⟨c0, c1, c2, c3, c4, c5, c6, c7, c8, c9, c10⟩ := BZ.out.at11
 obtain ⟨f0, f1, f2, f3, f4, f5, f6, f7, f8, f9, f10⟩ := BZ.out.op11
 go_wp2_with fail
 refine bodyPost_ret (v := .tuple #[.agg #[.string ⟨#[]⟩, .string ⟨#[]⟩, .slice none 0 0, .int .i64 0, .bool false, .int .i64 0, .string ⟨#[]⟩, .string ⟨#[]⟩, .string ⟨#[]⟩, .slice none 0 0, .slice none 0 0], .bool false]) (by simp [results, Tryz.results179, go_sem, World.cell?_setCell_same', c0, c1, c2, c3, c4, c5, c6, c7, c8, c9, c10]; try rfl) rfl ?_
 exact ⟨rfl, low_allv L0.out (Nat.le_succ _) (kept11 _ _ _ _ _ _ _ _ _ _ _ _ _)⟩
def ClsS (z : St) (rs : List Ee) (W W' : World) : Prop := Sto W' z rs ∧ Lw z.ma W W'
theorem ClsS.start {z : St} {rs : List Ee} {W : World} (h : Sto W z rs) : ClsS z rs W W.drew := ⟨h.low (Gr.refl W).drew.low, Lw.of_low (Gr.refl W).drew.low h.isMap⟩
end Go.Proofs.YtnchohglplobeaaGreat
namespace Go.Proofs.YtnchohglplobeaaGreat
structure RIn (c : List En) (a b : Us) (R : List Us) (i k : Nat) : Prop where
 nd : R.Nodup
 way : ∀ x ∈ R, x = a ∨ Way (stepE c) a x
 fst : a ∈ R
 done : ∀ j (hj : j < R.length), j < i → ∀ y ∈ PE c R[j], y ∈ R ∧ y ≠ b
 now : ∀ (hi : i < R.length) m (hm : m < (PE c R[i]).length), m < k → (PE c R[i])[m] ∈ R ∧ (PE c R[i])[m] ≠ b
theorem RIn.start (c : List En) (a b : Us) : RIn c a b [a] 0 0 where
 nd := by simp
 way := fun x hx => by simp at hx; exact .inl hx
 fst := by simp
 done := fun j _ h => absurd h (Nat.not_lt_zero _)
 now := fun _ m _ h => absurd h (Nat.not_lt_zero _)
theorem RIn.old {c : List En} {a b : Us} {R : List Us} {i k : Nat} (h : RIn c a b R i k) (hi : i < R.length) (hk : k < (PE c R[i]).length) (h1 : (PE c R[i])[k] ∈ R) (h2 : (PE c R[i])[k] ≠ b) : RIn c a b R i (k + 1) where
 nd := h.nd
 way := h.way
 fst := h.fst
 done := h.done
 now := fun hi' m hm hmk => by
  rcases Nat.lt_succ_iff_lt_or_eq.1 hmk with h3 | rfl
  ·exact h.now hi' m hm h3
  ·exact ⟨h1, h2⟩
theorem RIn.step {c : List En} (hc : Closed c) {a b : Us} {R : List Us} {i k : Nat} (h : RIn c a b R i k) (hi : i < R.length) (hk : k < (PE c R[i]).length) : Way (stepE c) a (PE c R[i])[k] := by
 have hs : stepE c R[i] (PE c R[i])[k] := (step_iff hc).2 (List.getElem_mem hk)
 obtain ⟨p, hp⟩ : ∃ p, (PE c R[i])[k] = p := ⟨_, rfl⟩
 rw [hp] at hs ⊢
 rcases h.way R[i] (List.getElem_mem hi) with e | e
 ·rw [e] at hs; exact .one hs
 ·exact e.more hs
theorem RIn.new {c : List En} (hc : Closed c) {a b : Us} {R : List Us} {i k : Nat} (h : RIn c a b R i k) (hi : i < R.length) (hk : k < (PE c R[i]).length) (h1 : (PE c R[i])[k] ∉ R) (h2 : (PE c R[i])[k] ≠ b) : RIn c a b (R ++ [(PE c R[i])[k]]) i (k + 1) := by
 have hw := h.step hc hi hk
 obtain ⟨p, hp⟩ : ∃ p, (PE c R[i])[k] = p := ⟨_, rfl⟩
 rw [hp] at h1 h2 hw ⊢
 have hget : ∀ j (hj : j < R.length), (R ++ [p])[j]'(by simp; omega) = R[j] := fun j hj => List.getElem_append_left hj
 refine ⟨?_, fun x hx => ?_, List.mem_append.2 (.inl h.fst), fun j hj hji y hy => ?_, fun hi' m hm hmk => ?_⟩
 ·rw [List.nodup_append]
  refine ⟨h.nd, by simp, fun x hx y hy e => ?_⟩
  simp at hy
  rw [← hy, ← e] at h1
  exact h1 hx
 ·rcases List.mem_append.1 hx with hx | hx
  ·exact h.way x hx
  ·simp at hx
   rw [hx]; exact .inr hw
 ·have hj' : j < R.length := by omega
  rw [hget j hj'] at hy
  have := h.done j hj' hji y hy
  exact ⟨List.mem_append.2 (.inl this.1), this.2⟩
 ·have e := hget i hi
  have hm2 : m < (PE c R[i]).length := by rw [e] at hm; exact hm
  have e2 : (PE c ((R ++ [p])[i]'hi'))[m]'hm = (PE c R[i])[m] := by simp only [e]
  rw [e2]
  rcases Nat.lt_succ_iff_lt_or_eq.1 hmk with h3 | rfl
  ·have := h.now hi m hm2 h3
   exact ⟨List.mem_append.2 (.inl this.1), this.2⟩
  ·rw [hp]
   exact ⟨List.mem_append.2 (.inr (by simp)), h2⟩
theorem RIn.next {c : List En} {a b : Us} {R : List Us} {i k : Nat} (h : RIn c a b R i k) (hi : i < R.length) (hk : (PE c R[i]).length ≤ k) : RIn c a b R (i + 1) 0 where
 nd := h.nd
 way := h.way
 fst := h.fst
 done := fun j hj hji y hy => by
  rcases Nat.lt_succ_iff_lt_or_eq.1 hji with h3 | rfl
  ·exact h.done j hj h3 y hy
  ·obtain ⟨m, hm, rfl⟩ := List.getElem_of_mem hy
   exact h.now hi m hm (by omega)
 now := fun _ m _ h => absurd h (Nat.not_lt_zero _)
theorem RIn.fin {c : List En} {a b : Us} {R : List Us} {i : Nat} (h : RIn c a b R i 0) (hi : R.length ≤ i) : ¬ Way (stepE c) a b := by
 have key : ∀ y, Way (stepE c) a y → y ∈ R ∧ y ≠ b := fun y hw => by
  induction hw with
  | one s =>
   obtain ⟨j, hj, e⟩ := List.getElem_of_mem h.fst
   exact h.done j hj (by omega) _ (by rw [e]; exact s.2.1)
  | more _ s ih =>
   obtain ⟨j, hj, e⟩ := List.getElem_of_mem ih.1
   exact h.done j hj (by omega) _ (by rw [e]; exact s.2.1)
 exact fun hw => (key b hw).2 rfl
theorem RIn.len {c : List En} {a b : Us} {R : List Us} {i k : Nat} (h : RIn c a b R i k) : R.length ≤ c.length + 1 := by
 have := len_sub R (a :: namesE c) h.nd fun x hx => by
  rcases h.way x hx with rfl | hw
  ·simp
  ·exact List.mem_cons_of_mem _ (way_to hw)
 simpa [namesE] using this
end Go.Proofs.YtnchohglplobeaaGreat
namespace Go.Proofs.YtnchohglplobeaaGreat
open Go.RowKit Go.Sort Go.Maps
theorem lowk {w a b : World} {k : Nat} (h : Low w a) (kb : KeptButv a b (some k)) (hk : w.heap.size ≤ k) : Low w b :=
 ⟨kb.1.trans h.1, kb.2.1.trans h.2.1, Nat.le_trans h.2.2.1 kb.2.2.1, fun i hi => (kb.2.2.2 i (Nat.lt_of_lt_of_le hi h.2.2.1) (by simp; omega)).trans (h.2.2.2 i hi)⟩
theorem Lo.k {o : Option Nat} {w a b : World} {k : Nat} (h : Lo o w a) (kb : KeptButv a b (some k)) (hk : w.heap.size ≤ k) : Lo o w b := by
 cases o with
 | none => exact lowk h kb hk
 | some m =>
  have h' : Lw m w a := h
  have hm : m < w.heap.size := h'.map.lt
  have hs := h'.size
  exact (⟨kb.1.trans h'.os, kb.2.1.trans h'.out, Nat.le_trans h'.size kb.2.2.1, fun i hi hne => (kb.2.2.2 i (by omega) (by simp; omega)).trans (h'.block i hi hne), h'.map, h'.map'.block (kb.2.2.2 m (by omega) (by simp; omega))⟩ : Lw m w b)
theorem Rep.k {A : Nat → Prop} {w w' : World} {k : Nat} {x : V} {it nm : Value} (h : Rep A w x it nm) (kb : KeptButv w w' (some k)) (hA : ¬ A k) : Rep A w' x it nm :=
 Rep.to (fun b ha hb => ⟨ha, kb.2.2.2 b hb (by simp; intro e; subst e; exact hA ha)⟩) x h
theorem Rep.mono {A A' : Nat → Prop} {w : World} {x : V} {it nm : Value} (h : Rep A w x it nm) (hA : ∀ b, A b → A' b) : Rep A' w x it nm :=
 Rep.to (fun b ha _ => ⟨hA b ha, rfl⟩) x h
theorem Rep.lt {A : Nat → Prop} {w : World} {x : V} {it nm : Value} (h : Rep A w x it nm) : Rep (fun b => A b ∧ b < w.heap.size) w x it nm :=
 Rep.to (fun b ha hb => ⟨⟨ha, hb⟩, rfl⟩) x h
theorem Rep.r {A : Nat → Prop} {w : World} {x : V} {it nm : Value} (h : Rep A w x it nm) : R w x it nm := h.mono fun _ _ => trivial
theorem BoxAtv.lo {o : Option Nat} {w w' : World} {n : Nat} {cs : List Value} (h : BoxAtv w n cs) (l : Lo o w w') (h0 : cs ≠ []) : BoxAtv w' n cs := by
 cases o with
 | none => exact h.low l
 | some m =>
  have l' : Lw m w w' := l
  cases cs with
  | nil => exact absurd rfl h0
  | cons c cs =>
   have hne : n ≠ m := cell_noMap l'.map (h.at 0 c rfl)
   have hb := l'.block n h.lt hne
   exact { cells := fun j v hj => l'.keep (h.cells j v hj), open' := fun q => by rw [World.frozen?_of_block (w := w) (w' := w') (a := ⟨n, q, none⟩) hb]; exact h.open' q, lt := Nat.lt_of_lt_of_le h.lt l'.size }
theorem Sx.ptr (X : Sx) : ∃ p, X.v = .pointer p := by
 cases X with
 | none => exact ⟨_, rfl⟩
 | some z => exact ⟨_, rfl⟩
theorem Sx.step {X : Sx} {w w1 w2 : World} (h0 : X.at w) (l : Lo X.m w w2) (h1 : X.at w1) (hm : ∀ m, X.m = some m → w2.heap[m]? = w1.heap[m]?) : X.at w2 := by
 cases X with
 | none => trivial
 | some z =>
  refine ⟨?_, h1.2⟩
  obtain ⟨ks0, -, s0⟩ := h0.1
  obtain ⟨ks1, a1, s1⟩ := h1.1
  obtain ⟨n, hn, hmap⟩ := s1.abv
  exact ⟨ks1, a1, s0.turned (show Lw z.1.ma w w2 from l) hn (hmap.block (hm _ rfl))⟩
structure Go (X : Sx) (w w' : World) : Prop where
 at0 : X.at w
 lo : Lo X.m w w'
 at1 : X.at w'
theorem Go.refl {X : Sx} {w : World} (h : X.at w) : Go X w w := ⟨h, Lo.refl (Sx.ok h), h⟩
theorem Go.trans {X : Sx} {a b c : World} (h : Go X a b) (k : Go X b c) : Go X a c := ⟨h.at0, h.lo.trans k.lo, k.at1⟩
theorem Go.low {X : Sx} {a b c : World} (h : Go X a b) (k : Low b c) : Go X a c := ⟨h.at0, h.lo.low k, Sx.low h.at1 k⟩
theorem Go.of {X : Sx} {a b : World} (h : X.at a) (k : Low a b) : Go X a b := (Go.refl h).low k
theorem Go.ofN {a b : World} (k : Low a b) : Go none a b := ⟨trivial, k, trivial⟩
theorem str_beq (a b : ByteArray) : (a.toList == b.toList) = decide (a = b) := by
 by_cases h : a = b
 ·subst h; simp
 ·rw [decide_eq_false h, beq_eq_false_iff_ne]
  exact fun e => h (tl_injE e)
theorem Go.size {X : Sx} {a b : World} (h : Go X a b) : a.heap.size ≤ b.heap.size := h.lo.size
theorem Go.k {X : Sx} {w a b : World} {k : Nat} (h : Go X w a) (kb : KeptButv a b (some k)) (hk : w.heap.size ≤ k) : Go X w b := by
 refine ⟨h.at0, h.lo.k kb hk, Sx.step h.at0 (h.lo.k kb hk) h.at1 fun m e => ?_⟩
 have h1 := (Sx.ok h.at0 m e).lt
 have h2 := h.size
 exact kb.2.2.2 m (by omega) (by simp; omega)
theorem Go.r {X : Sx} {w w' : World} (g : Go X w w') {A : Nat → Prop} {x : V} {it nm : Value} (h : Rep A w x it nm) : Rep A w' x it nm := h.lo g.lo
theorem Go.keep {X : Sx} {w w' : World} (g : Go X w w') {p : Addr} {v : Value} (hc : w.cell? p = some v) : w'.cell? p = some v := g.lo.keep hc
theorem Go.box {X : Sx} {w w' : World} (g : Go X w w') {n : Nat} {cs : List Value} (h : BoxAtv w n cs) (h0 : cs ≠ []) : BoxAtv w' n cs := h.lo g.lo h0
theorem inX_c {X : Sx} (w : World) (hX : X.at w) (a b : Us) :
  Calls Tryz.prog 36 #[X.v, .agg #[.string a.t, .string a.i], .agg #[.string b.t, .string b.i]] w fun e w' => e = .returned (.bool (X.isIn a b)) ∧ Go X w w' := by
 cases X with
 | none =>
  refine (in_nil w a b).mono ?_
  rintro e w' ⟨rfl, l⟩
  exact ⟨rfl, Go.of trivial l⟩
 | some z =>
  refine (in_c w z.1 z.2 a b hX.1 hX.2).mono ?_
  rintro e w' ⟨rfl, h1, h2⟩
  exact ⟨rfl, hX, h2, h1, hX.2⟩
def GetX (X : Sx) (u : Us) (w : World) (e : Ending) (w' : World) : Prop := ∃ (t i : ByteArray) (pa : Option Addr) (pl pc : Nat) (v : V) (ai : Option Addr) (ci : Nat) (an : Option Addr) (cn : Nat), (match X.ent u with | some r => v = r | none => True) ∧
 e = .returned (.tuple #[.agg #[.string t, .string i, .slice pa pl pc, .int .i64 v.h.k, .bool v.h.b, .int .i64 v.h.n, .string v.h.s, .string v.h.t, .string v.h.i, .slice ai v.l.length ci, .slice an v.ns.length cn], .bool (X.ent u).isSome]) ∧ Rep (fun b => w.heap.size ≤ b) w' v (.slice ai v.l.length ci) (.slice an v.ns.length cn) ∧ Low w w'
theorem getX_c {X : Sx} (w : World) (hX : X.at w) (u : Us) : Calls Tryz.prog 179 #[X.v, .agg #[.string u.t, .string u.i]] w (GetX X u w) := by
 cases X with
 | none =>
  refine (get_nil w u).mono ?_
  rintro e w' ⟨rfl, l⟩
  exact ⟨⟨#[]⟩, ⟨#[]⟩, none, 0, 0, V0, none, 0, none, 0, trivial, rfl, rep_V0 _ _, l⟩
 | some z =>
  refine (get6_c w z.1 z.2 u hX.1 hX.2).mono ?_
  rintro e w' ⟨x, hx, rfl, hf, l⟩
  refine ⟨x.e.u.t, x.e.u.i, x.ap, x.e.ps.length, x.cp, x.e.a, x.ai, x.ci, x.an, x.cn, ?_, ?_, hf.ok.2, l⟩
  ·show (match (fstQ z.2 u).map (·.e.a) with | some r => x.e.a = r | none => True)
   cases h : fstQ z.2 u with
   | none => trivial
   | some q => rw [hx, h]; rfl
  ·show _ = Ending.returned (.tuple #[_, .bool ((fstQ z.2 u).map (·.e.a)).isSome])
   rw [Option.isSome_map, fstQ_there]
def VR (X : Sx) (A : Nat → Prop) (p : Int × V) (w : World) (e : Ending) (w' : World) : Prop :=
 ∃ ai ci an cn, e = .returned (.tuple #[av8 p.2.h ai p.2.l.length ci an p.2.ns.length cn, .int .i64 p.1]) ∧ Rep (fun b => A b ∨ w.heap.size ≤ b) w' p.2 (.slice ai p.2.l.length ci) (.slice an p.2.ns.length cn) ∧ Go X w w'
abbrev set8 (w : World) (k : Nat) (c0 c1 c2 c3 c4 c5 c6 c7 : Value) : World := (((((((w.setCell ⟨k, 0, none⟩ c0).setCell ⟨k, 1, none⟩ c1).setCell ⟨k, 2, none⟩ c2).setCell ⟨k, 3, none⟩ c3).setCell ⟨k, 4, none⟩ c4).setCell ⟨k, 5, none⟩ c5).setCell ⟨k, 6, none⟩ c6).setCell ⟨k, 7, none⟩ c7
theorem vr_put {X : Sx} {A : Nat → Prop} {p : Int × V} {w U w1 : World} {k : Nat} {ai : Option Addr} {ci : Nat} {an : Option Addr} {cn : Nat} {c0 c1 c2 c3 c4 c5 c6 c7 : Value}
  (hr : Rep (fun b => A b ∨ U.heap.size ≤ b) w1 p.2 (.slice ai p.2.l.length ci) (.slice an p.2.ns.length cn)) (g : Go X w w1) (hU : w.heap.size ≤ U.heap.size) (hk : w.heap.size ≤ k ∧ k < U.heap.size) (hA : ∀ b, A b → b < w.heap.size) :
  VR X A p w (.returned (.tuple #[av8 p.2.h ai p.2.l.length ci an p.2.ns.length cn, .int .i64 p.1])) (set8 w1 k c0 c1 c2 c3 c4 c5 c6 c7) := by
 have K := kept8 w1 k c0 c1 c2 c3 c4 c5 c6 c7
 have h1 := Rep.k hr K (k := k) (by rintro (h | h); exact absurd (hA k h) (by omega); omega)
 refine ⟨_, _, _, _, rfl, h1.mono fun b hb => ?_, g.k K hk.1⟩
 rcases hb with h | h
 ·exact .inl h
 ·exact .inr (Nat.le_trans hU h)
theorem vr_tru {X : Sx} {A : Nat → Prop} {w w' : World} {b : Bool} (g : Go X w w') : VR X A (0, truV b) w (.returned (.tuple #[trV b, .int .i64 0])) w' :=
 ⟨none, 0, none, 0, rfl, rep_flat bh_zero, g⟩
theorem vr_num {X : Sx} {A : Nat → Prop} {w w' : World} {n : Int} (g : Go X w w') : VR X A (0, numV n) w (.returned (.tuple #[nuV n, .int .i64 0])) w' :=
 ⟨none, 0, none, 0, rfl, rep_flat bh_zero, g⟩
theorem vr_ref {X : Sx} {A : Nat → Prop} {w w' : World} {t i : ByteArray} (ht : t.size ≤ 9223372036854775807) (hi : i.size ≤ 9223372036854775807) (g : Go X w w') : VR X A (0, refE4 t i) w (.returned (.tuple #[reV t i, .int .i64 0])) w' :=
 ⟨none, 0, none, 0, rfl, rep_flat ⟨Nat.zero_le _, ht, hi⟩, g⟩
theorem vr_err {X : Sx} {A : Nat → Prop} {w w' : World} {k : Int} (g : Go X w w') : VR X A (k, V0) w (.returned (.tuple #[zeV, .int .i64 k])) w' :=
 ⟨none, 0, none, 0, rfl, rep_V0 _ _, g⟩
theorem VR.up {X : Sx} {A : Nat → Prop} {p : Int × V} {w w' : World} {e : Ending} (h : VR none A p w e w') (hX : X.at w) : VR X A p w e w' := by
 obtain ⟨ai, ci, an, cn, he, hr, g⟩ := h
 exact ⟨ai, ci, an, cn, he, hr, Go.of hX g.lo⟩
theorem boxes1 (w : World) (C0 : List Value) (t0 : TypeId) : ∃ U, Hid (U = (w.alloc (.cells C0.toArray t0))) ∧ Hid (Low w U) ∧ Hid (U.heap.size = w.heap.size + 1) ∧ Hid (BoxAtv U w.heap.size C0) :=
 ⟨_, Lib.hid rfl, Lib.hid (Low.alloc (Low.refl _) _), Lib.hid (by simp), Lib.hid (BoxAtv.low (BoxAtv.made rfl (by simp) rfl) (Low.refl _))⟩
theorem boxes2 (w : World) (C0 : List Value) (t0 : TypeId) (C1 : List Value) (t1 : TypeId) : ∃ U, Hid (U = ((w.alloc (.cells C0.toArray t0)).alloc (.cells C1.toArray t1))) ∧ Hid (Low w U) ∧ Hid (U.heap.size = w.heap.size + 2) ∧ Hid (BoxAtv U w.heap.size C0) ∧ Hid (BoxAtv U (w.heap.size + 1) C1) :=
 ⟨_, Lib.hid rfl, Lib.hid (Low.alloc (Low.alloc (Low.refl _) _) _), Lib.hid (by simp), Lib.hid (BoxAtv.low (BoxAtv.made rfl (by simp) rfl) (Low.alloc (Low.refl _) _)), Lib.hid (BoxAtv.low (BoxAtv.made rfl (by simp) rfl) (Low.refl _))⟩
theorem boxes3 (w : World) (C0 : List Value) (t0 : TypeId) (C1 : List Value) (t1 : TypeId) (C2 : List Value) (t2 : TypeId) : ∃ U, Hid (U = (((w.alloc (.cells C0.toArray t0)).alloc (.cells C1.toArray t1)).alloc (.cells C2.toArray t2))) ∧ Hid (Low w U) ∧ Hid (U.heap.size = w.heap.size + 3) ∧ Hid (BoxAtv U w.heap.size C0) ∧ Hid (BoxAtv U (w.heap.size + 1) C1) ∧ Hid (BoxAtv U (w.heap.size + 2) C2) :=
 ⟨_, Lib.hid rfl, Lib.hid (Low.alloc (Low.alloc (Low.alloc (Low.refl _) _) _) _), Lib.hid (by simp), Lib.hid (BoxAtv.low (BoxAtv.made rfl (by simp) rfl) (Low.alloc (Low.alloc (Low.refl _) _) _)), Lib.hid (BoxAtv.low (BoxAtv.made rfl (by simp) rfl) (Low.alloc (Low.refl _) _)), Lib.hid (BoxAtv.low (BoxAtv.made rfl (by simp) rfl) (Low.refl _))⟩
theorem boxes4 (w : World) (C0 : List Value) (t0 : TypeId) (C1 : List Value) (t1 : TypeId) (C2 : List Value) (t2 : TypeId) (C3 : List Value) (t3 : TypeId) : ∃ U, Hid (U = ((((w.alloc (.cells C0.toArray t0)).alloc (.cells C1.toArray t1)).alloc (.cells C2.toArray t2)).alloc (.cells C3.toArray t3))) ∧ Hid (Low w U) ∧ Hid (U.heap.size = w.heap.size + 4) ∧ Hid (BoxAtv U w.heap.size C0) ∧ Hid (BoxAtv U (w.heap.size + 1) C1) ∧ Hid (BoxAtv U (w.heap.size + 2) C2) ∧ Hid (BoxAtv U (w.heap.size + 3) C3) :=
 ⟨_, Lib.hid rfl, Lib.hid (Low.alloc (Low.alloc (Low.alloc (Low.alloc (Low.refl _) _) _) _) _), Lib.hid (by simp), Lib.hid (BoxAtv.low (BoxAtv.made rfl (by simp) rfl) (Low.alloc (Low.alloc (Low.alloc (Low.refl _) _) _) _)), Lib.hid (BoxAtv.low (BoxAtv.made rfl (by simp) rfl) (Low.alloc (Low.alloc (Low.refl _) _) _)), Lib.hid (BoxAtv.low (BoxAtv.made rfl (by simp) rfl) (Low.alloc (Low.refl _) _)), Lib.hid (BoxAtv.low (BoxAtv.made rfl (by simp) rfl) (Low.refl _))⟩
end Go.Proofs.YtnchohglplobeaaGreat
namespace Go.Proofs.YtnchohglplobeaaGreat
open Go.RowKit Go.Sort
theorem rowA_at {A : Nat → Prop} {w : World} {l : List V} {ao : Option Addr} {n cap i : Nat} (hr : RowAt A w l (.slice ao n cap)) (hi : i < l.length) : ∃ b o ai ci an cn, ao = some ⟨b, o, none⟩ ∧
  CellsAtv w b (o + i * 8) (hdc l[i].h (.slice ai l[i].l.length ci) (.slice an l[i].ns.length cn)) ∧ Rep A w l[i] (.slice ai l[i].l.length ci) (.slice an l[i].ns.length cn) := by
 obtain ⟨ai, ci, he, hli, hx⟩ := hr
 simp only [Value.slice.injEq] at he
 obtain ⟨rfl, rfl, rfl⟩ := he
 rcases hx with h0 | ⟨b, o, rfl, ha, hf⟩
 ·rw [h0] at hi; exact absurd hi (Nat.not_lt_zero _)
 ·obtain ⟨it, nm, hcs, hrx⟩ := repF_at hf i hi
  obtain ⟨ai, ci, an, cn, rfl, rfl⟩ := r_slices hrx.r
  exact ⟨b, o, ai, ci, an, cn, rfl, hcs, hrx⟩
def GetPA (A : Nat → Prop) (x : V) (b : Bool) (w : World) (e : Ending) (w' : World) : Prop := ∃ it nm, e = .returned (.tuple #[avv x.h it nm, .bool b]) ∧ Rep A w' x it nm ∧ Gr w w'
set_option maxHeartbeats 1600000 in
theorem get_cA {A : Nat → Prop} (v : V) (x : ByteArray) (w : World) (it nm : Value) (hr : Rep A w v it nm) : Calls Tryz.prog 143 #[avv v.h it nm, .string x] w (GetPA A (getV v x) (decide (0 ≤ getI v x)) w) := by
 obtain ⟨ai, ci, an, cn, rfl, rfl⟩ := r_slices hr.r
 have NA := Lib.hid (show Na w v.ns (.slice an v.ns.length cn) from (rep_v.1 hr.r).2.1)
 have RA := Lib.hid (show RowAt A w v.l (.slice ai v.l.length ci) from (rep_v.1 hr).2.2)
 clear hr
 by_cases hk : v.h.k = 6
 ·obtain ⟨j, hj⟩ : ∃ j, j = Lib.idxOfS v.ns x := ⟨_, rfl⟩
  have CI := Lib.hid fun W h => sIdx_c v.ns x W (.slice an v.ns.length cn) h
  rw [← hj] at CI
  have hgi : getI v x = if j < 0 ∨ (v.l.length : Int) ≤ j then -1 else j := by rw [hj]; unfold getI; rw [if_pos hk]
  clear hj
  by_cases h1 : j < 0
  ·have e1 : getI v x = -1 := by rw [hgi, if_pos (.inl h1)]
   have e2 : getV v x = V0 := by unfold getV; rw [e1]; rfl
   have e3 : decide (0 ≤ getI v x) = false := by rw [e1]; rfl
   rw [e2, e3]
   unfold avv
   rw [hk]
   clear e1 e2 e3
   clear hgi hk
   go_enter Tryz.func143, Tryz.ntmps143
   go_wp2_with fail
   refine (CI.out _ (NA.out.low ((Gr.alloc (Gr.alloc (Gr.refl w) _) _).low))).mono ?_
   rintro e w' ⟨rfl, rfl⟩
   go_wp2_with fail
   refine bodyPost_ret (v := .tuple #[.agg #[.int .i64 0, .bool false, .int .i64 0, .string ⟨#[]⟩, .string ⟨#[]⟩, .string ⟨#[]⟩, .slice none 0 0, .slice none 0 0], .bool false]) (by simp [results, Tryz.results143, go_sem]; try rfl) rfl ?_
   exact ⟨_, _, rfl, rep_V0 _ _, Gr.alloc (Gr.alloc (Gr.refl w) _) _⟩
  ·by_cases h2 : (v.l.length : Int) ≤ j
   ·have e1 : getI v x = -1 := by rw [hgi, if_pos (.inr h2)]
    have e2 : getV v x = V0 := by unfold getV; rw [e1]; rfl
    have e3 : decide (0 ≤ getI v x) = false := by rw [e1]; rfl
    rw [e2, e3]
    unfold avv
    rw [hk]
    clear e1 e2 e3
    clear hgi hk
    go_enter Tryz.func143, Tryz.ntmps143
    go_wp2_with fail
    refine (CI.out _ (NA.out.low ((Gr.alloc (Gr.alloc (Gr.refl w) _) _).low))).mono ?_
    rintro e w' ⟨rfl, rfl⟩
    go_wp2_with fail
    refine bodyPost_ret (v := .tuple #[.agg #[.int .i64 0, .bool false, .int .i64 0, .string ⟨#[]⟩, .string ⟨#[]⟩, .string ⟨#[]⟩, .slice none 0 0, .slice none 0 0], .bool false]) (by simp [results, Tryz.results143, go_sem]; try rfl) rfl ?_
    exact ⟨_, _, rfl, rep_V0 _ _, Gr.alloc (Gr.alloc (Gr.refl w) _) _⟩
   ·have e1 : getI v x = j := by rw [hgi, if_neg (by omega)]
    obtain ⟨q, rfl⟩ : ∃ q : Nat, j = q := ⟨j.toNat, by omega⟩
    have hq : q < v.l.length := by omega
    have e2 : getV v x = v.l[q] := by unfold getV; rw [e1, if_pos (by omega)]; simp [List.getD, List.getElem?_eq_getElem hq]
    have e3 : decide (0 ≤ getI v x) = true := by rw [e1]; simp
    rw [e2, e3]
    clear e1 e2 e3 h1
    have h3 : (q : Int) < (v.l.length : Int) := by omega
    obtain ⟨b, o, bi, di, bn, dn, rfl, hcs, hrx⟩ := rowA_at RA.out hq
    have k8 : ∀ X Y, CellsAtv ((w.alloc X).alloc Y) b (o + q * 8) (hdc v.l[q].h (.slice bi v.l[q].l.length di) (.slice bn v.l[q].ns.length dn)) := fun X Y => (Gr.alloc (Gr.alloc (Gr.refl w) _) _).low.cells hcs
    have c0 := fun X Y => (cells8 (k8 X Y)).1
    have c1 := fun X Y => (cells8 (k8 X Y)).2.1
    have c2 := fun X Y => (cells8 (k8 X Y)).2.2.1
    have c3 := fun X Y => (cells8 (k8 X Y)).2.2.2.1
    have c4 := fun X Y => (cells8 (k8 X Y)).2.2.2.2.1
    have c5 := fun X Y => (cells8 (k8 X Y)).2.2.2.2.2.1
    have c6 := fun X Y => (cells8 (k8 X Y)).2.2.2.2.2.2.1
    have c7 := fun X Y => (cells8 (k8 X Y)).2.2.2.2.2.2.2
    have HX := Lib.hid hrx
    clear hcs hrx k8 hgi
    unfold avv
    rw [hk]
    clear hk
    go_enter Tryz.func143, Tryz.ntmps143
    go_wp2_with fail
    refine (CI.out _ (NA.out.low ((Gr.alloc (Gr.alloc (Gr.refl w) _) _).low))).mono ?_
    rintro e w' ⟨rfl, rfl⟩
    go_wp2_with fail
    refine bodyPost_ret (v := .tuple #[.agg #[.int .i64 v.l[q].h.k, .bool v.l[q].h.b, .int .i64 v.l[q].h.n, .string v.l[q].h.s, .string v.l[q].h.t, .string v.l[q].h.i, .slice bi v.l[q].l.length di, .slice bn v.l[q].ns.length dn], .bool true]) (by simp [results, Tryz.results143, go_sem]; try rfl) rfl ?_
    exact ⟨_, _, rfl, HX.out.low (Gr.alloc (Gr.alloc (Gr.refl w) _) _).low, Gr.alloc (Gr.alloc (Gr.refl w) _) _⟩
 ·have e1 : getI v x = -1 := by unfold getI; rw [if_neg hk]
  have e2 : getV v x = V0 := by unfold getV; rw [e1]; rfl
  have e3 : decide (0 ≤ getI v x) = false := by rw [e1]; rfl
  rw [e2, e3]
  unfold avv
  clear e1 e2 e3
  go_enter Tryz.func143, Tryz.ntmps143
  go_wp2_with fail
  refine bodyPost_ret (v := .tuple #[.agg #[.int .i64 0, .bool false, .int .i64 0, .string ⟨#[]⟩, .string ⟨#[]⟩, .string ⟨#[]⟩, .slice none 0 0, .slice none 0 0], .bool false]) (by simp [results, Tryz.results143, go_sem]; try rfl) rfl ?_
  exact ⟨_, _, rfl, rep_V0 _ _, Gr.alloc (Gr.alloc (Gr.refl w) _) _⟩
end Go.Proofs.YtnchohglplobeaaGreat
namespace Go.Proofs.YtnchohglplobeaaGreat
open Go.RowKit
def firstI {α : Type} (l : List α) (f : α → Bool) : Int := match l.findIdx? f with
 | some i => (i : Int)
 | none => -1
theorem firstI_some {α : Type} {l : List α} {f : α → Bool} {i : Nat} (hi : i < l.length) (h1 : f l[i] = true) (h2 : ∀ j (hj : j < l.length), j < i → f l[j] = false) : firstI l f = (i : Int) := by
 unfold firstI
 have : l.findIdx? f = some i := by
  rw [List.findIdx?_eq_some_iff_getElem]
  exact ⟨hi, h1, fun j hj => by have := h2 j (by omega) hj; simp [this]⟩
 rw [this]
theorem firstI_none {α : Type} {l : List α} {f : α → Bool} (h : ∀ j (hj : j < l.length), f l[j] = false) : firstI l f = -1 := by
 unfold firstI
 have : l.findIdx? f = none := by
  rw [List.findIdx?_eq_none_iff]
  intro x hx
  obtain ⟨j, hj, rfl⟩ := List.getElem_of_mem hx
  exact h j hj
 rw [this]
theorem firstI_cases {α : Type} (l : List α) (f : α → Bool) : (∃ i, ∃ hi : i < l.length, firstI l f = (i : Int) ∧ f l[i] = true ∧ ∀ j (hj : j < l.length), j < i → f l[j] = false) ∨ (firstI l f = -1 ∧ ∀ j (hj : j < l.length), f l[j] = false) := by
 unfold firstI
 cases h : l.findIdx? f with
 | some i =>
  obtain ⟨hi, h1, h2⟩ := List.findIdx?_eq_some_iff_getElem.1 h
  exact .inl ⟨i, hi, rfl, h1, fun j hj hji => by have := h2 j hji; simpa using this⟩
 | none =>
  rw [List.findIdx?_eq_none_iff] at h
  exact .inr ⟨rfl, fun j hj => h _ (List.getElem_mem hj)⟩
theorem firstI_any {α : Type} (l : List α) (f : α → Bool) : decide (0 ≤ firstI l f) = l.any f := by
 rcases firstI_cases l f with ⟨i, hi, e, h1, -⟩ | ⟨e, h⟩
 ·rw [e]
  have : l.any f = true := List.any_eq_true.2 ⟨_, List.getElem_mem hi, h1⟩
  rw [this]; simp
 ·rw [e]
  have : l.any f = false := by
   rw [List.any_eq_false]
   intro x hx
   obtain ⟨j, hj, rfl⟩ := List.getElem_of_mem hx
   simp [h j hj]
  rw [this]; rfl
end Go.Proofs.YtnchohglplobeaaGreat
namespace Go.Proofs.YtnchohglplobeaaGreat
open Go.RowKit Go.Sort Go.Maps
theorem retB14 {a b : Bool} (h : a = b) : Ending.returned (.bool a) = .returned (.bool b) := by rw [h]
theorem us_at14 {w : World} {l : List Us} {p : Option Addr} {m c : Nat} (h : UsAt w (.slice p m c) l) {j : Nat} (hj : j < l.length) : ∃ b o, p = some ⟨b, o, none⟩ ∧ CellsAtv w b (o + j * 2) l[j].cs := by
 obtain ⟨q, cap, hq, -, hr⟩ := h
 simp only [Value.slice.injEq] at hq
 obtain ⟨rfl, -, -⟩ := hq
 exact hr j hj
theorem UsAt.lo {o : Option Nat} {w w' : World} {r : Value} {l : List Us} (hu : UsAt w r l) (h : Lo o w w') : UsAt w' r l := by
 cases o with
 | none => exact UsAt.low hu h
 | some m => exact UsAt.lw h hu
set_option maxHeartbeats 1600000 in
theorem idxU14_c {X : Sx} (l : List Us) (f : Us → Bool) (x0 x1 : Nat) (w : World) (hX : X.at w) (v : Value) (h : UsAt w v l) (hc : ∀ j (hj : j < l.length) (W : World), Go X w W → Calls Tryz.prog 79 #[.agg #[.string l[j].t, .string l[j].i], .pointer (some ⟨x0, 0, none⟩), .pointer (some ⟨x1, 0, none⟩)] W fun r W' => r = .returned (.bool (f l[j])) ∧ Go X W W') :
  Calls Tryz.prog 117 #[v, .func (.func 79) #[] #[.pointer (some ⟨x0, 0, none⟩), .pointer (some ⟨x1, 0, none⟩)]] w fun e w' => e = .returned (.int .i64 (firstI l f)) ∧ Go X w w' := by
 obtain ⟨p, c, rfl, ⟨z1, z2⟩, -⟩ := id h
 have HA := Lib.hid h
 have HC := Lib.hid hc
 have HX0 := Lib.hid hX
 obtain ⟨r, hr⟩ : ∃ r, r = firstI l f := ⟨_, rfl⟩
 have CS := Lib.hid (show ∀ i (hi : i < l.length), f l[i] = true → (∀ j (hj : j < l.length), j < i → f l[j] = false) → (i : Int) = r from fun i hi h1 h2 => by rw [hr, firstI_some hi h1 h2])
 have CN := Lib.hid (show (∀ j (hj : j < l.length), f l[j] = false) → -1 = r from fun h2 => by rw [hr, firstI_none h2])
 rw [← hr]
 clear h hr hc hX
 go_enter Tryz.func117, Tryz.ntmps117
 go_wp2_with fail
 go_loopg [5, 8] l.length (fun gk vx vi wr => ∃ i : Nat, vi = .int .i64 (i : Int) ∧ i ≤ l.length ∧ l.length - i ≤ gk ∧ Hid (Go X w wr) ∧ Hid (∀ j (hj : j < l.length), j < i → f l[j] = false))
 case atStart => exact ⟨0, rfl, Nat.zero_le _, Nat.le_refl _, Lib.hid (Go.refl HX0.out), Lib.hid fun j hj h => absurd h (Nat.not_lt_zero _)⟩
 case round =>
  obtain ⟨i, rfl, hi, hg, G, K⟩ := hrel
  by_cases hlt : i < l.length
  ·have zl : (i : Int) < (l.length : Int) := by omega
   obtain ⟨b, o, rfl, hcs⟩ := us_at14 (UsAt.lo HA.out G.out.lo) hlt
   obtain ⟨e0, e1⟩ := cells2 hcs
   have HF := Lib.hid (HC.out i hlt wr G.out)
   obtain ⟨q, hq⟩ : ∃ q, q = f l[i] := ⟨_, rfl⟩
   rw [← hq] at HF
   have HQ := Lib.hid hq
   clear hcs hq
   go_wp2_with fail
   refine HF.out.mono ?_
   rintro e w' ⟨rfl, l1⟩
   have G2 := Lib.hid (G.out.trans l1)
   clear l1 HF
   cases q with
   | true =>
    have HQ2 := Lib.hid (CS.out i hlt HQ.out.symm K.out)
    go_wp2_with fail
    go_ret
    exact ⟨retI HQ2.out, G2.out⟩
   | false =>
    go_wp2_with fail
    go_roundg (l.length - (i + 1))
    case measure => omega
    case rel =>
     refine ⟨i + 1, by go_num, by omega, by omega, G2, Lib.hid fun j hj hji => ?_⟩
     rcases Nat.lt_succ_iff_lt_or_eq.1 hji with h | rfl
     ·exact K.out j hj h
     ·exact HQ.out.symm
  ·have zl : ¬ (i : Int) < (l.length : Int) := by omega
   have HQ2 := Lib.hid (CN.out fun j hj => K.out j hj (by omega))
   go_wp2_with fail
   go_ret
   exact ⟨retI HQ2.out, G.out⟩
theorem conU14_c {X : Sx} (l : List Us) (f : Us → Bool) (x0 x1 : Nat) (w : World) (hX : X.at w) (v : Value) (h : UsAt w v l) (hc : ∀ j (hj : j < l.length) (W : World), Go X w W → Calls Tryz.prog 79 #[.agg #[.string l[j].t, .string l[j].i], .pointer (some ⟨x0, 0, none⟩), .pointer (some ⟨x1, 0, none⟩)] W fun r W' => r = .returned (.bool (f l[j])) ∧ Go X W W') :
  Calls Tryz.prog 78 #[v, .func (.func 79) #[] #[.pointer (some ⟨x0, 0, none⟩), .pointer (some ⟨x1, 0, none⟩)]] w fun e w' => e = .returned (.bool (l.any f)) ∧ Go X w w' := by
 have HI := Lib.hid (idxU14_c l f x0 x1 w hX v h hc)
 obtain ⟨p, c, rfl, z1, z2⟩ := id h
 obtain ⟨r, hr⟩ : ∃ r, r = firstI l f := ⟨_, rfl⟩
 rw [← hr] at HI
 have HR := Lib.hid (show decide (0 ≤ r) = l.any f by rw [hr]; exact firstI_any l f)
 clear h hc hr z1 z2 hX
 go_enter Tryz.func78, Tryz.ntmps78
 go_wp2_with fail
 refine HI.out.mono ?_
 rintro e w' ⟨rfl, l1⟩
 go_wp2_with fail
 go_ret
 exact ⟨retB14 HR.out, l1⟩
theorem inOne_c {X : Sx} (a u : Us) (x0 x1 : Nat) (w : World) (hX : X.at w) (h0 : w.cell? ⟨x0, 0, none⟩ = some X.v) (h1 : w.cell? ⟨x1, 0, none⟩ = some (.string a.t)) (h2 : w.cell? ⟨x1, 1, none⟩ = some (.string a.i)) :
  Calls Tryz.prog 79 #[.agg #[.string u.t, .string u.i], .pointer (some ⟨x0, 0, none⟩), .pointer (some ⟨x1, 0, none⟩)] w fun e w' => e = .returned (.bool (X.isIn a u)) ∧ Go X w w' := by
 have HC := Lib.hid fun W (h : Low w W) => inX_c W (Sx.low hX h) a u
 have HX := Lib.hid hX
 generalize X.isIn a u = q at HC ⊢
 obtain ⟨xp, hxp⟩ := Sx.ptr X
 simp only [hxp] at HC h0 ⊢
 have h0' := fun Y => (Low.alloc (Low.refl w) Y).keep h0
 have h1' := fun Y => (Low.alloc (Low.refl w) Y).keep h1
 have h2' := fun Y => (Low.alloc (Low.refl w) Y).keep h2
 clear h0 h1 h2 hX
 go_enter Tryz.func79, Tryz.ntmps79
 go_wp2_with fail
 refine (HC.out _ (Low.alloc (Low.refl w) _)).mono ?_
 rintro e w1 ⟨rfl, g⟩
 have HG := Lib.hid g
 clear g HC
 go_wp2_with fail
 go_ret
 exact ⟨rfl, (Go.of HX.out (Low.alloc (Low.refl w) _)).trans HG.out⟩
theorem inOneOf_c {X : Sx} (a : Us) (l : List Us) (w : World) (hX : X.at w) (v : Value) (h : UsAt w v l) :
  Calls Tryz.prog 37 #[.agg #[.string a.t, .string a.i], v, X.v] w fun e w' => e = .returned (.bool (l.any fun u => X.isIn a u)) ∧ Go X w w' := by
 have HC := Lib.hid fun W (l2 : Low w W) (x0 x1 : Nat) (h0 : W.cell? ⟨x0, 0, none⟩ = some X.v) (h1 : W.cell? ⟨x1, 0, none⟩ = some (.string a.t)) (h2 : W.cell? ⟨x1, 1, none⟩ = some (.string a.i)) => conU14_c (X := X) l (fun u => X.isIn a u) x0 x1 W (Sx.low hX l2) v (h.low l2) fun j hj W' g => inOne_c a l[j] x0 x1 W' g.at1 (g.keep h0) (g.keep h1) (g.keep h2)
 obtain ⟨p, c, rfl, ⟨z1, z2⟩, -⟩ := id h
 have HX := Lib.hid hX
 generalize (l.any fun u => X.isIn a u) = q at HC ⊢
 obtain ⟨xp, hxp⟩ := Sx.ptr X
 simp only [hxp] at HC ⊢
 clear h hX
 obtain ⟨U, HU, LU, ZU, BA, BX⟩ := boxes2 w [.string a.t, .string a.i] 23 [.pointer xp] 36
 go_enter Tryz.func37, Tryz.ntmps37
 go_upto_region 1 with fail
 rw [← HU.out]
 clear HU
 have HCC := Lib.hid (HC.out U LU.out (w.heap.size + 1) w.heap.size (BX.out.at 0 _ rfl) BA.out.at2.1 BA.out.at2.2)
 clear HC
 go_wp2_with fail
 refine HCC.out.mono ?_
 rintro e w1 ⟨rfl, g⟩
 have HG := Lib.hid g
 clear g HCC
 go_wp2_with fail
 go_ret
 exact ⟨rfl, (Go.of HX.out LU.out).trans HG.out⟩
end Go.Proofs.YtnchohglplobeaaGreat
namespace Go.Proofs.YtnchohglplobeaaGreat
open Go.RowKit Go.Sort Go.Maps
theorem retRB {r : Value} {a b : Bool} (h : a = b) : Ending.returned (.tuple #[r, .bool a]) = .returned (.tuple #[r, .bool b]) := by rw [h]
theorem usOf_bh {x : V} (h : Bh x.h) : (usOf x).t = x.h.t ∧ (usOf x).i = x.h.i := by
 unfold usOf
 rw [dif_pos ⟨h.2.1, h.2.2⟩]
 exact ⟨rfl, rfl⟩
theorem map_snoc {α β : Type} (f : α → β) {l : List α} {i : Nat} (h : i < l.length) : (l.take (i + 1)).map f = (l.take i).map f ++ [f l[i]] := by
 rw [List.take_succ_eq_append_getElem h, List.map_append]; rfl
def RefsP (v : V) (w : World) (e : Ending) (w' : World) : Prop := ∃ r, e = .returned (.tuple #[r, .bool ((refsL v).all fun x => decide (x.h.k = 4))]) ∧ (((refsL v).all fun x => decide (x.h.k = 4)) = true → UsAt w' r ((refsL v).map usOf)) ∧ Low w w'
set_option maxRecDepth 100000 in
set_option maxHeartbeats 4000000 in
theorem refs_c (v : V) (w : World) (ai : Option Addr) (ci : Nat) (an : Option Addr) (cn : Nat) (hr : R w v (.slice ai v.l.length ci) (.slice an v.ns.length cn)) (hl : v.l.length ≤ 1000000) : Calls Tryz.prog 141 #[av8 v.h ai v.l.length ci an v.ns.length cn] w (RefsP v w) := by
 by_cases hk : v.h.k = 5
 ·obtain ⟨L, hL⟩ : ∃ L, L = v.l := ⟨_, rfl⟩
  have HLL := Lib.hid (show refsL v = L by unfold refsL; rw [if_pos hk, hL])
  have HALL := Lib.hid (show ((refsL v).all fun x => decide (x.h.k = 4)) = L.all fun x => decide (x.h.k = 4) by rw [HLL.out])
  have HLN := Lib.hid (show L.length = v.l.length by rw [hL])
  have HR0 := Lib.hid hr
  have HK := Lib.hid hk
  have hbnd : v.l.length ≤ 9223372036854775807 := by
   obtain ⟨_, _, h1, h2, -⟩ := (rep_v.1 hr).2.2
   simp only [Value.slice.injEq] at h1
   omega
  have HLV := Lib.hid hL
  clear hr hk hL
  obtain ⟨U, HU, LU, ZU, BV⟩ := boxes1 w [.int .i64 v.h.k, .bool v.h.b, .int .i64 v.h.n, .string v.h.s, .string v.h.t, .string v.h.i, .slice ai v.l.length ci, .slice an v.ns.length cn] 27
  go_enter Tryz.func141, Tryz.ntmps141
  go_upto_region 1 with fail
  rw [← HU.out]
  clear HU
  obtain ⟨v0, v1, v2, v3, v4, v5, v6, v7⟩ := BV.out.at8
  rw [HK.out] at v0
  have HRO := Lib.hid (show Ro U L (.slice ai v.l.length ci) by rw [HLV.out]; exact ((rep_v.1 HR0.out).2.2 : Ro w v.l _).low LU.out)
  go_wp2_with fail
  obtain ⟨W0, hW0⟩ : ∃ W0, W0 = U := ⟨_, rfl⟩
  have L00 := Lib.hid (show Low w W0 by rw [hW0]; exact LU.out)
  rw [← hW0] at HRO ⊢
  clear v0 v1 v2 v3 v4 v5 v6 v7 BV hW0
  go_loopg [5, 17] v.l.length (fun gk vs vi wr => ∃ (vr : Value) (i : Nat) (R : List Us), vr = vs ∧ vi = .int .i64 (i : Int) ∧ i ≤ v.l.length ∧ v.l.length - i ≤ gk ∧ R.length ≤ i ∧ Hid (Low W0 wr) ∧ Hid (OwnU W0.heap.size wr vr R) ∧ Hid (R = (L.take i).map usOf) ∧ Hid (∀ j (hj : j < L.length), j < i → L[j].h.k = 4))
  case atStart => exact ⟨_, 0, [], rfl, rfl, Nat.zero_le _, Nat.le_refl _, Nat.le_refl _, Lib.hid (Low.refl _), Lib.hid (OwnR.nil _ _ _ _ _), Lib.hid rfl, Lib.hid fun j hj h => absurd h (Nat.not_lt_zero _)⟩
  case round =>
   obtain ⟨vr, i, R, rfl, rfl, hi, hg, hR, G, O, K, KK⟩ := hrel
   by_cases hlt : i < v.l.length
   ·have zl : (i : Int) < (v.l.length : Int) := by omega
    have hil : i < L.length := by rw [HLN.out]; exact hlt
    obtain ⟨b, o, xi, xc, xn, xd, hpp, hcs, hrx⟩ := ro_at (HRO.out.low G.out) hil
    obtain ⟨e0, e1, e2, e3, e4, e5, e6, e7⟩ := cells8 hcs
    have hst := map_snoc usOf hil
    have hbh := (rep_v.1 hrx).1
    obtain ⟨x, hx⟩ : ∃ x, x = L[i] := ⟨_, rfl⟩
    rw [← hx] at e0 e1 e2 e3 e4 e5 e6 e7 hst hbh
    have HSTEP := Lib.hid hst
    have HX := Lib.hid hx
    have HBH := Lib.hid hbh
    subst hpp
    clear hcs hrx hst hbh hx
    by_cases hk : x.h.k = 4
    ·have HKX := Lib.hid (show ∀ j (hj : j < L.length), j < i + 1 → L[j].h.k = 4 from fun j hj hji => by
      rcases Nat.lt_succ_iff_lt_or_eq.1 hji with h | rfl
      ·exact KK.out j hj h
      ·rw [← HX.out]; exact hk)
     have HUS := Lib.hid (show (usOf x).t = x.h.t ∧ (usOf x).i = x.h.i from usOf_bh HBH.out)
     have HK4 := Lib.hid hk
     clear hk
     go_upto_region 8 with fail
     rw [HK4.out]
     obtain ⟨W3, hW3⟩ : ∃ W, W = wr.alloc (.cells #[.int .i64 4, .bool x.h.b, .int .i64 x.h.n, .string x.h.s, .string x.h.t, .string x.h.i, .slice xi x.l.length xc, .slice xn x.ns.length xd] 27) := ⟨_, rfl⟩
     have HW3 := Lib.hid hW3
     have L3 := Lib.hid (show Low wr W3 by rw [hW3]; exact Low.alloc (Low.refl wr) _)
     have BN := Lib.hid (show BoxAtv W3 wr.heap.size [.int .i64 4, .bool x.h.b, .int .i64 x.h.n, .string x.h.s, .string x.h.t, .string x.h.i, .slice xi x.l.length xc, .slice xn x.ns.length xd] from BoxAtv.made hW3 rfl rfl)
     have O3 := Lib.hid (OwnR.low O.out L3.out)
     have hsz3 : W0.heap.size ≤ W3.heap.size := Nat.le_trans G.out.size L3.out.size
     rw [← HW3.out]
     clear HW3 hW3 e0 e1 e2 e3 e4 e5 e6 e7
     obtain ⟨n0, n1, n2, n3, n4, n5, n6, n7⟩ := BN.out.at8
     go_wp2_with (first
      | (at_builtin; go_loud (refine appR rfl _ _ _ rfl Tryz.underlying48 u_info rfl (by decide) (by decide) encU_len encU_one W0.heap.size _ R rfl (OwnR.alloc O3.out _) (usOf x) ⟨W3.heap.size, 0, none⟩ 1 rfl (fun j u hj => newcell_at _ _ _ _ _ (by rw [← HUS.out.1, ← HUS.out.2]; rfl) hj) (by omega) (by show W0.heap.size ≤ (W3.alloc _).heap.size; simp; omega) ?_); intro v6 w6 O6 B6 K6 N6))
     have O6' := Lib.hid O6
     have L6 := Lib.hid (show Low W0 w6 from (low_newU (G.out.trans L3.out) _).trans_belowU B6 (Nat.le_refl _))
     clear O6 B6 K6 N6
     go_roundg (v.l.length - (i + 1))
     case measure => omega
     case rel => exact ⟨_, i + 1, R ++ [usOf x], rfl, by go_num, by omega, by omega, by simp; omega, L6, O6', Lib.hid (by rw [HSTEP.out, K.out]), HKX⟩
    ·have hk2 : (x.h.k == 4) = false := by simpa using hk
     have hk4 : (x.h.k != 4) = true := by simpa using hk
     have HNO := Lib.hid (show (L.all fun x => decide (x.h.k = 4)) = false by
      rw [List.all_eq_false]
      exact ⟨L[i], List.getElem_mem hil, by rw [← HX.out]; simpa using hk⟩)
     clear hk
     go_wp2_with fail
     go_ret2
     exact ⟨.slice none 0 0, retRB (show false = _ by rw [HALL.out, HNO.out]), fun h => by rw [HALL.out, HNO.out] at h; simp at h, (L00.out.trans G.out).trans (Low.alloc (Low.refl _) _)⟩
   ·have zl : ¬ (i : Int) < (v.l.length : Int) := by omega
    have HYES := Lib.hid (show (L.all fun x => decide (x.h.k = 4)) = true by
     rw [List.all_eq_true]
     intro x hx
     obtain ⟨j, hj, rfl⟩ := List.getElem_of_mem hx
     exact decide_eq_true (KK.out j hj (by have := HLN.out; omega)))
    have HRE := Lib.hid (show R = L.map usOf by rw [K.out, List.take_of_length_le (by have := HLN.out; omega)])
    go_wp2_with fail
    go_ret2
    exact ⟨vr, retRB (show true = _ by rw [HALL.out, HYES.out]), fun _ => by rw [HLL.out, ← HRE.out]; exact (OwnR.usIn (A := fun _ => True) O.out fun _ _ => trivial).any, L00.out.trans G.out⟩
 ·obtain ⟨L, hL⟩ : ∃ L, L = [v] := ⟨_, rfl⟩
  have HLL := Lib.hid (show refsL v = L by unfold refsL; rw [if_neg hk, hL])
  have HALL := Lib.hid (show ((refsL v).all fun x => decide (x.h.k = 4)) = L.all fun x => decide (x.h.k = 4) by rw [HLL.out])
  have HLN := Lib.hid (show L.length = 1 by rw [hL]; rfl)
  have HR0 := Lib.hid hr
  have hk2 : (v.h.k == 5) = false := by simpa using hk
  have hk4 : (v.h.k != 5) = true := by simpa using hk
  have HLV := Lib.hid hL
  clear hr hk hL
  obtain ⟨U, HU, LU, ZU, BV⟩ := boxes1 w [.int .i64 v.h.k, .bool v.h.b, .int .i64 v.h.n, .string v.h.s, .string v.h.t, .string v.h.i, .slice ai v.l.length ci, .slice an v.ns.length cn] 27
  go_enter Tryz.func141, Tryz.ntmps141
  go_upto_region 1 with fail
  rw [← HU.out]
  clear HU
  obtain ⟨v0, v1, v2, v3, v4, v5, v6, v7⟩ := BV.out.at8
  go_upto_region 5 with fail
  obtain ⟨W0, hW0⟩ : ∃ W0, W0 = U.alloc (.cells #[.int .i64 v.h.k, .bool v.h.b, .int .i64 v.h.n, .string v.h.s, .string v.h.t, .string v.h.i, .slice ai v.l.length ci, .slice an v.ns.length cn] 27) := ⟨_, rfl⟩
  have L0 := Lib.hid (show Low U W0 by rw [hW0]; exact Low.alloc (Low.refl U) _)
  have L00 := Lib.hid (LU.out.trans L0.out)
  have BN := Lib.hid (show BoxAtv W0 U.heap.size [.int .i64 v.h.k, .bool v.h.b, .int .i64 v.h.n, .string v.h.s, .string v.h.t, .string v.h.i, .slice ai v.l.length ci, .slice an v.ns.length cn] from BoxAtv.made hW0 rfl rfl)
  have HRO := Lib.hid (show Ro W0 L (.slice (some ⟨U.heap.size, 0, none⟩) 1 1) by
   rw [HLV.out]
   exact ⟨_, _, rfl, ⟨by simp, by decide⟩, .inr ⟨_, _, rfl, trivial, ⟨⟨_, _, BN.out.cells, HR0.out.low L00.out⟩, trivial⟩⟩⟩)
  rw [← hW0]
  clear v0 v1 v2 v3 v4 v5 v6 v7 BV hW0 BN hk2 hk4
  obtain ⟨pp, hp9⟩ : ∃ p : Option Addr, p = some ⟨U.heap.size, 0, none⟩ := ⟨_, rfl⟩
  rw [← hp9] at HRO ⊢
  clear hp9
  go_wp2_with fail
  go_loopg [5, 17] 1 (fun gk vs vi wr => ∃ (vr : Value) (i : Nat) (R : List Us), vr = vs ∧ vi = .int .i64 (i : Int) ∧ i ≤ 1 ∧ 1 - i ≤ gk ∧ R.length ≤ i ∧ Hid (Low W0 wr) ∧ Hid (OwnU W0.heap.size wr vr R) ∧ Hid (R = (L.take i).map usOf) ∧ Hid (∀ j (hj : j < L.length), j < i → L[j].h.k = 4))
  case atStart => exact ⟨_, 0, [], rfl, rfl, Nat.zero_le _, Nat.le_refl _, Nat.le_refl _, Lib.hid (Low.refl _), Lib.hid (OwnR.nil _ _ _ _ _), Lib.hid rfl, Lib.hid fun j hj h => absurd h (Nat.not_lt_zero _)⟩
  case round =>
   obtain ⟨vr, i, R, rfl, rfl, hi, hg, hR, G, O, K, KK⟩ := hrel
   by_cases hlt : i < 1
   ·have zl : (i : Int) < (1 : Int) := by omega
    have hil : i < L.length := by rw [HLN.out]; exact hlt
    obtain ⟨b, o, xi, xc, xn, xd, hpp, hcs, hrx⟩ := ro_at (HRO.out.low G.out) hil
    obtain ⟨e0, e1, e2, e3, e4, e5, e6, e7⟩ := cells8 hcs
    have hst := map_snoc usOf hil
    have hbh := (rep_v.1 hrx).1
    obtain ⟨x, hx⟩ : ∃ x, x = L[i] := ⟨_, rfl⟩
    rw [← hx] at e0 e1 e2 e3 e4 e5 e6 e7 hst hbh
    have HSTEP := Lib.hid hst
    have HX := Lib.hid hx
    have HBH := Lib.hid hbh
    subst hpp
    clear hcs hrx hst hbh hx
    by_cases hk : x.h.k = 4
    ·have HKX := Lib.hid (show ∀ j (hj : j < L.length), j < i + 1 → L[j].h.k = 4 from fun j hj hji => by
      rcases Nat.lt_succ_iff_lt_or_eq.1 hji with h | rfl
      ·exact KK.out j hj h
      ·rw [← HX.out]; exact hk)
     have HUS := Lib.hid (show (usOf x).t = x.h.t ∧ (usOf x).i = x.h.i from usOf_bh HBH.out)
     have HK4 := Lib.hid hk
     clear hk
     go_upto_region 8 with fail
     rw [HK4.out]
     obtain ⟨W3, hW3⟩ : ∃ W, W = wr.alloc (.cells #[.int .i64 4, .bool x.h.b, .int .i64 x.h.n, .string x.h.s, .string x.h.t, .string x.h.i, .slice xi x.l.length xc, .slice xn x.ns.length xd] 27) := ⟨_, rfl⟩
     have HW3 := Lib.hid hW3
     have L3 := Lib.hid (show Low wr W3 by rw [hW3]; exact Low.alloc (Low.refl wr) _)
     have BN := Lib.hid (show BoxAtv W3 wr.heap.size [.int .i64 4, .bool x.h.b, .int .i64 x.h.n, .string x.h.s, .string x.h.t, .string x.h.i, .slice xi x.l.length xc, .slice xn x.ns.length xd] from BoxAtv.made hW3 rfl rfl)
     have O3 := Lib.hid (OwnR.low O.out L3.out)
     have hsz3 : W0.heap.size ≤ W3.heap.size := Nat.le_trans G.out.size L3.out.size
     rw [← HW3.out]
     clear HW3 hW3 e0 e1 e2 e3 e4 e5 e6 e7
     obtain ⟨n0, n1, n2, n3, n4, n5, n6, n7⟩ := BN.out.at8
     go_wp2_with (first
      | (at_builtin; go_loud (refine appR rfl _ _ _ rfl Tryz.underlying48 u_info rfl (by decide) (by decide) encU_len encU_one W0.heap.size _ R rfl (OwnR.alloc O3.out _) (usOf x) ⟨W3.heap.size, 0, none⟩ 1 rfl (fun j u hj => newcell_at _ _ _ _ _ (by rw [← HUS.out.1, ← HUS.out.2]; rfl) hj) (by omega) (by show W0.heap.size ≤ (W3.alloc _).heap.size; simp; omega) ?_); intro v6 w6 O6 B6 K6 N6))
     have O6' := Lib.hid O6
     have L6 := Lib.hid (show Low W0 w6 from (low_newU (G.out.trans L3.out) _).trans_belowU B6 (Nat.le_refl _))
     clear O6 B6 K6 N6
     go_roundg (1 - (i + 1))
     case measure => omega
     case rel => exact ⟨_, i + 1, R ++ [usOf x], rfl, by go_num, by omega, by omega, by simp; omega, L6, O6', Lib.hid (by rw [HSTEP.out, K.out]), HKX⟩
    ·have hk2 : (x.h.k == 4) = false := by simpa using hk
     have hk4 : (x.h.k != 4) = true := by simpa using hk
     have HNO := Lib.hid (show (L.all fun x => decide (x.h.k = 4)) = false by
      rw [List.all_eq_false]
      exact ⟨L[i], List.getElem_mem hil, by rw [← HX.out]; simpa using hk⟩)
     clear hk
     go_wp2_with fail
     go_ret2
     exact ⟨.slice none 0 0, retRB (show false = _ by rw [HALL.out, HNO.out]), fun h => by rw [HALL.out, HNO.out] at h; simp at h, (L00.out.trans G.out).trans (Low.alloc (Low.refl _) _)⟩
   ·have zl : ¬ (i : Int) < (1 : Int) := by omega
    have HYES := Lib.hid (show (L.all fun x => decide (x.h.k = 4)) = true by
     rw [List.all_eq_true]
     intro x hx
     obtain ⟨j, hj, rfl⟩ := List.getElem_of_mem hx
     exact decide_eq_true (KK.out j hj (by have := HLN.out; omega)))
    have HRE := Lib.hid (show R = L.map usOf by rw [K.out, List.take_of_length_le (by have := HLN.out; omega)])
    go_wp2_with fail
    go_ret2
    exact ⟨vr, retRB (show true = _ by rw [HALL.out, HYES.out]), fun _ => by rw [HLL.out, ← HRE.out]; exact (OwnR.usIn (A := fun _ => True) O.out fun _ _ => trivial).any, L00.out.trans G.out⟩
end Go.Proofs.YtnchohglplobeaaGreat
namespace Go.Proofs.YtnchohglplobeaaGreat
open Go.RowKit Go.Sort Go.Maps
set_option maxRecDepth 100000 in
set_option maxHeartbeats 4000000 in
theorem not_c (v : V) (w : World) (ai : Option Addr) (ci : Nat) (an : Option Addr) (cn : Nat) : Calls Tryz.prog 99 #[av8 v.h ai v.l.length ci an v.ns.length cn] w (VR none (fun _ => False) (if v.h.k = 1 then (0, truV (!v.h.b)) else (30, V0)) w) := by
 by_cases hk : v.h.k = 1
 ·rw [if_pos hk]
  obtain ⟨q, hq⟩ : ∃ q, q = (!v.h.b) := ⟨_, rfl⟩
  rw [← hq]
  have HT := Lib.hid (fun W => truth_c q W)
  have HQ := Lib.hid hq
  have HK := Lib.hid hk
  have HQR := Lib.hid hq.symm
  clear hq hk
  obtain ⟨U, HU, LU, ZU, BV, BR⟩ := boxes2 w [.int .i64 v.h.k, .bool v.h.b, .int .i64 v.h.n, .string v.h.s, .string v.h.t, .string v.h.i, .slice ai v.l.length ci, .slice an v.ns.length cn] 27 [.int .i64 0, .bool false, .int .i64 0, .string ⟨#[]⟩, .string ⟨#[]⟩, .string ⟨#[]⟩, .slice none 0 0, .slice none 0 0] 27
  go_enter Tryz.func99, Tryz.ntmps99
  go_upto_region 1 with fail
  rw [← HU.out]
  clear HU
  obtain ⟨v0, v1, v2, v3, v4, v5, v6, v7⟩ := BV.out.at8
  rw [HK.out] at v0
  go_wp2_with fail
  rw [HQR.out]
  refine (HT.out _).mono ?_
  rintro e w1 ⟨rfl, g⟩
  have HG := Lib.hid g
  clear g HT v0 v1 v2 v3 v4 v5 v6 v7
  obtain ⟨z0, z1, z2, z3, z4, z5, z6, z7⟩ := (BR.out.low HG.out.low).at8
  obtain ⟨f0, f1, f2, f3, f4, f5, f6, f7⟩ := (BR.out.low HG.out.low).op8
  go_wp2_with fail
  refine bodyPost_ret (v := .tuple #[trV q, .int .i64 0]) (by simp [results, Tryz.results99, go_sem, World.cell?_setCell_same', z0, z1, z2, z3, z4, z5, z6, z7]; try rfl) rfl ?_
  exact vr_tru ((Go.ofN (LU.out.trans HG.out.low)).k (kept8 _ _ _ _ _ _ _ _ _ _) (by omega))
 ·rw [if_neg hk]
  have hk2 : (v.h.k == 1) = false := by simpa using hk
  clear hk
  obtain ⟨U, HU, LU, ZU, BV, BR⟩ := boxes2 w [.int .i64 v.h.k, .bool v.h.b, .int .i64 v.h.n, .string v.h.s, .string v.h.t, .string v.h.i, .slice ai v.l.length ci, .slice an v.ns.length cn] 27 [.int .i64 0, .bool false, .int .i64 0, .string ⟨#[]⟩, .string ⟨#[]⟩, .string ⟨#[]⟩, .slice none 0 0, .slice none 0 0] 27
  go_enter Tryz.func99, Tryz.ntmps99
  go_upto_region 1 with fail
  rw [← HU.out]
  clear HU
  obtain ⟨v0, v1, v2, v3, v4, v5, v6, v7⟩ := BV.out.at8
  obtain ⟨z0, z1, z2, z3, z4, z5, z6, z7⟩ := BR.out.at8
  obtain ⟨f0, f1, f2, f3, f4, f5, f6, f7⟩ := BR.out.op8
  go_wp2_with fail
  refine bodyPost_ret (v := .tuple #[zeV, .int .i64 30]) (by simp [results, Tryz.results99, go_sem, World.cell?_setCell_same', z0, z1, z2, z3, z4, z5, z6, z7]; try rfl) rfl ?_
  exact vr_err ((Go.ofN LU.out).k (kept8 _ _ _ _ _ _ _ _ _ _) (by omega))
set_option maxRecDepth 100000 in
set_option maxHeartbeats 4000000 in
theorem typed_c (v : V) (w : World) (ai : Option Addr) (ci : Nat) (an : Option Addr) (cn : Nat) (s : ByteArray) : Calls Tryz.prog 102 #[av8 v.h ai v.l.length ci an v.ns.length cn, .string s] w (VR none (fun _ => False) (if v.h.k = 4 then (0, truV (decide (v.h.t = s))) else (30, V0)) w) := by
 by_cases hk : v.h.k = 4
 ·rw [if_pos hk]
  obtain ⟨q, hq⟩ : ∃ q, q = decide (v.h.t = s) := ⟨_, rfl⟩
  rw [← hq]
  have HT := Lib.hid (fun W => truth_c q W)
  have HQ := Lib.hid hq
  have HK := Lib.hid hk
  have HQR := Lib.hid (show (v.h.t.toList == s.toList) = q by rw [hq]; exact str_beq _ _)
  clear hq hk
  obtain ⟨U, HU, LU, ZU, BV, BR⟩ := boxes2 w [.int .i64 v.h.k, .bool v.h.b, .int .i64 v.h.n, .string v.h.s, .string v.h.t, .string v.h.i, .slice ai v.l.length ci, .slice an v.ns.length cn] 27 [.int .i64 0, .bool false, .int .i64 0, .string ⟨#[]⟩, .string ⟨#[]⟩, .string ⟨#[]⟩, .slice none 0 0, .slice none 0 0] 27
  go_enter Tryz.func102, Tryz.ntmps102
  go_upto_region 1 with fail
  rw [← HU.out]
  clear HU
  obtain ⟨v0, v1, v2, v3, v4, v5, v6, v7⟩ := BV.out.at8
  rw [HK.out] at v0
  go_wp2_with fail
  rw [HQR.out]
  refine (HT.out _).mono ?_
  rintro e w1 ⟨rfl, g⟩
  have HG := Lib.hid g
  clear g HT v0 v1 v2 v3 v4 v5 v6 v7
  obtain ⟨z0, z1, z2, z3, z4, z5, z6, z7⟩ := (BR.out.low HG.out.low).at8
  obtain ⟨f0, f1, f2, f3, f4, f5, f6, f7⟩ := (BR.out.low HG.out.low).op8
  go_wp2_with fail
  refine bodyPost_ret (v := .tuple #[trV q, .int .i64 0]) (by simp [results, Tryz.results102, go_sem, World.cell?_setCell_same', z0, z1, z2, z3, z4, z5, z6, z7]; try rfl) rfl ?_
  exact vr_tru ((Go.ofN (LU.out.trans HG.out.low)).k (kept8 _ _ _ _ _ _ _ _ _ _) (by omega))
 ·rw [if_neg hk]
  have hk2 : (v.h.k == 4) = false := by simpa using hk
  clear hk
  obtain ⟨U, HU, LU, ZU, BV, BR⟩ := boxes2 w [.int .i64 v.h.k, .bool v.h.b, .int .i64 v.h.n, .string v.h.s, .string v.h.t, .string v.h.i, .slice ai v.l.length ci, .slice an v.ns.length cn] 27 [.int .i64 0, .bool false, .int .i64 0, .string ⟨#[]⟩, .string ⟨#[]⟩, .string ⟨#[]⟩, .slice none 0 0, .slice none 0 0] 27
  go_enter Tryz.func102, Tryz.ntmps102
  go_upto_region 1 with fail
  rw [← HU.out]
  clear HU
  obtain ⟨v0, v1, v2, v3, v4, v5, v6, v7⟩ := BV.out.at8
  obtain ⟨z0, z1, z2, z3, z4, z5, z6, z7⟩ := BR.out.at8
  obtain ⟨f0, f1, f2, f3, f4, f5, f6, f7⟩ := BR.out.op8
  go_wp2_with fail
  refine bodyPost_ret (v := .tuple #[zeV, .int .i64 30]) (by simp [results, Tryz.results102, go_sem, World.cell?_setCell_same', z0, z1, z2, z3, z4, z5, z6, z7]; try rfl) rfl ?_
  exact vr_err ((Go.ofN LU.out).k (kept8 _ _ _ _ _ _ _ _ _ _) (by omega))
end Go.Proofs.YtnchohglplobeaaGreat
namespace Go.Proofs.YtnchohglplobeaaGreat
open Go.RowKit Go.Sort Go.Maps
structure Rk where
 pu : Us
 au : Us
 ru : Us
 c : V
 ai : Option Addr
 ci : Nat
 an : Option Addr
 cn : Nat
 X : Sx
 xp : Option Addr
 mb : Nat
 hx : X.v = .pointer xp
abbrev Rk.cs (K : Rk) : List Value := [.string K.pu.t, .string K.pu.i, .string K.au.t, .string K.au.i, .string K.ru.t, .string K.ru.i, .int .i64 K.c.h.k, .bool K.c.h.b, .int .i64 K.c.h.n, .string K.c.h.s, .string K.c.h.t, .string K.c.h.i, .slice K.ai K.c.l.length K.ci, .slice K.an K.c.ns.length K.cn, .pointer K.xp, .map (some K.mb)]
abbrev Rk.v (K : Rk) : Value := .agg #[.string K.pu.t, .string K.pu.i, .string K.au.t, .string K.au.i, .string K.ru.t, .string K.ru.i, .int .i64 K.c.h.k, .bool K.c.h.b, .int .i64 K.c.h.n, .string K.c.h.s, .string K.c.h.t, .string K.c.h.i, .slice K.ai K.c.l.length K.ci, .slice K.an K.c.ns.length K.cn, .pointer K.xp, .map (some K.mb)]
theorem BoxAtv.at16 {w : World} {n : Nat} {c0 c1 c2 c3 c4 c5 c6 c7 c8 c9 c10 c11 c12 c13 c14 c15 : Value} (h : BoxAtv w n [c0, c1, c2, c3, c4, c5, c6, c7, c8, c9, c10, c11, c12, c13, c14, c15]) :
  w.cell? ⟨n, 0, none⟩ = some c0 ∧ w.cell? ⟨n, 1, none⟩ = some c1 ∧ w.cell? ⟨n, 2, none⟩ = some c2 ∧ w.cell? ⟨n, 3, none⟩ = some c3 ∧ w.cell? ⟨n, 4, none⟩ = some c4 ∧ w.cell? ⟨n, 5, none⟩ = some c5 ∧ w.cell? ⟨n, 6, none⟩ = some c6 ∧ w.cell? ⟨n, 7, none⟩ = some c7 ∧ w.cell? ⟨n, 8, none⟩ = some c8 ∧ w.cell? ⟨n, 9, none⟩ = some c9 ∧ w.cell? ⟨n, 10, none⟩ = some c10 ∧ w.cell? ⟨n, 11, none⟩ = some c11 ∧ w.cell? ⟨n, 12, none⟩ = some c12 ∧ w.cell? ⟨n, 13, none⟩ = some c13 ∧ w.cell? ⟨n, 14, none⟩ = some c14 ∧ w.cell? ⟨n, 15, none⟩ = some c15 :=
 ⟨h.at 0 _ rfl, h.at 1 _ rfl, h.at 2 _ rfl, h.at 3 _ rfl, h.at 4 _ rfl, h.at 5 _ rfl, h.at 6 _ rfl, h.at 7 _ rfl, h.at 8 _ rfl, h.at 9 _ rfl, h.at 10 _ rfl, h.at 11 _ rfl, h.at 12 _ rfl, h.at 13 _ rfl, h.at 14 _ rfl, h.at 15 _ rfl⟩
def recV (X : Sx) (v : V) : Int × V := if v.h.k = 6 then (0, v) else if v.h.k = 4 then (match X.ent (usOf v) with | none => (22, V0) | some r => (0, r)) else (30, V0)
set_option maxRecDepth 100000 in
set_option maxHeartbeats 4000000 in
theorem record_c (K : Rk) {A : Nat → Prop} (v : V) (w : World) (ai : Option Addr) (ci : Nat) (an : Option Addr) (cn : Nat) (hA : ∀ b, A b → b < w.heap.size) (hr : Rep A w v (.slice ai v.l.length ci) (.slice an v.ns.length cn)) (hX : K.X.at w) :
  Calls Tryz.prog 142 #[K.v, av8 v.h ai v.l.length ci an v.ns.length cn] w (VR K.X A (recV K.X v) w) := by
 have HXX := Lib.hid hX
 have HR := Lib.hid hr
 have HA := Lib.hid hA
 unfold recV
 by_cases h6 : v.h.k = 6
 ·rw [if_pos h6]
  have HK := Lib.hid h6
  clear h6 hr hX hA
  obtain ⟨U, HU, LU, ZU, BK, BV, BR⟩ := boxes3 w [.string K.pu.t, .string K.pu.i, .string K.au.t, .string K.au.i, .string K.ru.t, .string K.ru.i, .int .i64 K.c.h.k, .bool K.c.h.b, .int .i64 K.c.h.n, .string K.c.h.s, .string K.c.h.t, .string K.c.h.i, .slice K.ai K.c.l.length K.ci, .slice K.an K.c.ns.length K.cn, .pointer K.xp, .map (some K.mb)] 80 [.int .i64 v.h.k, .bool v.h.b, .int .i64 v.h.n, .string v.h.s, .string v.h.t, .string v.h.i, .slice ai v.l.length ci, .slice an v.ns.length cn] 27 [.int .i64 0, .bool false, .int .i64 0, .string ⟨#[]⟩, .string ⟨#[]⟩, .string ⟨#[]⟩, .slice none 0 0, .slice none 0 0] 27
  go_enter Tryz.func142, Tryz.ntmps142
  go_upto_region 1 with fail
  rw [← HU.out]
  clear HU
  obtain ⟨v0, v1, v2, v3, v4, v5, v6, v7⟩ := BV.out.at8
  obtain ⟨z0, z1, z2, z3, z4, z5, z6, z7⟩ := BR.out.at8
  obtain ⟨f0, f1, f2, f3, f4, f5, f6, f7⟩ := BR.out.op8
  rw [HK.out] at v0
  go_wp2_with fail
  refine bodyPost_ret (v := .tuple #[av8 v.h ai v.l.length ci an v.ns.length cn, .int .i64 0]) (by simp [results, Tryz.results142, go_sem, World.cell?_setCell_same', z0, z1, z2, z3, z4, z5, z6, z7, HK.out]; try rfl) rfl ?_
  exact vr_put (k := w.heap.size + 2) (p := (0, v)) (A := A) (U := U) ((HR.out.low LU.out).mono fun b h => .inl h) (Go.of HXX.out LU.out) LU.out.size ⟨by omega, by rw [ZU.out]; omega⟩ HA.out
 ·rw [if_neg h6]
  have h6b : (v.h.k == 6) = false := by simpa using h6
  by_cases h4 : v.h.k = 4
  ·rw [if_pos h4]
   obtain ⟨p, hp⟩ : ∃ p, p = (match K.X.ent (usOf v) with | none => ((22, V0) : Int × V) | some r => (0, r)) := ⟨_, rfl⟩
   rw [← hp]
   have HP := Lib.hid hp
   clear hp
   have HUS := Lib.hid (usOf_bh (rep_v.1 hr).1)
   have HC := Lib.hid fun W (h : Low w W) => getX_c (X := K.X) W (Sx.low hX h) (usOf v)
   simp only [K.hx, HUS.out.1, HUS.out.2] at HC
   unfold GetX at HC
   have HK := Lib.hid h4
   rw [h4] at h6b
   clear h6 h4 hr hX hA
   obtain ⟨U, HU, LU, ZU, BK, BV, BR⟩ := boxes3 w [.string K.pu.t, .string K.pu.i, .string K.au.t, .string K.au.i, .string K.ru.t, .string K.ru.i, .int .i64 K.c.h.k, .bool K.c.h.b, .int .i64 K.c.h.n, .string K.c.h.s, .string K.c.h.t, .string K.c.h.i, .slice K.ai K.c.l.length K.ci, .slice K.an K.c.ns.length K.cn, .pointer K.xp, .map (some K.mb)] 80 [.int .i64 v.h.k, .bool v.h.b, .int .i64 v.h.n, .string v.h.s, .string v.h.t, .string v.h.i, .slice ai v.l.length ci, .slice an v.ns.length cn] 27 [.int .i64 0, .bool false, .int .i64 0, .string ⟨#[]⟩, .string ⟨#[]⟩, .string ⟨#[]⟩, .slice none 0 0, .slice none 0 0] 27
   go_enter Tryz.func142, Tryz.ntmps142
   go_upto_region 1 with fail
   rw [← HU.out]
   clear HU
   obtain ⟨k0, k1, k2, k3, k4, k5, k6, k7, k8, k9, k10, k11, k12, k13, k14, k15⟩ := BK.out.at16
   obtain ⟨v0, v1, v2, v3, v4, v5, v6, v7⟩ := BV.out.at8
   rw [HK.out] at v0
   go_wp2_with fail
   refine (HC.out _ LU.out).mono ?_
   rintro e w1 ⟨t, i, pa, pl, pc, x, bi, di, bn, dn, hx, rfl, hrx, g⟩
   have HG := Lib.hid g
   have HRX := Lib.hid hrx
   have HX2 := Lib.hid hx
   clear g hrx hx HC k0 k1 k2 k3 k4 k5 k6 k7 k8 k9 k10 k11 k12 k13 k14 k15 v0 v1 v2 v3 v4 v5 v6 v7
   cases hent : K.X.ent (usOf v) with
   | none =>
    rw [hent] at HP
    have HPP : Hid (p = (22, V0)) := HP
    clear HX2 hent HP
    simp only [Option.isSome_none]
    go_upto_region 6 with fail
    obtain ⟨W2, hW2⟩ : ∃ W2, W2 = w1.alloc (.cells #[.string t, .string i, .slice pa pl pc, .int .i64 x.h.k, .bool x.h.b, .int .i64 x.h.n, .string x.h.s, .string x.h.t, .string x.h.i, .slice bi x.l.length di, .slice bn x.ns.length dn] 72) := ⟨_, rfl⟩
    have L2 := Lib.hid (show Low w1 W2 by rw [hW2]; exact Low.alloc (Low.refl _) _)
    have BE := Lib.hid (show BoxAtv W2 w1.heap.size [.string t, .string i, .slice pa pl pc, .int .i64 x.h.k, .bool x.h.b, .int .i64 x.h.n, .string x.h.s, .string x.h.t, .string x.h.i, .slice bi x.l.length di, .slice bn x.ns.length dn] from BoxAtv.made hW2 rfl rfl)
    have HG2 := Lib.hid (HG.out.trans L2.out)
    rw [← hW2]
    clear hW2
    obtain ⟨e0, e1, e2, e3, e4, e5, e6, e7, e8, e9, e10⟩ := BE.out.at11
    obtain ⟨z0, z1, z2, z3, z4, z5, z6, z7⟩ := (BR.out.low HG2.out).at8
    obtain ⟨f0, f1, f2, f3, f4, f5, f6, f7⟩ := (BR.out.low HG2.out).op8
    go_wp2_with fail
    refine bodyPost_ret (v := .tuple #[zeV, .int .i64 22]) (by simp [results, Tryz.results142, go_sem, World.cell?_setCell_same', z0, z1, z2, z3, z4, z5, z6, z7]; try rfl) rfl ?_
    rw [HPP.out]
    exact vr_err ((Go.of HXX.out (LU.out.trans HG2.out)).k (kept8 _ _ _ _ _ _ _ _ _ _) (by omega))
   | some r =>
    rw [hent] at HX2
    have HXE : Hid (x = r) := HX2
    rw [hent] at HP
    have HPP : Hid (p = (0, r)) := HP
    clear HX2 hent HP
    simp only [Option.isSome_some]
    go_upto_region 6 with fail
    obtain ⟨W2, hW2⟩ : ∃ W2, W2 = w1.alloc (.cells #[.string t, .string i, .slice pa pl pc, .int .i64 x.h.k, .bool x.h.b, .int .i64 x.h.n, .string x.h.s, .string x.h.t, .string x.h.i, .slice bi x.l.length di, .slice bn x.ns.length dn] 72) := ⟨_, rfl⟩
    have L2 := Lib.hid (show Low w1 W2 by rw [hW2]; exact Low.alloc (Low.refl _) _)
    have BE := Lib.hid (show BoxAtv W2 w1.heap.size [.string t, .string i, .slice pa pl pc, .int .i64 x.h.k, .bool x.h.b, .int .i64 x.h.n, .string x.h.s, .string x.h.t, .string x.h.i, .slice bi x.l.length di, .slice bn x.ns.length dn] from BoxAtv.made hW2 rfl rfl)
    have HG2 := Lib.hid (HG.out.trans L2.out)
    rw [← hW2]
    clear hW2
    obtain ⟨e0, e1, e2, e3, e4, e5, e6, e7, e8, e9, e10⟩ := BE.out.at11
    obtain ⟨z0, z1, z2, z3, z4, z5, z6, z7⟩ := (BR.out.low HG2.out).at8
    obtain ⟨f0, f1, f2, f3, f4, f5, f6, f7⟩ := (BR.out.low HG2.out).op8
    go_wp2_with fail
    refine bodyPost_ret (v := .tuple #[av8 x.h bi x.l.length di bn x.ns.length dn, .int .i64 0]) (by simp [results, Tryz.results142, go_sem, World.cell?_setCell_same', z0, z1, z2, z3, z4, z5, z6, z7]; try rfl) rfl ?_
    have HXE := HXE.out
    rw [HPP.out]
    subst HXE
    exact vr_put (k := w.heap.size + 2) (p := (0, x)) (A := A) (U := U) ((HRX.out.low L2.out).mono fun b h => .inr (Nat.le_trans (Nat.le_refl _) h)) (Go.of HXX.out (LU.out.trans HG2.out)) LU.out.size ⟨by omega, by rw [ZU.out]; omega⟩ HA.out
  ·rw [if_neg h4]
   have h4b : (v.h.k == 4) = false := by simpa using h4
   clear h6 h4 hr hX hA
   obtain ⟨U, HU, LU, ZU, BK, BV, BR⟩ := boxes3 w [.string K.pu.t, .string K.pu.i, .string K.au.t, .string K.au.i, .string K.ru.t, .string K.ru.i, .int .i64 K.c.h.k, .bool K.c.h.b, .int .i64 K.c.h.n, .string K.c.h.s, .string K.c.h.t, .string K.c.h.i, .slice K.ai K.c.l.length K.ci, .slice K.an K.c.ns.length K.cn, .pointer K.xp, .map (some K.mb)] 80 [.int .i64 v.h.k, .bool v.h.b, .int .i64 v.h.n, .string v.h.s, .string v.h.t, .string v.h.i, .slice ai v.l.length ci, .slice an v.ns.length cn] 27 [.int .i64 0, .bool false, .int .i64 0, .string ⟨#[]⟩, .string ⟨#[]⟩, .string ⟨#[]⟩, .slice none 0 0, .slice none 0 0] 27
   go_enter Tryz.func142, Tryz.ntmps142
   go_upto_region 1 with fail
   rw [← HU.out]
   clear HU
   obtain ⟨v0, v1, v2, v3, v4, v5, v6, v7⟩ := BV.out.at8
   obtain ⟨z0, z1, z2, z3, z4, z5, z6, z7⟩ := BR.out.at8
   obtain ⟨f0, f1, f2, f3, f4, f5, f6, f7⟩ := BR.out.op8
   go_wp2_with fail
   refine bodyPost_ret (v := .tuple #[zeV, .int .i64 30]) (by simp [results, Tryz.results142, go_sem, World.cell?_setCell_same', z0, z1, z2, z3, z4, z5, z6, z7]; try rfl) rfl ?_
   exact vr_err ((Go.of HXX.out LU.out).k (kept8 _ _ _ _ _ _ _ _ _ _) (by omega))
end Go.Proofs.YtnchohglplobeaaGreat
namespace Go.Proofs.YtnchohglplobeaaGreat
open Go.RowKit Go.Sort Go.Maps
noncomputable def Rk.q (K : Rk) : RqE := ⟨K.pu, K.au, K.ru, K.c, K.X.isIn, K.X.ent⟩
theorem recV_q (K : Rk) (v : V) : recV K.X v = recE K.q v := rfl
end Go.Proofs.YtnchohglplobeaaGreat
namespace Go.Proofs.YtnchohglplobeaaGreat
open Go.RowKit Go.Sort Go.Maps
abbrev ex12 (e : E) (ai : Option Addr) (ci : Nat) (an : Option Addr) (cn : Nat) (ak : Option Addr) (ck : Nat) (am : Option Addr) (cm : Nat) : Value := .agg #[.int .i64 e.op, .int .i64 e.v.h.k, .bool e.v.h.b, .int .i64 e.v.h.n, .string e.v.h.s, .string e.v.h.t, .string e.v.h.i, .slice ai e.v.l.length ci, .slice an e.v.ns.length cn, .string e.nm, .slice ak e.ks.length ck, .slice am e.ns.length cm]
abbrev p4 (e : E) (ai : Option Addr) (ci : Nat) (an : Option Addr) (cn : Nat) (ak : Option Addr) (ck : Nat) (am : Option Addr) (cm : Nat) : P4 := ((.slice ai e.v.l.length ci, .slice an e.v.ns.length cn), .slice ak e.ks.length ck, .slice am e.ns.length cm)
theorem re_open {n : Nat} {w : World} {e : E} {p : P4} (h : RE n w e p) : ∃ ai ci an cn ak ck am cm, p = p4 e ai ci an cn ak ck am cm := by
 cases n with
 | zero => exact h.elim
 | succ n =>
  obtain ⟨h1, -, ⟨ak, ck, h3, -⟩, ⟨am, cm, h4, -⟩⟩ := re_succ.1 h
  obtain ⟨ai, ci, an, cn, h5, h6⟩ := r_slices h1
  obtain ⟨⟨a, b⟩, c, d⟩ := p
  simp only at h3 h4 h5 h6
  subst h3 h4 h5 h6
  exact ⟨_, _, _, _, _, _, _, _, rfl⟩
theorem re_at {n : Nat} {w : World} {l : List E} {ao : Option Addr} {m cap i : Nat} (hr : RowB w 12 encE4 (RE n) l (.slice ao m cap)) (hi : i < l.length) : ∃ b o ai ci an cn ak ck am cm, ao = some ⟨b, o, none⟩ ∧
  CellsAt w b (o + i * 12) (encE4 l[i] (p4 l[i] ai ci an cn ak ck am cm)) ∧ RE n w l[i] (p4 l[i] ai ci an cn ak ck am cm) := by
 obtain ⟨q, cap', he, hc, hx⟩ := hr
 simp only [Value.slice.injEq] at he
 obtain ⟨rfl, -, -⟩ := he
 obtain ⟨b, o, p, rfl, h2, h3⟩ := hx i hi
 obtain ⟨ai, ci, an, cn, ak, ck, am, cm, rfl⟩ := re_open h3
 exact ⟨b, o, ai, ci, an, cn, ak, ck, am, cm, rfl, h2, h3⟩
theorem row_len {n : Nat} {w : World} {l : List E} {ao : Option Addr} {m cap : Nat} (hr : RowB w 12 encE4 (RE n) l (.slice ao m cap)) : m = l.length ∧ l.length ≤ cap ∧ cap ≤ 9223372036854775807 := by
 obtain ⟨q, cap', he, hc, hx⟩ := hr
 simp only [Value.slice.injEq] at he
 obtain ⟨-, h1, rfl⟩ := he
 exact ⟨h1, hc⟩
theorem cells12b {w : World} {b o : Nat} {e : E} {ai : Option Addr} {ci : Nat} {an : Option Addr} {cn : Nat} {ak : Option Addr} {ck : Nat} {am : Option Addr} {cm : Nat} (hc : CellsAt w b o (encE4 e (p4 e ai ci an cn ak ck am cm))) :
  w.cell? ⟨b, o, none⟩ = some (.int .i64 e.op) ∧ w.cell? ⟨b, o + 1, none⟩ = some (.int .i64 e.v.h.k) ∧ w.cell? ⟨b, o + 2, none⟩ = some (.bool e.v.h.b) ∧ w.cell? ⟨b, o + 3, none⟩ = some (.int .i64 e.v.h.n) ∧ w.cell? ⟨b, o + 4, none⟩ = some (.string e.v.h.s) ∧ w.cell? ⟨b, o + 5, none⟩ = some (.string e.v.h.t) ∧ w.cell? ⟨b, o + 6, none⟩ = some (.string e.v.h.i) ∧ w.cell? ⟨b, o + 7, none⟩ = some (.slice ai e.v.l.length ci) ∧ w.cell? ⟨b, o + 8, none⟩ = some (.slice an e.v.ns.length cn) ∧ w.cell? ⟨b, o + 9, none⟩ = some (.string e.nm) ∧ w.cell? ⟨b, o + 10, none⟩ = some (.slice ak e.ks.length ck) ∧ w.cell? ⟨b, o + 11, none⟩ = some (.slice am e.ns.length cm) :=
 cells12 (p := p4 e ai ci an cn ak ck am cm) hc
theorem BoxAtv.at12 {w : World} {n : Nat} {c0 c1 c2 c3 c4 c5 c6 c7 c8 c9 c10 c11 : Value} (h : BoxAtv w n [c0, c1, c2, c3, c4, c5, c6, c7, c8, c9, c10, c11]) :
  w.cell? ⟨n, 0, none⟩ = some c0 ∧ w.cell? ⟨n, 1, none⟩ = some c1 ∧ w.cell? ⟨n, 2, none⟩ = some c2 ∧ w.cell? ⟨n, 3, none⟩ = some c3 ∧ w.cell? ⟨n, 4, none⟩ = some c4 ∧ w.cell? ⟨n, 5, none⟩ = some c5 ∧ w.cell? ⟨n, 6, none⟩ = some c6 ∧ w.cell? ⟨n, 7, none⟩ = some c7 ∧ w.cell? ⟨n, 8, none⟩ = some c8 ∧ w.cell? ⟨n, 9, none⟩ = some c9 ∧ w.cell? ⟨n, 10, none⟩ = some c10 ∧ w.cell? ⟨n, 11, none⟩ = some c11 :=
 ⟨h.at 0 _ rfl, h.at 1 _ rfl, h.at 2 _ rfl, h.at 3 _ rfl, h.at 4 _ rfl, h.at 5 _ rfl, h.at 6 _ rfl, h.at 7 _ rfl, h.at 8 _ rfl, h.at 9 _ rfl, h.at 10 _ rfl, h.at 11 _ rfl⟩
end Go.Proofs.YtnchohglplobeaaGreat
