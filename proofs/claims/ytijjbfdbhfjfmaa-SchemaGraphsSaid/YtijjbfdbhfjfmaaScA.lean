/- Rows in new memory; the law's example (awake). No condition but that the library's variable holds a number. -/
import Derived.Test.YtijjbfdbhfjfmaaScK
import Derived.Test.YtijjbfdbhfjfmaaScE
namespace Go.Proofs.Ytijjbfdbhfjfmaa
open Go.RowKit
set_option linter.unusedVariables false
theorem RowB.alloc {α β : Type} {w : World} {sz : Nat} {enc : α → β → List Value} {R : World → α → β → Prop} (ps : List (α × β)) {C : Array Value} {t : TypeId} (hlen : ∀ x e, (enc x e).length = sz) (hC : C = (ps.flatMap fun p => enc p.1 p.2).toArray) (hm : ps.length ≤ 9223372036854775807)
    (hR : ∀ p ∈ ps, R (w.alloc (.cells C t)) p.1 p.2) : RowB (w.alloc (.cells C t)) sz enc R (ps.map (·.1)) (.slice (some ⟨w.heap.size, 0, none⟩) ps.length ps.length) := by
  refine ⟨some ⟨w.heap.size, 0, none⟩, ps.length, by simp, by simp; exact hm, fun j hj => ?_⟩
  have hj2 : j < ps.length := by simpa using hj
  refine ⟨w.heap.size, 0, ps[j].2, rfl, fun c v hv => ?_, ?_⟩
  · have hv2 : (enc ps[j].1 ps[j].2)[c]? = some v := by simpa using hv
    have hc : c < sz := by rw [← hlen ps[j].1 ps[j].2]; exact (List.getElem?_eq_some_iff.1 hv2).1
    have hf := flat_at (enc := fun p : α × β => enc p.1 p.2) (k := sz) (fun p => hlen p.1 p.2) ps j c hj2 hc
    rw [World.cell?_alloc_mark, hC]
    simp only [Nat.zero_add, List.getElem?_toArray]
    rw [hf]; exact hv2
  · have := hR ps[j] (List.getElem_mem hj2)
    simpa using this
theorem ns_alloc {w : World} (l : List Nm) {C : Array Value} {t : TypeId} (hC : C = (l.map fun x => Value.string x.s).toArray) (hm : l.length ≤ 9223372036854775807) : NsAt (w.alloc (.cells C t)) l (.slice (some ⟨w.heap.size, 0, none⟩) l.length l.length) := by
  have e1 : ∀ l : List Nm, ((l.map fun x => (x, ())).flatMap fun p => encNm p.1 p.2) = l.map fun x => Value.string x.s := fun l => by
    induction l with
    | nil => rfl
    | cons x l ih => rw [List.map_cons, List.flatMap_cons, ih]; rfl
  have e2 : ∀ l : List Nm, (l.map fun x => (x, ())).map (·.1) = l := fun l => by
    induction l with
    | nil => rfl
    | cons x l ih => rw [List.map_cons, List.map_cons, ih]
  have h := RowB.alloc (w := w) (sz := 1) (enc := encNm) (R := fun _ _ _ => True) (l.map fun x => (x, ())) (C := C) (t := t) (fun _ _ => rfl) (by rw [hC, e1]) (by simpa using hm) (fun _ _ => trivial)
  rw [e2, List.length_map] at h
  exact h
def nmG : Nm := ⟨⟨#[71, 114, 111, 117, 112]⟩, by decide⟩
def nmU : Nm := ⟨⟨#[85, 115, 101, 114]⟩, by decide⟩
def nmA : Nm := ⟨⟨#[97, 108, 108]⟩, by decide⟩
def nmV : Nm := ⟨⟨#[118]⟩, by decide⟩
def nmX : Nm := ⟨⟨#[65, 99, 116, 105, 111, 110]⟩, by decide⟩
def exT : List Et := [⟨nmU, [nmG], []⟩, ⟨nmG, [nmG], []⟩]
def exA : List Ac := [⟨nmV, [nmA], [nmU], [nmG, nmU], []⟩, ⟨nmA, [], [], [], []⟩]
theorem last_tot {g : Gra} {a b : Nm} (h : Way (Stp g) a b) : b ∈ tot g := by
  obtain ⟨c, s, -⟩ := h.last
  exact nxt_tot s
theorem ex_ug : ways (exT.map Et.r) nmU nmG = true := ways_iff.2 (.one (show nmG ∈ nxt _ nmU by decide))
theorem ex_gg : ways (exT.map Et.r) nmG nmG = true := ways_iff.2 (.one (show nmG ∈ nxt _ nmG by decide))
theorem ex_gu : ways (exT.map Et.r) nmG nmU = false := by
  rw [Bool.eq_false_iff]
  intro h
  have := last_tot (ways_iff.1 h)
  exact absurd this (by decide)
theorem ex_va : inB (exA.map Ac.r) nmV nmA = true := by
  unfold inB
  rw [ways_iff.2 (.one (show nmA ∈ nxt _ nmV by decide))]
  simp
theorem ex_av : inB (exA.map Ac.r) nmA nmV = false := by
  unfold inB
  have h : ways (exA.map Ac.r) nmA nmV = false := by
    rw [Bool.eq_false_iff]
    intro h
    have := last_tot (ways_iff.1 h)
    exact absurd this (by decide)
  rw [h]
  simp
  decide
theorem ex_rd : rounds (exA.map Ac.r) = false := by
  rw [Bool.eq_false_iff]
  intro h
  obtain ⟨a, hw⟩ := rounds_iff.1 h
  have h1 : a ∈ tot (exA.map Ac.r) := last_tot hw
  have h2 : tot (exA.map Ac.r) = [nmA] := by decide
  rw [h2] at h1
  simp at h1
  subst h1
  obtain ⟨b, s, -⟩ := hw.first
  have h3 : nxt (exA.map Ac.r) nmA = [] := by decide
  unfold Stp at s
  rw [h3] at s
  simp at s
theorem ex_rows (h : ByteArray → Bool) : rowB h 0 [] = true := by
  unfold rowB
  have : chkE 1 (recT []) = 0 := by decide
  rw [this]; rfl
theorem ex_chk : chkS 0 exT exA = 0 := by
  have h1 : ((exT.all (typeB (exT.map Et.r) 0)) = true) := by
    unfold exT
    simp only [List.all_cons, List.all_nil, typeB, ex_rows]
    decide
  have h2 : ((exA.all (actB (exT.map Et.r) (exA.map Ac.r) 0)) = true) := by
    unfold exA
    simp only [List.all_cons, List.all_nil, actB, ex_rows]
    decide
  unfold chkS
  rw [if_neg (by decide), h1, h2, ex_rd]
  rfl
def exX : List Et := [⟨nmX, [], []⟩]
theorem ex_chk2 : chkS 0 exX [] = 40 := by
  have h1 : ((exX.all (typeB (exX.map Et.r) 0)) = false) := by
    unfold exX
    simp only [List.all_cons, List.all_nil, typeB, ex_rows]
    decide
  unfold chkS
  rw [if_neg (by decide), h1]
  rfl
theorem ex_sm : Sm 1 (recT []) := by
  refine ⟨by decide, by decide, fun x hx => ?_⟩
  simp [recT, T.ins, T.l, T.ats] at hx
theorem fewg_ex : FewG (exT.map Et.r) := ⟨by decide, by decide⟩
theorem fewg_ex2 : FewG (exA.map Ac.r) := ⟨by decide, by decide⟩
theorem fewa_ex : FewA exA := ⟨by decide, by decide⟩
theorem fewg_x : FewG (exX.map Et.r) := ⟨by decide, by decide⟩
theorem ex_type {w w' : World} {e : Ending} (h : TypeP exT ⟨#[71, 114, 111, 117, 112]⟩ w e w') : ∃ nm pi ci pa la ca, e = .returned (.tuple #[.agg #[.string nm, .slice pi 1 ci, .slice pa la ca], .bool true]) ∧ Low w w' := by
  obtain ⟨nm, pi, li, ci, pa, la, ca, q, rfl, hl, ⟨-, h1, -⟩ | ⟨rfl, i, hi, h1, -, h2, -⟩⟩ := h
  · exact absurd h1 (by decide)
  · have h3 : firstI exT (fun x => eqN ⟨#[71, 114, 111, 117, 112]⟩ x.nm) = 1 := by decide
    obtain rfl : i = 1 := by rw [h3] at h1; omega
    exact ⟨nm, pi, ci, pa, la, ca, by rw [h2]; rfl, hl⟩
theorem ex_act {w w' : World} {e : Ending} (h : ActP exA ⟨#[118]⟩ w e w') : ∃ nm pi ci pp lp cp pr lr cr pa la ca, e = .returned (.tuple #[.agg #[.string nm, .slice pi 1 ci, .slice pp lp cp, .slice pr lr cr, .slice pa la ca], .bool true]) ∧ Low w w' := by
  obtain ⟨nm, pi, li, ci, pp, lp, cp, pr, lr, cr, pa, la, ca, q, rfl, hl, ⟨-, h1, -⟩ | ⟨rfl, i, hi, h1, -, h2, -⟩⟩ := h
  · exact absurd h1 (by decide)
  · have h3 : firstI exA (fun x => eqN ⟨#[118]⟩ x.nm) = 0 := by decide
    obtain rfl : i = 0 := by rw [h3] at h1; omega
    exact ⟨nm, pi, ci, pp, lp, cp, pr, lr, cr, pa, la, ca, by rw [h2]; rfl, hl⟩
theorem ets_ex {W : World} {v1 v2 : Value} {C : Array Value} {t : TypeId} (h1 : NsAt W [nmG] v1) (h2 : NsAt W [nmG] v2) (hC : C = #[.string nmU.s, v1, .slice none 0 0, .string nmG.s, v2, .slice none 0 0]) : EtsAt 0 (W.alloc (.cells C t)) exT (.slice (some ⟨W.heap.size, 0, none⟩) 2 2) :=
  RowB.alloc (enc := encEt) (R := EtOk 0) [(⟨nmU, [nmG], []⟩, (v1, .slice none 0 0)), (⟨nmG, [nmG], []⟩, (v2, .slice none 0 0))] (fun _ _ => rfl) hC (by simp) fun p hp => by
    have l := low_new (Low.refl W) (.cells C t)
    simp at hp
    rcases hp with rfl | rfl
    · exact ⟨h1.low l, RAs.nil _ _ _⟩
    · exact ⟨h2.low l, RAs.nil _ _ _⟩
theorem acs_ex {W : World} {v1 v2 v3 : Value} {C : Array Value} {t : TypeId} (h1 : NsAt W [nmA] v1) (h2 : NsAt W [nmU] v2) (h3 : NsAt W [nmG, nmU] v3) (hC : C = #[.string nmV.s, v1, v2, v3, .slice none 0 0, .string nmA.s, .slice none 0 0, .slice none 0 0, .slice none 0 0, .slice none 0 0]) : AcsAt 0 (W.alloc (.cells C t)) exA (.slice (some ⟨W.heap.size, 0, none⟩) 2 2) :=
  RowB.alloc (enc := encAc) (R := AcOk 0) [(⟨nmV, [nmA], [nmU], [nmG, nmU], []⟩, ((v1, v2), v3, .slice none 0 0)), (⟨nmA, [], [], [], []⟩, ((.slice none 0 0, .slice none 0 0), .slice none 0 0, .slice none 0 0))] (fun _ _ => rfl) hC (by simp) fun p hp => by
    have l := low_new (Low.refl W) (.cells C t)
    simp at hp
    rcases hp with rfl | rfl
    · exact ⟨h1.low l, h2.low l, h3.low l, RAs.nil _ _ _⟩
    · exact ⟨NsAt.nil _, NsAt.nil _, NsAt.nil _, RAs.nil _ _ _⟩
theorem ets_x {W : World} {C : Array Value} {t : TypeId} (hC : C = #[.string nmX.s, .slice none 0 0, .slice none 0 0]) : EtsAt 0 (W.alloc (.cells C t)) exX (.slice (some ⟨W.heap.size, 0, none⟩) 1 1) :=
  RowB.alloc (enc := encEt) (R := EtOk 0) [(⟨nmX, [], []⟩, (.slice none 0 0, .slice none 0 0))] (fun _ _ => rfl) hC (by decide) fun p hp => by
    simp at hp
    rcases hp with rfl
    exact ⟨NsAt.nil _, RAs.nil _ _ _⟩
set_option maxRecDepth 100000 in
set_option maxHeartbeats 6400000 in
theorem awake12_c (w : World) (hx : Mx w) : Calls Try.prog 8 #[] w fun e w' => e = .returned (.bool true) ∧ Low w w' := by
  obtain ⟨A0, hA0⟩ : ∃ A, A = w.alloc (.cells #[.string ⟨#[71, 114, 111, 117, 112]⟩] 9) := ⟨_, rfl⟩
  have z0 : A0.heap.size = w.heap.size + 1 := by rw [hA0]; simp
  have l0 : Low w A0 := by rw [hA0]; exact low_new (Low.refl _) _
  obtain ⟨A1, hA1⟩ : ∃ A, A = A0.alloc (.cells #[.string ⟨#[71, 114, 111, 117, 112]⟩] 9) := ⟨_, rfl⟩
  have z1 : A1.heap.size = w.heap.size + 1 + 1 := by rw [hA1]; simp [z0]
  have l1 : Low A0 A1 := by rw [hA1]; exact low_new (Low.refl _) _
  obtain ⟨A2, hA2⟩ : ∃ A, A = A1.alloc (.cells #[.string ⟨#[85, 115, 101, 114]⟩, .slice (some ⟨w.heap.size, 0, none⟩) 1 1, .slice none 0 0, .string ⟨#[71, 114, 111, 117, 112]⟩, .slice (some ⟨w.heap.size + 1, 0, none⟩) 1 1, .slice none 0 0] 33) := ⟨_, rfl⟩
  have z2 : A2.heap.size = w.heap.size + 1 + 1 + 1 := by rw [hA2]; simp [z1]
  have l2 : Low A1 A2 := by rw [hA2]; exact low_new (Low.refl _) _
  obtain ⟨A3, hA3⟩ : ∃ A, A = A2.alloc (.cells #[.string ⟨#[97, 108, 108]⟩] 9) := ⟨_, rfl⟩
  have z3 : A3.heap.size = w.heap.size + 1 + 1 + 1 + 1 := by rw [hA3]; simp [z2]
  have l3 : Low A2 A3 := by rw [hA3]; exact low_new (Low.refl _) _
  obtain ⟨A4, hA4⟩ : ∃ A, A = A3.alloc (.cells #[.string ⟨#[85, 115, 101, 114]⟩] 9) := ⟨_, rfl⟩
  have z4 : A4.heap.size = w.heap.size + 1 + 1 + 1 + 1 + 1 := by rw [hA4]; simp [z3]
  have l4 : Low A3 A4 := by rw [hA4]; exact low_new (Low.refl _) _
  obtain ⟨A5, hA5⟩ : ∃ A, A = A4.alloc (.cells #[.string ⟨#[71, 114, 111, 117, 112]⟩, .string ⟨#[85, 115, 101, 114]⟩] 9) := ⟨_, rfl⟩
  have z5 : A5.heap.size = w.heap.size + 1 + 1 + 1 + 1 + 1 + 1 := by rw [hA5]; simp [z4]
  have l5 : Low A4 A5 := by rw [hA5]; exact low_new (Low.refl _) _
  obtain ⟨A6, hA6⟩ : ∃ A, A = A5.alloc (.cells #[.string ⟨#[118]⟩, .slice (some ⟨w.heap.size + 1 + 1 + 1, 0, none⟩) 1 1, .slice (some ⟨w.heap.size + 1 + 1 + 1 + 1, 0, none⟩) 1 1, .slice (some ⟨w.heap.size + 1 + 1 + 1 + 1 + 1, 0, none⟩) 2 2, .slice none 0 0, .string ⟨#[97, 108, 108]⟩, .slice none 0 0, .slice none 0 0, .slice none 0 0, .slice none 0 0] 37) := ⟨_, rfl⟩
  have z6 : A6.heap.size = w.heap.size + 1 + 1 + 1 + 1 + 1 + 1 + 1 := by rw [hA6]; simp [z5]
  have l6 : Low A5 A6 := by rw [hA6]; exact low_new (Low.refl _) _
  obtain ⟨A7, hA7⟩ : ∃ A, A = A6.alloc (.cells #[.slice (some ⟨w.heap.size + 1 + 1, 0, none⟩) 2 2, .slice (some ⟨w.heap.size + 1 + 1 + 1 + 1 + 1 + 1, 0, none⟩) 2 2] 25) := ⟨_, rfl⟩
  have z7 : A7.heap.size = w.heap.size + 1 + 1 + 1 + 1 + 1 + 1 + 1 + 1 := by rw [hA7]; simp [z6]
  have l7 : Low A6 A7 := by rw [hA7]; exact low_new (Low.refl _) _
  have n0 : NsAt A0 [nmG] (.slice (some ⟨w.heap.size, 0, none⟩) 1 1) := by rw [hA0]; exact ns_alloc [nmG] rfl (by decide)
  have n1 : NsAt A1 [nmG] (.slice (some ⟨w.heap.size + 1, 0, none⟩) 1 1) := by rw [hA1, ← z0]; exact ns_alloc [nmG] rfl (by decide)
  have n3 : NsAt A3 [nmA] (.slice (some ⟨w.heap.size + 1 + 1 + 1, 0, none⟩) 1 1) := by rw [hA3, ← z2]; exact ns_alloc [nmA] rfl (by decide)
  have n4 : NsAt A4 [nmU] (.slice (some ⟨w.heap.size + 1 + 1 + 1 + 1, 0, none⟩) 1 1) := by rw [hA4, ← z3]; exact ns_alloc [nmU] rfl (by decide)
  have n5 : NsAt A5 [nmG, nmU] (.slice (some ⟨w.heap.size + 1 + 1 + 1 + 1 + 1, 0, none⟩) 2 2) := by rw [hA5, ← z4]; exact ns_alloc [nmG, nmU] rfl (by decide)
  have t2 : EtsAt 0 A2 exT (.slice (some ⟨w.heap.size + 1 + 1, 0, none⟩) 2 2) := by rw [hA2, ← z1]; exact ets_ex (n0.low l1) n1 rfl
  have t6 : AcsAt 0 A6 exA (.slice (some ⟨w.heap.size + 1 + 1 + 1 + 1 + 1 + 1, 0, none⟩) 2 2) := by rw [hA6, ← z5]; exact acs_ex ((n3.low l4).low l5) (n4.low l5) n5 rfl
  have LW := Lib.hid (show Low w A7 from ((((((l0.trans l1).trans l2).trans l3).trans l4).trans l5).trans l6).trans l7)
  have HT := Lib.hid (show EtsAt 0 A7 exT (.slice (some ⟨w.heap.size + 1 + 1, 0, none⟩) 2 2) from ((((t2.low l3).low l4).low l5).low l6).low l7)
  have HA := Lib.hid (show AcsAt 0 A7 exA (.slice (some ⟨w.heap.size + 1 + 1 + 1 + 1 + 1 + 1, 0, none⟩) 2 2) from t6.low l7)
  have HB := Lib.hid (show A7.cell? ⟨w.heap.size + 1 + 1 + 1 + 1 + 1 + 1 + 1, 0, none⟩ = some (.slice (some ⟨w.heap.size + 1 + 1, 0, none⟩) 2 2) ∧ A7.cell? ⟨w.heap.size + 1 + 1 + 1 + 1 + 1 + 1 + 1, 1, none⟩ = some (.slice (some ⟨w.heap.size + 1 + 1 + 1 + 1 + 1 + 1, 0, none⟩) 2 2) by rw [hA7, ← z6]; exact ⟨by rw [World.cell?_alloc_mark]; rfl, by rw [World.cell?_alloc_mark]; rfl⟩)
  have HX := Lib.hid (hx.low LW.out)
  rw [hA6, hA5, hA4, hA3, hA2, hA1, hA0] at hA7
  have HW := Lib.hid hA7
  clear hA7 n0 n1 n3 n4 n5 t2 t6 hA0 hA1 hA2 hA3 hA4 hA5 hA6 z0 z1 z2 z3 z4 z5 z6 z7 l0 l1 l2 l3 l4 l5 l6 l7 hx
  have HTy := Lib.hid (type_c 0 exT ⟨#[71, 114, 111, 117, 112]⟩ A7 _ (.slice (some ⟨w.heap.size + 1 + 1 + 1 + 1 + 1 + 1, 0, none⟩) 2 2) HT.out)
  go_enter Try.func8, Try.ntmps8
  go_upto_region 2 with fail
  rw [← HW.out]
  obtain ⟨W, hWW⟩ : ∃ W, W = A7 := ⟨_, rfl⟩
  rw [← hWW]
  rw [← hWW] at HTy HB HT HA HX LW
  clear HW hWW
  obtain ⟨b0, b1⟩ := HB.out
  go_wp2_with fail
  refine HTy.out.mono ?_
  rintro e w1 h1
  obtain ⟨nm1, pi1, ci1, pa1, la1, ca1, rfl, l1⟩ := ex_type h1
  have L1 := Lib.hid l1
  have HAc := Lib.hid fun (V : World) (hl : Low W V) => act_c 0 exA ⟨#[118]⟩ V (.slice (some ⟨w.heap.size + 1 + 1, 0, none⟩) 2 2) _ (HA.out.low hl)
  clear h1 b0 b1 l1
  obtain ⟨B1, hB1⟩ : ∃ B, B = w1.alloc (.cells #[.string nm1, .slice pi1 1 ci1, .slice pa1 la1 ca1] 33) := ⟨_, rfl⟩
  have LB1 := Lib.hid (show Low W B1 by rw [hB1]; exact L1.out.trans (low_new (Low.refl _) _))
  have HC1 := Lib.hid (box3 (w := w1) (wr := B1) (c0 := .string nm1) (c1 := .slice pi1 1 ci1) (c2 := .slice pa1 la1 ca1) (t := 33) (by rw [hB1]; exact Low.refl _))
  have HB1 := Lib.hid hB1
  clear hB1
  go_upto_region 3 with fail
  rw [← HB1.out]
  clear HB1
  obtain ⟨b0, b1⟩ : B1.cell? ⟨w.heap.size + 1 + 1 + 1 + 1 + 1 + 1 + 1, 0, none⟩ = some (.slice (some ⟨w.heap.size + 1 + 1, 0, none⟩) 2 2) ∧ B1.cell? ⟨w.heap.size + 1 + 1 + 1 + 1 + 1 + 1 + 1, 1, none⟩ = some (.slice (some ⟨w.heap.size + 1 + 1 + 1 + 1 + 1 + 1, 0, none⟩) 2 2) := ⟨LB1.out.keep HB.out.1, LB1.out.keep HB.out.2⟩
  go_wp2_with fail
  refine (HAc.out B1 LB1.out).mono ?_
  rintro e w2 h2
  obtain ⟨nm2, pi2, ci2, pp2, lp2, cp2, pr2, lr2, cr2, pa2, la2, ca2, rfl, l2⟩ := ex_act h2
  have L2 := Lib.hid (LB1.out.trans l2)
  have K1 := Lib.hid (l2.keep HC1.out.2.1)
  clear h2 b0 b1 l2
  obtain ⟨B2, hB2⟩ : ∃ B, B = w2.alloc (.cells #[.string nm2, .slice pi2 1 ci2, .slice pp2 lp2 cp2, .slice pr2 lr2 cr2, .slice pa2 la2 ca2] 37) := ⟨_, rfl⟩
  have l9 := low_new (Low.refl w2) (.cells #[.string nm2, .slice pi2 1 ci2, .slice pp2 lp2 cp2, .slice pr2 lr2 cr2, .slice pa2 la2 ca2] 37)
  rw [← hB2] at l9
  have LB2 := Lib.hid (show Low W B2 from L2.out.trans l9)
  have K2 := Lib.hid (l9.keep K1.out)
  have K3 := Lib.hid (box5 (w := w2) (wr := B2) (c0 := .string nm2) (c1 := .slice pi2 1 ci2) (c2 := .slice pp2 lp2 cp2) (c3 := .slice pr2 lr2 cr2) (c4 := .slice pa2 la2 ca2) (t := 37) (by rw [hB2]; exact Low.refl _)).2.1
  have HB2 := Lib.hid hB2
  clear hB2 l9
  go_upto_region 4 with fail
  rw [← HB2.out]
  clear HB2 K1
  have HF := Lib.hid fun (V : World) (hl : Low B2 V) => (show V.cell? ⟨w.heap.size + 1 + 1 + 1 + 1 + 1 + 1 + 1, 0, none⟩ = some (.slice (some ⟨w.heap.size + 1 + 1, 0, none⟩) 2 2) ∧ V.cell? ⟨w.heap.size + 1 + 1 + 1 + 1 + 1 + 1 + 1, 1, none⟩ = some (.slice (some ⟨w.heap.size + 1 + 1 + 1 + 1 + 1 + 1, 0, none⟩) 2 2) from ⟨(LB2.out.trans hl).keep HB.out.1, (LB2.out.trans hl).keep HB.out.2⟩)
  have HCk := Lib.hid (check12_c 0 exT exA B2 _ _ (HX.out.low LB2.out) (by decide) (by intro t ht; simp [exT] at ht; rcases ht with rfl | rfl <;> exact ex_sm) (by intro t ht; simp [exA] at ht; rcases ht with rfl | rfl <;> exact ex_sm) fewg_ex fewg_ex2 (HT.out.low LB2.out) (HA.out.low LB2.out))
  rw [ex_chk] at HCk
  have HAb := Lib.hid fun (V : World) (hl : Low B2 V) (x y : Nm) => above_c 0 exT x y V _ (.slice (some ⟨w.heap.size + 1 + 1 + 1 + 1 + 1 + 1, 0, none⟩) 2 2) (by decide) fewg_ex (HT.out.low (LB2.out.trans hl))
  have HAi := Lib.hid fun (V : World) (hl : Low B2 V) (x y : Nm) => actin_c 0 exA x y V (.slice (some ⟨w.heap.size + 1 + 1, 0, none⟩) 2 2) _ (by decide) fewg_ex2 (HA.out.low (LB2.out.trans hl))
  have HEn := Lib.hid fun (V : World) (hl : Low B2 V) => envs_c 0 exA V (.slice (some ⟨w.heap.size + 1 + 1, 0, none⟩) 2 2) _ fewa_ex (HA.out.low (LB2.out.trans hl))
  obtain ⟨b0, b1⟩ := HF.out B2 (Low.refl _)
  go_wp2_with fail
  refine HCk.out.mono ?_
  rintro e w3 ⟨rfl, l3⟩
  have L3 := Lib.hid l3
  clear b0 b1
  obtain ⟨b0, b1⟩ := HF.out w3 L3.out
  have HQ3 := Lib.hid (show Calls Try.prog 17 #[.agg #[.slice (some ⟨w.heap.size + 1 + 1, 0, none⟩) 2 2, .slice (some ⟨w.heap.size + 1 + 1 + 1 + 1 + 1 + 1, 0, none⟩) 2 2], .string ⟨#[85, 115, 101, 114]⟩, .string ⟨#[71, 114, 111, 117, 112]⟩] w3 fun e w' => e = .returned (.bool (ways (exT.map Et.r) nmU nmG)) ∧ Low w3 w' from HAb.out w3 L3.out nmU nmG)
  rw [ex_ug] at HQ3
  clear l3
  go_wp2_with fail
  refine HQ3.out.mono ?_
  rintro e w4 ⟨rfl, l4⟩
  have L4 := Lib.hid (L3.out.trans l4)
  clear b0 b1
  obtain ⟨b0, b1⟩ := HF.out w4 L4.out
  have HQ4 := Lib.hid (show Calls Try.prog 17 #[.agg #[.slice (some ⟨w.heap.size + 1 + 1, 0, none⟩) 2 2, .slice (some ⟨w.heap.size + 1 + 1 + 1 + 1 + 1 + 1, 0, none⟩) 2 2], .string ⟨#[71, 114, 111, 117, 112]⟩, .string ⟨#[71, 114, 111, 117, 112]⟩] w4 fun e w' => e = .returned (.bool (ways (exT.map Et.r) nmG nmG)) ∧ Low w4 w' from HAb.out w4 L4.out nmG nmG)
  rw [ex_gg] at HQ4
  clear l4
  go_wp2_with fail
  refine HQ4.out.mono ?_
  rintro e w5 ⟨rfl, l5⟩
  have L5 := Lib.hid (L4.out.trans l5)
  clear b0 b1
  obtain ⟨b0, b1⟩ := HF.out w5 L5.out
  have HQ5 := Lib.hid (show Calls Try.prog 17 #[.agg #[.slice (some ⟨w.heap.size + 1 + 1, 0, none⟩) 2 2, .slice (some ⟨w.heap.size + 1 + 1 + 1 + 1 + 1 + 1, 0, none⟩) 2 2], .string ⟨#[71, 114, 111, 117, 112]⟩, .string ⟨#[85, 115, 101, 114]⟩] w5 fun e w' => e = .returned (.bool (ways (exT.map Et.r) nmG nmU)) ∧ Low w5 w' from HAb.out w5 L5.out nmG nmU)
  rw [ex_gu] at HQ5
  clear l5
  go_wp2_with fail
  refine HQ5.out.mono ?_
  rintro e w6 ⟨rfl, l6⟩
  have L6 := Lib.hid (L5.out.trans l6)
  clear b0 b1
  obtain ⟨b0, b1⟩ := HF.out w6 L6.out
  have d1 := L6.out.keep K2.out
  have d2 := L6.out.keep K3.out
  clear l6
  go_wp2_with fail
  refine (HEn.out w6 L6.out).mono ?_
  rintro e w7 ⟨v7, rfl, hv, l7⟩
  obtain ⟨ao7, cap7, rfl, -, -, -⟩ := hv.shape
  have L7 := Lib.hid (L6.out.trans l7)
  have h77 : (envs exA).length = 2 := by decide
  rw [h77]
  clear hv
  clear b0 b1
  obtain ⟨b0, b1⟩ := HF.out w7 L7.out
  have HQ7 := Lib.hid (show Calls Try.prog 19 #[.agg #[.slice (some ⟨w.heap.size + 1 + 1, 0, none⟩) 2 2, .slice (some ⟨w.heap.size + 1 + 1 + 1 + 1 + 1 + 1, 0, none⟩) 2 2], .string ⟨#[118]⟩, .string ⟨#[97, 108, 108]⟩] w7 fun e w' => e = .returned (.bool (inB (exA.map Ac.r) nmV nmA)) ∧ Low w7 w' from HAi.out w7 L7.out nmV nmA)
  rw [ex_va] at HQ7
  clear l7
  go_wp2_with fail
  refine HQ7.out.mono ?_
  rintro e w8 ⟨rfl, l8⟩
  have L8 := Lib.hid (L7.out.trans l8)
  clear b0 b1
  obtain ⟨b0, b1⟩ := HF.out w8 L8.out
  have HQ8 := Lib.hid (show Calls Try.prog 19 #[.agg #[.slice (some ⟨w.heap.size + 1 + 1, 0, none⟩) 2 2, .slice (some ⟨w.heap.size + 1 + 1 + 1 + 1 + 1 + 1, 0, none⟩) 2 2], .string ⟨#[97, 108, 108]⟩, .string ⟨#[118]⟩] w8 fun e w' => e = .returned (.bool (inB (exA.map Ac.r) nmA nmV)) ∧ Low w8 w' from HAi.out w8 L8.out nmA nmV)
  rw [ex_av] at HQ8
  clear l8
  go_wp2_with fail
  refine HQ8.out.mono ?_
  rintro e w9 ⟨rfl, l9⟩
  have L9 := Lib.hid (L8.out.trans l9)
  obtain ⟨Y, hY⟩ : ∃ Y, Y = w9.alloc (.cells #[.string ⟨#[65, 99, 116, 105, 111, 110]⟩, .slice none 0 0, .slice none 0 0] 33) := ⟨_, rfl⟩
  have LY := Lib.hid (show Low w9 Y by rw [hY]; exact low_new (Low.refl _) _)
  have HCy := Lib.hid (show Calls Try.prog 10 #[.agg #[.slice (some ⟨w9.heap.size, 0, none⟩) 1 1, .slice none 0 0]] Y fun e w' => e = .returned (.int .i64 40) ∧ Low Y w' from by
    have := check12_c 0 exX [] Y (.slice (some ⟨w9.heap.size, 0, none⟩) 1 1) (.slice none 0 0) (((HX.out.low LB2.out).low L9.out).low LY.out) (by decide) (by intro t ht; simp [exX] at ht; rcases ht with rfl; exact ex_sm) (by intro t ht; simp at ht) fewg_x ⟨by decide, by decide⟩ (by rw [hY]; exact ets_x rfl) (RowB.nil _ _ _ _)
    rw [ex_chk2] at this
    exact this)
  have HYY := Lib.hid hY
  clear hY b0 b1 l9
  go_wp2_with fail
  rw [← HYY.out]
  refine HCy.out.mono ?_
  rintro e wz ⟨rfl, lz⟩
  go_wp2_with fail
  go_ret
  exact ⟨rfl, LW.out.trans (LB2.out.trans (L9.out.trans (LY.out.trans lz)))⟩
end Go.Proofs.Ytijjbfdbhfjfmaa
