/- Plain: some way goes round by names just if some goes round by numbers. No condition. Plain: a name put into a rising row, an entity put behind all that come first. No condition. Plain: lists of entities as they must be stay so; neither the order of a list nor that of parents matters. Conditions: as each says, of 'c'. Entities in memory, as what they are; what the walks of their parents want. No condition. entity.Order, and the reference's: the order of names. No condition. The reference's order of values is the order by definition. No condition. The reference's Order is the order by definition. No condition. How deep a value is nested, and whether it is deeper than a number. Condition: a bound on the depth. Entities as cells of a row of the call's own. No condition. slices.SortFunc at names and at entities, in a row of the call's own; slices.Clone at names. Condition: not too many. -/
import Derived.Test.YtnchohglplobeaaGreatZg39
import Derived.Test.YtnchohglplobeaaGreatZg07
set_option linter.unusedVariables false
set_option linter.unusedSimpArgs false
set_option linter.unnecessarySimpa false
namespace Go.Proofs.YtnchohglplobeaaGreat
theorem idx_at {l : List Sh} {x : Us} (hi : idxS l x < l.length) : l[idxS l x].u = x := by
 have h : (fun s : Sh => decide (s.u = x)) (l[List.findIdx (fun s => decide (s.u = x)) l]'hi) = true := List.findIdx_getElem (w := hi)
 simp at h
 exact h
theorem idx_lt {l : List Sh} {x : Us} (h : (fS l x).isSome = true) : ∃ hi : idxS l x < l.length, l[idxS l x].u = x := by
 unfold fS at h
 simp at h
 obtain ⟨s, hs, he⟩ := h
 have hi : idxS l x < l.length := List.findIdx_lt_length_of_exists ⟨s, hs, by simpa using he⟩
 exact ⟨hi, idx_at hi⟩
theorem idx_some {l : List Sh} {i : Nat} (hi : i < l.length) : (fS l l[i].u).isSome = true := by
 unfold fS
 simp
 exact ⟨l[i], List.getElem_mem hi, rfl⟩
theorem findI_idx {l : List Sh} {x : Us} (h : (fS l x).isSome = true) : findI l x = (idxS l x : Int) := by
 obtain ⟨hi, _⟩ := idx_lt h
 unfold findI
 rw [if_pos hi]
theorem findI_nat {l : List Sh} {x : Us} {j : Nat} (h : findI l x = (j : Int)) : ∃ hj : j < l.length, l[j].u = x := by
 unfold findI at h
 split at h
 ·rename_i h1
  obtain rfl : idxS l x = j := by omega
  exact ⟨h1, idx_at h1⟩
 ·omega
def NameS (l : List Sh) (g : Us → List Us) (x y : Us) : Prop := (fS l x).isSome = true ∧ y ∈ g x ∧ (fS l y).isSome = true
theorem way_num {l : List Sh} {R : Nat → List Us} {g : Us → List Us} (hg : ∀ i (hi : i < l.length), findI l l[i].u = (i : Int) → g l[i].u = R i) {x y : Us} (h : Way (NameS l g) x y) : Way (stepS l R) (idxS l x) (idxS l y) := by
 have st : ∀ x y, NameS l g x y → stepS l R (idxS l x) (idxS l y) := fun x y h => by
  obtain ⟨hi, hu⟩ := idx_lt h.1
  refine ⟨hi, y, ?_, findI_idx h.2.2⟩
  rw [← hg _ hi (by rw [hu]; exact findI_idx h.1), hu]
  exact h.2.1
 induction h with
 | one s => exact .one (st _ _ s)
 | more _ s ih => exact .more ih (st _ _ s)
theorem way_name {l : List Sh} {R : Nat → List Us} {g : Us → List Us} (hg : ∀ i (hi : i < l.length), findI l l[i].u = (i : Int) → g l[i].u = R i) {i j : Nat} (h : Way (stepS l R) i j) :
  ∀ (hi : i < l.length), findI l l[i].u = (i : Int) → ∃ hj : j < l.length, findI l l[j].u = (j : Int) ∧ Way (NameS l g) l[i].u l[j].u := by
 have st : ∀ i j, stepS l R i j → ∀ (hi : i < l.length), findI l l[i].u = (i : Int) → ∃ hj : j < l.length, findI l l[j].u = (j : Int) ∧ NameS l g l[i].u l[j].u := fun i j h hi hf => by
  obtain ⟨_, p, hp, h2⟩ := h
  obtain ⟨hj, hu⟩ := findI_nat h2
  refine ⟨hj, by rw [hu]; exact h2, idx_some hi, ?_, idx_some hj⟩
  rw [hg i hi hf, hu]
  exact hp
 induction h with
 | one s =>
  intro hi hf
  obtain ⟨hj, h1, h2⟩ := st _ _ s hi hf
  exact ⟨hj, h1, .one h2⟩
 | more _ s ih =>
  intro hi hf
  obtain ⟨hj, h1, h2⟩ := ih hi hf
  obtain ⟨hk, h3, h4⟩ := st _ _ s hj h1
  exact ⟨hk, h3, .more h2 h4⟩
theorem rnd_same {l : List Sh} {R : Nat → List Us} {g : Us → List Us} (hg : ∀ i (hi : i < l.length), findI l l[i].u = (i : Int) → g l[i].u = R i) :
  (∃ a, Way (NameS l g) a a) ↔ ∃ i, ∃ hi : i < l.length, findI l l[i].u = (i : Int) ∧ Way (stepS l R) i i := by
 constructor
 ·rintro ⟨a, h⟩
  have ha : (fS l a).isSome = true := by
   obtain ⟨_, s, _⟩ := h.first
   exact s.1
  obtain ⟨hi, hu⟩ := idx_lt ha
  exact ⟨idxS l a, hi, by rw [hu]; exact findI_idx ha, way_num hg h⟩
 ·rintro ⟨i, hi, hf, h⟩
  obtain ⟨_, _, h2⟩ := way_name hg h hi hf
  exact ⟨_, h2⟩
end Go.Proofs.YtnchohglplobeaaGreat
namespace Go.Proofs.YtnchohglplobeaaGreat
def putS (u : Us) : List Us → Bool → List Us
 | [], put => if put = true then [] else [u]
 | x :: r, put => (if (!put && decide (0 ≤ cmpUs x u)) = true then [u] else []) ++ ((if x = u then [] else [x]) ++ putS u r (put || decide (0 ≤ cmpUs x u)))
theorem putS_true {u : Us} : ∀ {l : List Us}, u ∉ l → putS u l true = l
 | [], _ => rfl
 | x :: r, h => by
  have hx : x ≠ u := fun e => h (by simp [e])
  rw [putS, if_neg (by simp), if_neg hx, Bool.true_or, putS_true (fun hr => h (by simp [hr]))]
  rfl
theorem us_refl (u : Us) : cmpUs u u = 0 := good_us.refl trivial
theorem putS_ins {u : Us} : ∀ {l : List Us}, Rises cmpUs l → putS u l false = ins cmpUs u l
 | [], _ => rfl
 | x :: r, h => by
  have h1 : ∀ y ∈ r, cmpUs x y < 0 := (List.pairwise_cons.1 h).1
  have h2 : Rises cmpUs r := (List.pairwise_cons.1 h).2
  rw [putS, ins, Bool.false_or]
  by_cases hlt : cmpUs x u < 0
  ·have hne : x ≠ u := fun e => by rw [e, us_refl] at hlt; omega
   have hd : decide (0 ≤ cmpUs x u) = false := by simp; omega
   rw [hd, if_neg (by simp), if_neg hne, if_pos hlt, putS_ins h2]; rfl
  ·have hd : decide (0 ≤ cmpUs x u) = true := by simp; omega
   rw [hd, if_pos (by simp), if_neg hlt]
   by_cases h0 : cmpUs x u = 0
   ·have hxu := us_zero h0
    subst hxu
    rw [if_pos rfl, if_pos h0, putS_true (fun hm => by have := h1 x hm; rw [us_refl] at this; omega)]; rfl
   ·have hne : x ≠ u := fun e => h0 (by rw [e]; exact us_refl u)
    rw [if_neg hne, if_neg h0, putS_true (fun hm => ?_)]
    ·rfl
    ·have h3 := h1 u hm
     exact hlt h3
theorem insE_at {α : Type} {c : α → α → Int} {x : α} : ∀ {l : List α}, (∀ y ∈ l, c y x ≠ 0) → ∀ k, k ≤ l.length → (∀ i (h : i < l.length), i < k → c l[i] x < 0) → (∀ h : k < l.length, ¬ c l[k] x < 0) → ins c x l = l.take k ++ x :: l.drop k
 | [], _, k, hk, _, _ => by simp at hk; subst hk; rfl
 | y :: r, hn, 0, _, _, h0 => by
  have h1 : ¬ c y x < 0 := h0 (by simp)
  rw [ins, if_neg h1, if_neg (hn y (by simp))]; rfl
 | y :: r, hn, k + 1, hk, h1, h0 => by
  have hy : c y x < 0 := h1 0 (by simp) (by omega)
  rw [ins, if_pos hy, insE_at (fun z hz => hn z (by simp [hz])) k (by simpa using hk) (fun i h hi => by have := h1 (i + 1) (by simpa using h) (by omega); rwa [List.getElem_cons_succ] at this) (fun h => by have := h0 (by simpa using h); rwa [List.getElem_cons_succ] at this)]
  rfl
theorem names_perm {l m : List En} (h : l.Perm m) : (namesE l).Perm (namesE m) := h.map _
end Go.Proofs.YtnchohglplobeaaGreat
namespace Go.Proofs.YtnchohglplobeaaGreat
section
variable {c : V → Int × V}
theorem names_one (l : List En) : namesE (l.map (oneE c)) = namesE l := by
 unfold namesE
 rw [List.map_map]; rfl
theorem same_name {l : List En} (hn : (namesE l).Nodup) {x y : En} (hx : x ∈ l) (hy : y ∈ l) (h : x.u = y.u) : x = y := by
 have h1 := fst_of hn hx
 have h2 := fst_of hn hy
 rw [h] at h1
 rw [h1] at h2
 simpa using h2
theorem en_zero {l : List En} (hn : (namesE l).Nodup) (y x : En) (hy : y ∈ l) (hx : x ∈ l) (h : cmpE y x = 0) : y = x := same_name hn hy hx (us_zero h)
theorem rise_en {l : List En} (hn : (namesE l).Nodup) : Rises cmpE (uniq cmpE l) := uniq_rises (S := fun e => e ∈ l) (good_en.mono fun _ _ => trivial) (fun y x hy hx h => en_zero hn y x hy hx h) (fun _ h => h)
theorem mem_en {l : List En} (hn : (namesE l).Nodup) {z : En} : z ∈ uniq cmpE l ↔ z ∈ l := mem_uniq (S := fun e => e ∈ l) (good_en.mono fun _ _ => trivial) (fun y x hy hx h => en_zero hn y x hy hx h) (fun _ h => h)
theorem en_unique {l m : List En} (hl : Rises cmpE l) (hm : Rises cmpE m) (h : ∀ z, z ∈ l ↔ z ∈ m) : l = m := rises_unique good_en (fun _ _ => trivial) (fun _ _ => trivial) hl hm h
theorem rises_names {l : List En} (h : Rises cmpE l) : (namesE l).Nodup := by
 unfold namesE
 rw [List.nodup_iff_pairwise_ne, List.pairwise_map]
 refine h.imp fun {a b} hab e => ?_
 unfold cmpE at hab
 rw [e, us_refl] at hab
 omega
theorem canE_ok {l : List En} : (canE c l).1 = 0 ↔ l.length ≤ 4096 ∧ (namesE l).Nodup ∧ (∀ e ∈ l, errE c (namesE l) e = 0) ∧ ¬ RoundE l := by
 unfold canE
 by_cases h1 : 4096 < l.length
 ·rw [if_pos h1]; simp; omega
 ·rw [if_neg h1]
  by_cases h2 : (namesE l).Nodup
  ·rw [if_pos h2]
   by_cases h3 : errL c (namesE l) l = 0
   ·rw [if_pos h3]
    by_cases h4 : RoundE l
    ·rw [if_pos h4]; simp [h4]
    ·rw [if_neg h4]
     simp only [true_iff]
     exact ⟨by omega, h2, (errL_zero c).1 h3, h4⟩
   ·rw [if_neg h3]
    simp only [h3, false_iff]
    exact fun h => h3 ((errL_zero c).2 h.2.2.1)
  ·rw [if_neg h2]; simp [h2]
theorem canE_val {l : List En} (h : (canE c l).1 = 0) : canE c l = (0, uniq cmpE (l.map (oneE c))) := by
 obtain ⟨h1, h2, h3, h4⟩ := canE_ok.1 h
 unfold canE
 rw [if_neg (by omega), if_pos h2, if_pos ((errL_zero c).2 h3), if_neg h4]
end
end Go.Proofs.YtnchohglplobeaaGreat
namespace Go.Proofs.YtnchohglplobeaaGreat
open Go.RowKit Go.Sort Go.Maps
theorem find_ee (qs : List Ee) (x : Us) : ∃ o : Option Ee, (qs.map Ee.sh).find? (fun s => decide (s.u = x)) = o.map Ee.sh ∧ fstE (ensOf qs) x = o.map (·.e) ∧ ∀ q, o = some q → q ∈ qs := by
 refine ⟨qs.find? fun q => decide (q.e.u = x), ?_, ?_, fun q h => List.mem_of_find?_eq_some h⟩
 ·rw [List.find?_map]; rfl
 ·unfold fstE ensOf
  rw [List.find?_map]; rfl
theorem fS_names {qs : List Ee} {x : Us} : (fS (qs.map Ee.sh) x).isSome = true ↔ x ∈ namesE (ensOf qs) := by
 rw [← fst_some]
 obtain ⟨o, h1, h2, -⟩ := find_ee qs x
 unfold fS
 rw [h1, h2]
 cases o <;> simp
theorem fS_row {qs : List Ee} {w : World} {A : Nat → Prop} (hok : ∀ q ∈ qs, EeOk A w q) {x : Us} {v : Value} (h : fS (qs.map Ee.sh) x = some v) : UsAt w v (PE (ensOf qs) x) := by
 obtain ⟨o, h1, h2, h3⟩ := find_ee qs x
 unfold fS at h
 unfold PE
 rw [h2]
 rw [h1] at h
 cases o with
 | none => simp at h
 | some q =>
  simp at h
  subst h
  exact (hok q (h3 q rfl)).1.any
def FewE (l : List En) : Prop := l.length ≤ 300 ∧ ∀ e ∈ l, e.ps.length ≤ 300
theorem PE_len {l : List En} (h : FewE l) (x : Us) : (PE l x).length ≤ 300 := by
 unfold PE
 cases e : fstE l x with
 | none => simp
 | some q => exact h.2 q (List.mem_of_find?_eq_some e)
theorem flat_lev {l : List En} (h : FewE l) : ∀ seen : List Us, (seen.flatMap (PE l)).length ≤ seen.length * 300
 | [] => by simp
 | x :: r => by
  have h1 := PE_len h x
  have h2 := flat_lev h r
  rw [List.flatMap_cons, List.length_append, List.length_cons]
  omega
theorem rowsE {qs : List Ee} {w : World} {A : Nat → Prop} (hok : ∀ q ∈ qs, EeOk A w q) (hf : FewE (ensOf qs)) : RowsAt w (fS (qs.map Ee.sh)) (PE (ensOf qs)) where
 row := fun u v h => fS_row hok h
 few := fun seen hn hs => by
  have h1 := seen_len hn hs
  have h2 := flat_lev hf seen
  have h3 := hf.1
  rw [List.length_map] at h1
  unfold ensOf at h3
  rw [List.length_map] at h3
  omega
theorem round_word (qs : List Ee) : (∃ a, Way (fun x y => (fS (qs.map Ee.sh) x).isSome = true ∧ y ∈ PE (ensOf qs) x ∧ (fS (qs.map Ee.sh) y).isSome = true) a a) ↔ RoundE (ensOf qs) := by
 unfold RoundE
 have e : (fun x y => (fS (qs.map Ee.sh) x).isSome = true ∧ y ∈ PE (ensOf qs) x ∧ (fS (qs.map Ee.sh) y).isSome = true) = stepE (ensOf qs) := by
  funext x y
  unfold stepE
  rw [fS_names, fS_names]
 rw [e]
theorem rround_word (qs : List Ee) : (∃ i, ∃ hi : i < (qs.map Ee.sh).length, findI (qs.map Ee.sh) (qs.map Ee.sh)[i].u = (i : Int) ∧ Way (stepS (qs.map Ee.sh) (fun i => ((ensOf qs)[i]?.map (·.ps)).getD [])) i i) ↔ RoundE (ensOf qs) := by
 rw [← round_word]
 refine (rnd_same fun i hi hf => ?_).symm
 have hi' : i < qs.length := by simpa using hi
 have hu : ∀ j (hj : j < qs.length), (qs.map Ee.sh)[j]'(by simpa using hj) = qs[j].sh := fun j hj => List.getElem_map _
 have h1 : idxS (qs.map Ee.sh) (qs.map Ee.sh)[i].u = i := by
  unfold findI at hf
  split at hf <;> omega
 unfold idxS at h1
 rw [List.findIdx_map] at h1
 have h2 : fstE (ensOf qs) (qs.map Ee.sh)[i].u = some qs[i].e := by
  unfold fstE ensOf
  rw [List.find?_map]
  have : qs.find? ((fun e : En => decide (e.u = (qs.map Ee.sh)[i].u)) ∘ (·.e)) = some qs[i] := by
   rw [List.find?_eq_some_iff_getElem]
   refine ⟨by simp [Ee.sh], i, hi', rfl, fun j hj => ?_⟩
   have := List.not_of_lt_findIdx (p := (fun s : Sh => decide (s.u = (qs.map Ee.sh)[i].u)) ∘ Ee.sh) (xs := qs) (i := j) (by rw [h1]; exact hj)
   simp at this
   simp
   exact this
  rw [this]; rfl
 unfold PE
 rw [h2]
 simp [ensOf, hi']
end Go.Proofs.YtnchohglplobeaaGreat
namespace Go.Proofs.YtnchohglplobeaaGreat
open Go.RowKit Go.Sort
def refV (u : Us) : V := .mk ⟨4, false, 0, ⟨#[]⟩, u.t, u.i⟩ [] []
theorem ord_refV (a b : Us) : ord (refV a) (refV b) = cmpUs a b := by
 rw [ord_eq]
 simp [refV, V.h, cmpUs]
theorem r_refV (w : World) (u : Us) : R w (refV u) (.slice none 0 0) (.slice none 0 0) := by
 have h1 := u.ht
 have h2 := u.hi
 unfold maxLen at h1 h2
 exact rep_v.2 ⟨⟨Nat.zero_le _, h1, h2⟩, ⟨none, 0, rfl, by simp [refV, V.ns], by simp [refV, V.ns], .inl rfl⟩, none, 0, rfl, ⟨by simp [refV, V.l], by simp⟩, .inl rfl⟩
theorem eRef_c (u : Us) (w : World) : Calls Tryz.prog 87 #[.agg #[.string u.t, .string u.i]] w fun e w' => e = .returned (.agg #[.int .i64 4, .bool false, .int .i64 0, .string ⟨#[]⟩, .string u.t, .string u.i, .slice none 0 0, .slice none 0 0]) ∧ Gr w w' := by
 go_enter Tryz.func87, Tryz.ntmps87
 go_wp2_with fail
 refine bodyPost_ret (v := .agg #[.int .i64 4, .bool false, .int .i64 0, .string ⟨#[]⟩, .string u.t, .string u.i, .slice none 0 0, .slice none 0 0]) (by simp [results, Tryz.results87, go_sem]; try rfl) rfl ?_
 exact ⟨rfl, Gr.alloc (Gr.alloc (Gr.refl w) _) _⟩
set_option maxHeartbeats 1600000 in
theorem eOrder_c (a b : Us) (w : World) : Calls Tryz.prog 45 #[.agg #[.string a.t, .string a.i], .agg #[.string b.t, .string b.i]] w fun e w' => e = .returned (.int .i64 (cmpUs a b)) ∧ Gr w w' := by
 have mixed : Tryz.prog.follows .mixedOrders = true := by kernel_rfl
 obtain ⟨r, hr⟩ : ∃ r, r = cmpUs a b := ⟨_, rfl⟩
 have c3 : ∀ X, Calls Tryz.prog 86 #[.agg #[.int .i64 4, .bool false, .int .i64 0, .string ⟨#[]⟩, .string a.t, .string a.i, .slice none 0 0, .slice none 0 0], .agg #[.int .i64 4, .bool false, .int .i64 0, .string ⟨#[]⟩, .string b.t, .string b.i, .slice none 0 0, .slice none 0 0]] X fun e w' => e = .returned (.int .i64 r) ∧ Gr X w' := fun X => by
  rw [hr, ← ord_refV]; exact order_c (refV a) (refV b) X _ _ _ _ (r_refV X a) (r_refV X b)
 rw [← hr]
 clear hr
 obtain ⟨W, hW⟩ : ∃ W, W = (w.alloc (.cells #[.string a.t, .string a.i] 23)).alloc (.cells #[.string b.t, .string b.i] 23) := ⟨_, rfl⟩
 have g0 : Gr w W := hW ▸ Gr.alloc (Gr.alloc (Gr.refl w) _) _
 have a0 : ∀ n os, (grow (W.drewN n) os).cell? ⟨w.heap.size, 0, none⟩ = some (.string a.t) := fun n os => (Gr.grow (Gr.refl W) n os).cell (by rw [hW]; simp [go_sem])
 have a1 : ∀ n os, (grow (W.drewN n) os).cell? ⟨w.heap.size, 1, none⟩ = some (.string a.i) := fun n os => (Gr.grow (Gr.refl W) n os).cell (by rw [hW]; simp [go_sem])
 have b0 : ∀ n os, (grow (W.drewN n) os).cell? ⟨w.heap.size + 1, 0, none⟩ = some (.string b.t) := fun n os => (Gr.grow (Gr.refl W) n os).cell (by rw [hW]; simp [go_sem])
 have b1 : ∀ n os, (grow (W.drewN n) os).cell? ⟨w.heap.size + 1, 1, none⟩ = some (.string b.i) := fun n os => (Gr.grow (Gr.refl W) n os).cell (by rw [hW]; simp [go_sem])
 have C1 := Lib.hid fun n os => Calls.grown_of (eRef_c a (grow (W.drewN n) os))
 have C2 := Lib.hid fun n os => Calls.grown_of (eRef_c b (grow (W.drewN n) os))
 have C3 := Lib.hid fun n os => Calls.grown_of (c3 (grow (W.drewN n) os))
 have G0 := Lib.hid g0
 have HW := Lib.hid hW
 clear c3 g0 hW
 go_enter Tryz.func45, Tryz.ntmps45
 go_wp2_with fail
 rw [← HW.out]
 clear HW
 go_quiet_grown (first | (with_reducible exact C1.out _ _) | (with_reducible exact C2.out _ _) | (with_reducible exact C3.out _ _))
 go_wp2_with fail
 go_ret
 exact ⟨rfl, G0.out.trans (Gr.grow (Gr.refl W) _ _)⟩
set_option maxHeartbeats 1600000 in
theorem rOrdE_c (a b : Us) (w : World) : Calls Tryz.prog 29 #[.agg #[.string a.t, .string a.i], .agg #[.string b.t, .string b.i]] w fun e w' => e = .returned (.int .i64 (cmpUs a b)) ∧ Gr w w' := by
 have ht := a.ht
 have hi := a.hi
 have ht' := b.ht
 have hi' := b.hi
 unfold maxLen at ht hi ht' hi'
 have C1 := Lib.hid fun W => rTexts_cv a.t b.t ht ht' W
 have C2 := Lib.hid fun W => rTexts_cv a.i b.i hi hi' W
 have G0 := Lib.hid (show Gr w ((w.alloc (.cells #[.string a.t, .string a.i] 23)).alloc (.cells #[.string b.t, .string b.i] 23)) from Gr.alloc (Gr.alloc (Gr.refl w) _) _)
 have hc : cmpUs a b = if cmpT a.t b.t = 0 then cmpT a.i b.i else cmpT a.t b.t := rfl
 rw [hc]
 generalize cmpT a.t b.t = x at C1 ⊢
 generalize cmpT a.i b.i = y at C2 ⊢
 have A0 : ∀ W, Gr ((w.alloc (.cells #[.string a.t, .string a.i] 23)).alloc (.cells #[.string b.t, .string b.i] 23)) W → W.cell? ⟨w.heap.size, 1, none⟩ = some (.string a.i) ∧ W.cell? ⟨w.heap.size + 1, 1, none⟩ = some (.string b.i) := fun W h => ⟨h.cell (by simp [go_sem]), h.cell (by simp [go_sem])⟩
 have HA := Lib.hid A0
 obtain ⟨r, hr⟩ : ∃ r, r = if x = 0 then y else x := ⟨_, rfl⟩
 rw [← hr]
 have HR := Lib.hid hr
 clear A0 ht hi ht' hi' hc hr
 go_enter Tryz.func29, Tryz.ntmps29
 go_wp2_with fail
 refine (C1.out _).mono ?_
 rintro e w1 ⟨rfl, g⟩
 obtain ⟨x1, x2⟩ := HA.out _ g
 have G1 := Lib.hid (G0.out.trans g)
 clear g
 by_cases h0 : x = 0
 ·subst h0
  go_wp2_with fail
  refine (C2.out _).mono ?_
  rintro e w2 ⟨rfl, g⟩
  go_wp2_with fail
  go_ret
  exact ⟨retIv (by rw [HR.out]; simp), G1.out.trans g⟩
 ·go_wp2_with fail
  go_ret
  exact ⟨retIv (by rw [HR.out, if_neg h0]), G1.out⟩
end Go.Proofs.YtnchohglplobeaaGreat
namespace Go.Proofs.YtnchohglplobeaaGreat
open Go.RowKit Go.Sort
theorem ordL_end {l m : List V} (h : l = [] ∨ m = []) : ordL l m = cmpIv l.length m.length := by
 unfold cmpIv Lib.compareInt
 cases l with
 | nil => cases m with
  | nil => simp [ordL_nil]
  | cons y m => simp [ordL_nil_cons] <;> omega
 | cons x l => cases m with
  | nil => simp [ordL_cons_nil] <;> omega
  | cons y m => simp at h
theorem drop_end {α : Type} {l m : List α} {i : Nat} (h1 : i ≤ l.length) (h2 : i ≤ m.length) : cmpIv (l.drop i).length (m.drop i).length = cmpIv l.length m.length := by
 simp only [List.length_drop, cmpIv, Lib.compareInt]
 split <;> split <;> (try split) <;> (try split) <;> omega
set_option maxHeartbeats 1600000 in
theorem rRows_c (l m : List V) (ih : ∀ x ∈ l, ∀ y ∈ m, OrdC 111 x y) (w : World) (it it' : Value) (hl : Ro w l it) (hm : Ro w m it') :
  Calls Tryz.prog 147 #[it, it'] w fun e w' => e = .returned (.int .i64 (ordL l m)) ∧ Gr w w' := by
 obtain ⟨al, cl, rfl, ⟨zl, zl'⟩, -⟩ := id hl
 obtain ⟨am, cm, rfl, ⟨zm, zm'⟩, -⟩ := id hm
 have HL := Lib.hid hl
 have HM := Lib.hid hm
 have HI := Lib.hid ih
 clear hl hm ih
 obtain ⟨r, hr⟩ : ∃ r, r = ordL l m := ⟨_, rfl⟩
 have HR := Lib.hid hr
 rw [← hr]
 clear hr
 go_enter Tryz.func147, Tryz.ntmps147
 go_wp2_with fail
 go_loopg [5] l.length (fun gk vi wr => ∃ i : Nat, vi = .int .i64 (i : Int) ∧ i ≤ l.length ∧ i ≤ m.length ∧ l.length - i ≤ gk ∧ Hid (Gr w wr) ∧ Hid (r = ordL (l.drop i) (m.drop i)))
 case atStart => exact ⟨0, rfl, Nat.zero_le _, Nat.zero_le _, Nat.le_refl _, Lib.hid (Gr.refl _), HR⟩
 case round =>
  obtain ⟨i, rfl, hi, hi', hg, G, K⟩ := hrel
  by_cases hlt : i < l.length
  ·have z1 : (i : Int) < (l.length : Int) := by omega
   by_cases hlm : i < m.length
   ·have z2 : (i : Int) < (m.length : Int) := by omega
    obtain ⟨b, o, ai, ci, an, cn, rfl, hcs, hrx⟩ := ro_at (HL.out.low G.out.low) hlt
    obtain ⟨e0, e1, e2, e3, e4, e5, e6, e7⟩ := cells8 hcs
    obtain ⟨b', o', ai', ci', an', cn', rfl, hcs', hrx'⟩ := ro_at (HM.out.low G.out.low) hlm
    obtain ⟨d0, d1, d2, d3, d4, d5, d6, d7⟩ := cells8 hcs'
    have HR := Lib.hid hrx
    have HR' := Lib.hid hrx'
    have hcon := HI.out l[i] (List.getElem_mem hlt) m[i] (List.getElem_mem hlm)
    obtain ⟨c, hc⟩ : ∃ c, c = ord l[i] m[i] := ⟨_, rfl⟩
    unfold OrdC at hcon
    rw [← hc] at hcon
    have HC := Lib.hid hcon
    have hst : r = orI c (ordL (l.drop (i + 1)) (m.drop (i + 1))) := by rw [hc, ← ordL_cons, ← drop_consv hlt, ← drop_consv hlm]; exact K.out
    have HS := Lib.hid hst
    have G0 := Lib.hid G.out.drew
    clear hst hcs hcs' hrx hrx' hcon hc
    go_wp2_with fail
    go_region_held3 (fun w' => w'.cell? ⟨b, o + i * 8, none⟩ = some (.int .i64 l[i].h.k) ∧ w'.cell? ⟨b, o + i * 8 + 1, none⟩ = some (.bool l[i].h.b) ∧ w'.cell? ⟨b, o + i * 8 + 2, none⟩ = some (.int .i64 l[i].h.n) ∧ w'.cell? ⟨b, o + i * 8 + 3, none⟩ = some (.string l[i].h.s) ∧ w'.cell? ⟨b, o + i * 8 + 4, none⟩ = some (.string l[i].h.t) ∧ w'.cell? ⟨b, o + i * 8 + 5, none⟩ = some (.string l[i].h.i) ∧ w'.cell? ⟨b, o + i * 8 + 6, none⟩ = some (.slice ai l[i].l.length ci) ∧ w'.cell? ⟨b, o + i * 8 + 7, none⟩ = some (.slice an l[i].ns.length cn) ∧ w'.cell? ⟨b', o' + i * 8, none⟩ = some (.int .i64 m[i].h.k) ∧ w'.cell? ⟨b', o' + i * 8 + 1, none⟩ = some (.bool m[i].h.b) ∧ w'.cell? ⟨b', o' + i * 8 + 2, none⟩ = some (.int .i64 m[i].h.n) ∧ w'.cell? ⟨b', o' + i * 8 + 3, none⟩ = some (.string m[i].h.s) ∧ w'.cell? ⟨b', o' + i * 8 + 4, none⟩ = some (.string m[i].h.t) ∧ w'.cell? ⟨b', o' + i * 8 + 5, none⟩ = some (.string m[i].h.i) ∧ w'.cell? ⟨b', o' + i * 8 + 6, none⟩ = some (.slice ai' m[i].l.length ci') ∧ w'.cell? ⟨b', o' + i * 8 + 7, none⟩ = some (.slice an' m[i].ns.length cn')) (go_keep) (first
     | (go_at_call 111; refine (HC.out _ _ _ _ _ (HR.out.low (Gr.refl _).drew.low) (HR'.out.low (Gr.refl _).drew.low)).mono ?_; rintro e w1 ⟨rfl, g⟩; have e0 := g.cell e0; have d0 := g.cell d0; have e1 := g.cell e1; have d1 := g.cell d1; have e2 := g.cell e2; have d2 := g.cell d2; have e3 := g.cell e3; have d3 := g.cell d3; have e4 := g.cell e4; have d4 := g.cell d4; have e5 := g.cell e5; have d5 := g.cell d5; have e6 := g.cell e6; have d6 := g.cell d6; have e7 := g.cell e7; have d7 := g.cell d7; have G1 := Lib.hid (G0.out.trans g)))
    all_goals
     by_cases h0 : c = 0
     ·subst h0
      have HS' : Hid (r = ordL (l.drop (i + 1)) (m.drop (i + 1))) := HS
      go_wp2_with fail
      go_roundg (l.length - (i + 1))
      case measure => omega
      case rel => exact ⟨i + 1, by go_num, by omega, by omega, by omega, G1, HS'⟩
     ·have hr : r = c := by rw [HS.out, orI, if_neg h0]
      have HQ := Lib.hid hr
      clear hr
      go_wp2_with fail
      go_ret
      exact ⟨retIv HQ.out, G1.out⟩
   ·have z2 : ¬ (i : Int) < (m.length : Int) := by omega
    have hr : r = cmpIv l.length m.length := by
     rw [K.out, ordL_end (.inr (List.drop_eq_nil_of_le (by omega))), drop_end (by omega) (by omega)]
    have HQ := Lib.hid hr
    clear hr
    go_wp2_with fail
    refine (rInts_cv _ _ _).mono ?_
    rintro e w' ⟨rfl, rfl⟩
    go_wp2_with fail
    go_ret
    exact ⟨retIv HQ.out, G.out⟩
  ·have z1 : ¬ (i : Int) < (l.length : Int) := by omega
   have hr : r = cmpIv l.length m.length := by
    rw [K.out, ordL_end (.inl (List.drop_eq_nil_of_le (by omega))), drop_end (by omega) (by omega)]
   have HQ := Lib.hid hr
   clear hr
   go_wp2_with fail
   refine (rInts_cv _ _ _).mono ?_
   rintro e w' ⟨rfl, rfl⟩
   go_wp2_with fail
   go_ret
   exact ⟨retIv HQ.out, G.out⟩
set_option maxHeartbeats 800000 in
theorem rNamed_c (v : V) (w : World) (it nm : Value) (hr : R w v it nm) : Calls Tryz.prog 148 #[avv v.h it nm] w (RowP v.named w) := by
 obtain ⟨-, ⟨an, cn, rfl, zn, -⟩, hro⟩ := rep_v.1 hr
 obtain ⟨ai, ci, rfl, ⟨zl, zc⟩, -⟩ := id hro
 have z1 : (v.l.length : Int) ≤ ci := by omega
 unfold avv
 by_cases hm : v.ns.length < v.l.length
 ·have z2 : (v.ns.length : Int) < v.l.length := by omega
  have z3 : (v.ns.length : Int) ≤ ci := by omega
  have HR := Lib.hid (show Ro w v.named (.slice ai v.ns.length ci) by
   have h := ro_take hro (k := v.ns.length) (by omega)
   rwa [show v.l.take v.ns.length = v.named by unfold V.named; rw [Nat.min_eq_left (by omega)]] at h)
  clear hr hro
  go_enter Tryz.func148, Tryz.ntmps148
  go_wp2_with fail
  go_ret
  exact ⟨_, rfl, HR.out.low (Gr.alloc (Gr.refl w) _).low, Gr.alloc (Gr.refl w) _⟩
 ·have z2 : ¬ (v.ns.length : Int) < v.l.length := by omega
  have HR := Lib.hid (show Ro w v.named (.slice ai v.l.length ci) by
   have h := ro_take hro (k := v.l.length) (Nat.le_refl _)
   rwa [show v.l.take v.l.length = v.named by unfold V.named; rw [Nat.min_eq_right (by omega)]] at h)
  clear hr hro
  go_enter Tryz.func148, Tryz.ntmps148
  go_wp2_with fail
  go_ret
  exact ⟨_, rfl, HR.out.low (Gr.alloc (Gr.refl w) _).low, Gr.alloc (Gr.refl w) _⟩
end Go.Proofs.YtnchohglplobeaaGreat
namespace Go.Proofs.YtnchohglplobeaaGreat
open Go.RowKit Go.Sort
theorem cmpN_end {l m : List ByteArray} (h : l = [] ∨ m = []) : cmpN l m = cmpIv l.length m.length := by
 unfold cmpIv Lib.compareInt
 cases l with
 | nil => cases m with
  | nil => simp [cmpN]
  | cons y m => simp [cmpN] <;> omega
 | cons x l => cases m with
  | nil => simp [cmpN] <;> omega
  | cons y m => simp at h
theorem cmpI_self (x : Int) : cmpIv x x = 0 := by simp [cmpIv, Lib.compareInt]
theorem cmpI_ne {x y : Int} (h : x ≠ y) : cmpIv x y ≠ 0 := by
 simp only [cmpIv, Lib.compareInt]
 split
 ·omega
 ·split <;> omega
set_option maxHeartbeats 4000000 in
set_option maxRecDepth 100000 in
theorem rOrder_n (n : Nat) : ∀ a b : V, dep a ≤ n → OrdC 111 a b := by
 induction n with
 | zero => intro a b h; rw [dep_v] at h; omega
 | succ n ih =>
  intro a b hd w it nm it' nm' ha hb
  have ih' : ∀ x ∈ a.l, ∀ y ∈ b.l, OrdC 111 x y := fun x hx y _ => ih x y (by have := dep_mem hx; rw [dep_v] at hd; omega)
  obtain ⟨ai, ci, an, cn, rfl, rfl⟩ := r_slices ha
  obtain ⟨ai', ci', an', cn', rfl, rfl⟩ := r_slices hb
  obtain ⟨r, hr⟩ : ∃ r, r = ord a b := ⟨_, rfl⟩
  have hr2 := hr
  rw [ord_eq] at hr2
  rw [← hr]
  clear hr
  have CV := Lib.hid fun (W : World) => rNamed_c a W (.slice ai a.l.length ci) (.slice an a.ns.length cn)
  have CV' := Lib.hid fun (W : World) => rNamed_c b W (.slice ai' b.l.length ci') (.slice an' b.ns.length cn')
  have CL := Lib.hid (rRows_c a.l b.l ih')
  have CM := Lib.hid (rRows_c a.named b.named fun x hx y hy => ih' x (mem_named hx) y (mem_named hy))
  have ra : Ro w a.l (.slice ai a.l.length ci) := (rep_v.1 ha).2.2
  have rb : Ro w b.l (.slice ai' b.l.length ci') := (rep_v.1 hb).2.2
  have NA := Lib.hid (show Na w a.ns (.slice an a.ns.length cn) from (rep_v.1 ha).2.1)
  have NB := Lib.hid (show Na w b.ns (.slice an' b.ns.length cn') from (rep_v.1 hb).2.1)
  have BA := Lib.hid (bh_of ha)
  have BB := Lib.hid (bh_of hb)
  generalize ordL a.l b.l = rl at hr2 CL
  generalize ordL a.named b.named = rm at hr2 CM
  have RA := Lib.hid ra
  have RB := Lib.hid rb
  have HA := Lib.hid ha
  have HB := Lib.hid hb
  have ena : a.ns.length ≤ 9223372036854775807 := by obtain ⟨_, _, _, h, _⟩ := (rep_v.1 ha).2.1; exact h
  have enb : b.ns.length ≤ 9223372036854775807 := by obtain ⟨_, _, _, h, _⟩ := (rep_v.1 hb).2.1; exact h
  clear ra rb ha hb ih ih' hd
  unfold avv
  by_cases hk : a.h.k = b.h.k
  ·rw [if_pos hk] at hr2
   by_cases k1 : a.h.k = 1
   ·rw [if_pos k1] at hr2
    have kb : b.h.k = 1 := hk ▸ k1
    have HR := Lib.hid hr2
    clear hr2 hk
    rw [k1, kb]
    clear k1 kb
    generalize a.h.b = p at *
    generalize b.h.b = q at *
    cases p <;> cases q
    all_goals
     go_enter Tryz.func111, Tryz.ntmps111
     go_wp2_with fail
     go_ret
     exact ⟨retIv HR.out, Gr.alloc (Gr.alloc (Gr.refl w) _) _⟩
   rw [if_neg k1] at hr2
   by_cases k2 : a.h.k = 2
   ·rw [if_pos k2] at hr2
    have kb : b.h.k = 2 := hk ▸ k2
    have HR := Lib.hid hr2
    clear hr2 hk
    rw [k2, kb]
    clear k2 kb
    go_enter Tryz.func111, Tryz.ntmps111
    go_wp2_with fail
    refine (rInts_cv a.h.n b.h.n _).mono ?_
    rintro e w' ⟨rfl, rfl⟩
    go_wp2_with fail
    go_ret
    exact ⟨retIv HR.out, Gr.alloc (Gr.alloc (Gr.refl w) _) _⟩
   rw [if_neg k2] at hr2
   by_cases k3 : a.h.k = 3
   ·rw [if_pos k3] at hr2
    have kb : b.h.k = 3 := hk ▸ k3
    have HR := Lib.hid hr2
    clear hr2 hk
    rw [k3, kb]
    clear k3 kb
    go_enter Tryz.func111, Tryz.ntmps111
    go_wp2_with fail
    refine (rTexts_cv a.h.s b.h.s BA.out.1 BB.out.1 _).mono ?_
    rintro e w' ⟨rfl, g⟩
    go_wp2_with fail
    go_ret
    exact ⟨retIv HR.out, (Gr.alloc (Gr.alloc (Gr.refl w) _) _).trans g⟩
   rw [if_neg k3] at hr2
   by_cases k4 : a.h.k = 4
   ·rw [if_pos k4] at hr2
    have kb : b.h.k = 4 := hk ▸ k4
    have HR := Lib.hid hr2
    clear hr2 hk
    rw [k4, kb]
    clear k4 kb
    obtain ⟨c, hc⟩ : ∃ c, c = cmpT a.h.t b.h.t := ⟨_, rfl⟩
    obtain ⟨d, hd⟩ : ∃ d, d = cmpT a.h.i b.h.i := ⟨_, rfl⟩
    have C1 := Lib.hid fun W => rTexts_cv a.h.t b.h.t BA.out.2.1 BB.out.2.1 W
    have C2 := Lib.hid fun W => rTexts_cv a.h.i b.h.i BA.out.2.2 BB.out.2.2 W
    rw [← hc] at C1 HR
    rw [← hd] at C2 HR
    clear hc hd
    go_enter Tryz.func111, Tryz.ntmps111
    go_wp2_with fail
    refine (C1.out _).mono ?_
    rintro e w1 ⟨rfl, g⟩
    have a5 := (gr_box ((Gr.alloc (Gr.refl _) (.cells #[.int .i64 4, .bool b.h.b, .int .i64 b.h.n, .string b.h.s, .string b.h.t, .string b.h.i, .slice ai' b.l.length ci', .slice an' b.ns.length cn'] 27)).trans g)).2.2.2.2.2.1
    have b5 := (gr_box g).2.2.2.2.2.1
    rw [show (w.alloc (.cells #[.int .i64 4, .bool a.h.b, .int .i64 a.h.n, .string a.h.s, .string a.h.t, .string a.h.i, .slice ai a.l.length ci, .slice an a.ns.length cn] 27)).heap.size = w.heap.size + 1 by simp] at b5
    have G := Lib.hid ((Gr.alloc (Gr.alloc (Gr.refl w) _) _ : Gr w ((w.alloc (.cells #[.int .i64 4, .bool a.h.b, .int .i64 a.h.n, .string a.h.s, .string a.h.t, .string a.h.i, .slice ai a.l.length ci, .slice an a.ns.length cn] 27)).alloc (.cells #[.int .i64 4, .bool b.h.b, .int .i64 b.h.n, .string b.h.s, .string b.h.t, .string b.h.i, .slice ai' b.l.length ci', .slice an' b.ns.length cn'] 27))).trans g)
    clear g
    by_cases h0 : c = 0
    ·subst h0
     have HQ : Hid (r = d) := HR
     go_wp2_with fail
     refine (C2.out _).mono ?_
     rintro e w2 ⟨rfl, g⟩
     go_wp2_with fail
     go_ret
     exact ⟨retIv HQ.out, G.out.trans g⟩
    ·have HQ := Lib.hid (show r = c by rw [HR.out, orI, if_neg h0])
     go_wp2_with fail
     go_ret
     exact ⟨retIv HQ.out, G.out⟩
   rw [if_neg k4] at hr2
   by_cases k5 : a.h.k = 5
   ·rw [if_pos k5] at hr2
    have kb : b.h.k = 5 := hk ▸ k5
    have HR := Lib.hid hr2
    clear hr2 hk
    rw [k5, kb]
    clear k5 kb
    go_enter Tryz.func111, Tryz.ntmps111
    go_wp2_with fail
    refine (CL.out _ _ _ (RA.out.low (Gr.alloc (Gr.alloc (Gr.refl w) _) _ : Gr w ((w.alloc (.cells #[.int .i64 5, .bool a.h.b, .int .i64 a.h.n, .string a.h.s, .string a.h.t, .string a.h.i, .slice ai a.l.length ci, .slice an a.ns.length cn] 27)).alloc (.cells #[.int .i64 5, .bool b.h.b, .int .i64 b.h.n, .string b.h.s, .string b.h.t, .string b.h.i, .slice ai' b.l.length ci', .slice an' b.ns.length cn'] 27))).low) (RB.out.low (Gr.alloc (Gr.alloc (Gr.refl w) _) _ : Gr w ((w.alloc (.cells #[.int .i64 5, .bool a.h.b, .int .i64 a.h.n, .string a.h.s, .string a.h.t, .string a.h.i, .slice ai a.l.length ci, .slice an a.ns.length cn] 27)).alloc (.cells #[.int .i64 5, .bool b.h.b, .int .i64 b.h.n, .string b.h.s, .string b.h.t, .string b.h.i, .slice ai' b.l.length ci', .slice an' b.ns.length cn'] 27))).low)).mono ?_
    rintro e w' ⟨rfl, g⟩
    go_wp2_with fail
    go_ret
    exact ⟨retIv HR.out, (Gr.alloc (Gr.alloc (Gr.refl w) _) _).trans g⟩
   rw [if_neg k5] at hr2
   by_cases k6 : a.h.k = 6
   ·rw [if_pos k6] at hr2
    have kb : b.h.k = 6 := hk ▸ k6
    have HR := Lib.hid hr2
    unfold avv at CV CV'
    rw [k6] at CV
    rw [kb] at CV'
    clear hr2 hk
    rw [k6, kb]
    clear k6 kb
    go_enter Tryz.func111, Tryz.ntmps111
    go_wp2_with fail
    go_loopg [6] a.ns.length (fun gk vi wr => ∃ i : Nat, vi = .int .i64 (i : Int) ∧ i ≤ a.ns.length ∧ i ≤ b.ns.length ∧ a.ns.length - i ≤ gk ∧ Hid (Gr ((w.alloc (.cells #[.int .i64 6, .bool a.h.b, .int .i64 a.h.n, .string a.h.s, .string a.h.t, .string a.h.i, .slice ai a.l.length ci, .slice an a.ns.length cn] 27)).alloc (.cells #[.int .i64 6, .bool b.h.b, .int .i64 b.h.n, .string b.h.s, .string b.h.t, .string b.h.i, .slice ai' b.l.length ci', .slice an' b.ns.length cn'] 27)) wr) ∧ Hid (cmpN a.ns b.ns = cmpN (a.ns.drop i) (b.ns.drop i)))
    case atStart => exact ⟨0, rfl, Nat.zero_le _, Nat.zero_le _, Nat.le_refl _, Lib.hid (Gr.refl _), rfl⟩
    case round =>
     obtain ⟨i, rfl, hi, hi', hg, G, Q⟩ := hrel
     obtain ⟨a0, a1, a2, a3, a4, a5, a6, a7⟩ := gr_box ((Gr.alloc (Gr.refl _) (.cells #[.int .i64 6, .bool b.h.b, .int .i64 b.h.n, .string b.h.s, .string b.h.t, .string b.h.i, .slice ai' b.l.length ci', .slice an' b.ns.length cn'] 27)).trans G.out)
     have hb := gr_box G.out
     rw [show (w.alloc (.cells #[.int .i64 6, .bool a.h.b, .int .i64 a.h.n, .string a.h.s, .string a.h.t, .string a.h.i, .slice ai a.l.length ci, .slice an a.ns.length cn] 27)).heap.size = w.heap.size + 1 by simp] at hb
     obtain ⟨b0, b1, b2, b3, b4, b5, b6, b7⟩ := hb
     have GT := Lib.hid fun (W' : World) (h : Gr ((w.alloc (.cells #[.int .i64 6, .bool a.h.b, .int .i64 a.h.n, .string a.h.s, .string a.h.t, .string a.h.i, .slice ai a.l.length ci, .slice an a.ns.length cn] 27)).alloc (.cells #[.int .i64 6, .bool b.h.b, .int .i64 b.h.n, .string b.h.s, .string b.h.t, .string b.h.i, .slice ai' b.l.length ci', .slice an' b.ns.length cn'] 27)) W') => (Gr.alloc (Gr.alloc (Gr.refl w) _) _ : Gr w ((w.alloc (.cells #[.int .i64 6, .bool a.h.b, .int .i64 a.h.n, .string a.h.s, .string a.h.t, .string a.h.i, .slice ai a.l.length ci, .slice an a.ns.length cn] 27)).alloc (.cells #[.int .i64 6, .bool b.h.b, .int .i64 b.h.n, .string b.h.s, .string b.h.t, .string b.h.i, .slice ai' b.l.length ci', .slice an' b.ns.length cn'] 27))).trans h
     have G0 := Lib.hid (GT.out _ G.out)
     by_cases hlt : i < a.ns.length
     ·have z1 : (i : Int) < (a.ns.length : Int) := by omega
      by_cases hlm : i < b.ns.length
      ·have z2 : (i : Int) < (b.ns.length : Int) := by omega
       have q1 : i < a.ns.length := by omega
       have q2 : i < b.ns.length := by omega
       obtain ⟨x, o, rfl, hc, hs⟩ := na_at (NA.out.low G0.out.low) q1
       obtain ⟨x', o', rfl, hc', hs'⟩ := na_at (NB.out.low G0.out.low) q2
       obtain ⟨c, hcc⟩ : ∃ c, c = cmpT a.ns[i] b.ns[i] := ⟨_, rfl⟩
       have hst : cmpN a.ns b.ns = orI c (cmpN (a.ns.drop (i + 1)) (b.ns.drop (i + 1))) := by rw [hcc, ← cmpN_cons, ← drop_consv q1, ← drop_consv q2]; exact Q.out
       have HS := Lib.hid hst
       have C1 := Lib.hid fun W => rTexts_cv a.ns[i] b.ns[i] hs hs' W
       rw [← hcc] at C1
       have G1 := Lib.hid G.out.drew
       clear hst hcc hs hs'
       go_wp2_with fail
       go_region_held3 (fun w' => w'.cell? ⟨w.heap.size, 7, none⟩ = some (.slice (some ⟨x, o, none⟩) a.ns.length cn) ∧ w'.cell? ⟨w.heap.size + 1, 7, none⟩ = some (.slice (some ⟨x', o', none⟩) b.ns.length cn') ∧ w'.cell? ⟨x, o + i, none⟩ = some (.string a.ns[i]) ∧ w'.cell? ⟨x', o' + i, none⟩ = some (.string b.ns[i])) (go_keep) (first
        | (go_at_call 48; refine (C1.out _).mono ?_; rintro e w1 ⟨rfl, g⟩; have a7 := g.cell a7; have b7 := g.cell b7; have hc := g.cell hc; have hc' := g.cell hc'; have G2 := Lib.hid (G1.out.trans g)))
       all_goals
        by_cases h0 : c = 0
        ·subst h0
         have HS' : Hid (cmpN a.ns b.ns = cmpN (a.ns.drop (i + 1)) (b.ns.drop (i + 1))) := HS
         go_wp2_with fail
         go_roundg (a.ns.length - (i + 1))
         case measure => omega
         case rel => exact ⟨i + 1, by go_num, by omega, by omega, by omega, G2, HS'⟩
        ·have hq : r = c := by rw [HR.out, HS.out]; simp [orI, h0]
         have HQ := Lib.hid hq
         clear hq
         have GF := Lib.hid (GT.out _ G2.out)
         go_wp2_with fail
         go_ret
         exact ⟨retIv HQ.out, GF.out⟩
      ·have z2 : ¬ (i : Int) < (b.ns.length : Int) := by omega
       have hcm : cmpN a.ns b.ns = cmpIv a.ns.length b.ns.length := by
        rw [Q.out, cmpN_end (.inr (List.drop_eq_nil_of_le (by omega))), drop_end (by omega) (by omega)]
       have hne : ¬ (a.ns.length : Int) = (b.ns.length : Int) := by omega
       have hq : r = cmpIv a.ns.length b.ns.length := by
        rw [HR.out, hcm, orI, if_neg (cmpI_ne hne)]
       have HQ := Lib.hid hq
       clear hcm hq
       go_wp2_with fail
       refine (rInts_cv _ _ _).mono ?_
       rintro e w' ⟨rfl, rfl⟩
       go_wp2_with fail
       go_ret
       exact ⟨retIv HQ.out, G0.out⟩
     ·have z1 : ¬ (i : Int) < (a.ns.length : Int) := by omega
      have hcm : cmpN a.ns b.ns = cmpIv a.ns.length b.ns.length := by
       rw [Q.out, cmpN_end (.inl (List.drop_eq_nil_of_le (by omega))), drop_end (by omega) (by omega)]
      by_cases he : a.ns.length = b.ns.length
      ·have hq : r = rm := by
        rw [HR.out, hcm, he, cmpI_self]; rfl
       have HQ := Lib.hid hq
       have ze : (a.ns.length : Int) = (b.ns.length : Int) := by omega
       have G1 := Lib.hid G0.out.drew
       clear hcm hq he
       go_wp2_with fail
       go_region_held3 (fun w' => w'.cell? ⟨w.heap.size, 0, none⟩ = some (.int .i64 6) ∧ w'.cell? ⟨w.heap.size, 1, none⟩ = some (.bool a.h.b) ∧ w'.cell? ⟨w.heap.size, 2, none⟩ = some (.int .i64 a.h.n) ∧ w'.cell? ⟨w.heap.size, 3, none⟩ = some (.string a.h.s) ∧ w'.cell? ⟨w.heap.size, 4, none⟩ = some (.string a.h.t) ∧ w'.cell? ⟨w.heap.size, 5, none⟩ = some (.string a.h.i) ∧ w'.cell? ⟨w.heap.size, 6, none⟩ = some (.slice ai a.l.length ci) ∧ w'.cell? ⟨w.heap.size, 7, none⟩ = some (.slice an a.ns.length cn) ∧ w'.cell? ⟨w.heap.size + 1, 0, none⟩ = some (.int .i64 6) ∧ w'.cell? ⟨w.heap.size + 1, 1, none⟩ = some (.bool b.h.b) ∧ w'.cell? ⟨w.heap.size + 1, 2, none⟩ = some (.int .i64 b.h.n) ∧ w'.cell? ⟨w.heap.size + 1, 3, none⟩ = some (.string b.h.s) ∧ w'.cell? ⟨w.heap.size + 1, 4, none⟩ = some (.string b.h.t) ∧ w'.cell? ⟨w.heap.size + 1, 5, none⟩ = some (.string b.h.i) ∧ w'.cell? ⟨w.heap.size + 1, 6, none⟩ = some (.slice ai' b.l.length ci') ∧ w'.cell? ⟨w.heap.size + 1, 7, none⟩ = some (.slice an' b.ns.length cn')) (go_keep) (first
        | (go_at_call_of 148 (Value.slice ai a.l.length ci); refine (CV.out _ (HA.out.low G1.out.low)).mono ?_; rintro e w2 ⟨ra, rfl, pa, g⟩; have a0 := g.cell a0; have b0 := g.cell b0; have a1 := g.cell a1; have b1 := g.cell b1; have a2 := g.cell a2; have b2 := g.cell b2; have a3 := g.cell a3; have b3 := g.cell b3; have a4 := g.cell a4; have b4 := g.cell b4; have a5 := g.cell a5; have b5 := g.cell b5; have a6 := g.cell a6; have b6 := g.cell b6; have a7 := g.cell a7; have b7 := g.cell b7; have G := Lib.hid (G1.out.trans g))
        | (go_at_call_of 148 (Value.slice ai' b.l.length ci'); refine (CV'.out _ (HB.out.low G.out.low)).mono ?_; rintro e w3 ⟨rb, rfl, pb, g⟩; have a0 := g.cell a0; have b0 := g.cell b0; have a1 := g.cell a1; have b1 := g.cell b1; have a2 := g.cell a2; have b2 := g.cell b2; have a3 := g.cell a3; have b3 := g.cell b3; have a4 := g.cell a4; have b4 := g.cell b4; have a5 := g.cell a5; have b5 := g.cell b5; have a6 := g.cell a6; have b6 := g.cell b6; have a7 := g.cell a7; have b7 := g.cell b7; have pa := pa.low g.low; have G := Lib.hid (G.out.trans g))
        | (go_at_call 147; refine (CM.out _ _ _ pa pb).mono ?_; rintro e w4 ⟨rfl, g⟩; have a0 := g.cell a0; have b0 := g.cell b0; have a1 := g.cell a1; have b1 := g.cell b1; have a2 := g.cell a2; have b2 := g.cell b2; have a3 := g.cell a3; have b3 := g.cell b3; have a4 := g.cell a4; have b4 := g.cell b4; have a5 := g.cell a5; have b5 := g.cell b5; have a6 := g.cell a6; have b6 := g.cell b6; have a7 := g.cell a7; have b7 := g.cell b7; have G := Lib.hid (G.out.trans g)))
       all_goals
        go_wp2_with fail
        go_ret
        exact ⟨retIv HQ.out, G.out⟩
      ·have hne : ¬ (a.ns.length : Int) = (b.ns.length : Int) := by omega
       have hq : r = cmpIv a.ns.length b.ns.length := by
        rw [HR.out, hcm, orI, if_neg (cmpI_ne hne)]
       have HQ := Lib.hid hq
       clear hcm hq
       go_wp2_with fail
       refine (rInts_cv _ _ _).mono ?_
       rintro e w' ⟨rfl, rfl⟩
       go_wp2_with fail
       go_ret
       exact ⟨retIv HQ.out, G0.out⟩
   ·rw [if_neg k6] at hr2
    subst hr2
    go_enter Tryz.func111, Tryz.ntmps111
    go_wp2_with fail
    go_ret
    exact ⟨rfl, Gr.alloc (Gr.alloc (Gr.refl w) _) _⟩
  ·rw [if_neg hk] at hr2
   have HR := Lib.hid hr2
   clear hr2
   go_enter Tryz.func111, Tryz.ntmps111
   go_wp2_with fail
   refine (rInts_cv a.h.k b.h.k _).mono ?_
   rintro e w' ⟨rfl, rfl⟩
   go_wp2_with fail
   go_ret
   exact ⟨retIv HR.out, Gr.alloc (Gr.alloc (Gr.refl w) _) _⟩
theorem rOrder_c (a b : V) : OrdC 111 a b := rOrder_n (dep a) a b (Nat.le_refl _)
end Go.Proofs.YtnchohglplobeaaGreat
namespace Go.Proofs.YtnchohglplobeaaGreat
open Go.RowKit Go.Sort
theorem dptL_append (l m : List V) : dptL (l ++ m) = max (dptL l) (dptL m) := by
 induction l with
 | nil => simp [dptL]
 | cons x l ih => rw [List.cons_append, dptL, dptL, ih]; omega
theorem dptL_take {l : List V} {i : Nat} (h : i < l.length) : dptL (l.take (i + 1)) = max (dptL (l.take i)) (dptv l[i]) := by
 rw [List.take_succ_eq_append_getElem h, dptL_append]
 simp [dptL]
theorem mem_nest {v x : V} (h : x ∈ v.nest) : x ∈ v.l := by
 unfold V.nest at h
 split at h
 ·exact h
 ·simp at h
theorem dpt_dep (n : Nat) : ∀ v : V, dep v ≤ n → dptv v ≤ dep v := by
 induction n with
 | zero => intro v h; rw [dep_v] at h; omega
 | succ n ih =>
  intro v h
  rw [dep_v] at h
  rw [dpt_v, dep_v]
  have : dptL v.nest ≤ depL v.l := dptL_le.2 fun x hx => Nat.le_trans (ih x (by have := dep_mem (mem_nest hx); omega)) (dep_mem (mem_nest hx))
  omega
theorem dpt_le_dep (v : V) : dptv v ≤ dep v := dpt_dep (dep v) v (Nat.le_refl _)
def DepC (f : Nat) (v : V) : Prop := ∀ (w : World) (it nm : Value), R w v it nm → Calls Tryz.prog f #[avv v.h it nm] w fun e w' => e = .returned (.int .i64 (dptv v : Int)) ∧ Gr w w'
set_option maxHeartbeats 1600000 in
theorem rDepth_n (n : Nat) (hn : n ≤ 1000000) : ∀ v : V, dep v ≤ n → DepC 88 v := by
 induction n with
 | zero => intro v h; rw [dep_v] at h; omega
 | succ n ih =>
  intro v hd w it nm hr
  obtain ⟨ai, ci, an, cn, rfl, rfl⟩ := r_slices hr
  by_cases hk : v.h.k = 5 ∨ v.h.k = 6
  ·have hne : v.nest = v.l := by unfold V.nest; rw [if_pos hk]
   have ih' : ∀ x ∈ v.l, DepC 88 x := fun x hx => ih (by omega) x (by have := dep_mem hx; rw [dep_v] at hd; omega)
   have hb : ∀ i, dptL (v.l.take i) ≤ 1000000 := fun i => dptL_le.2 fun x hx => by
    have h1 := List.mem_of_mem_take hx
    have h2 := dep_mem h1
    have h3 := dpt_le_dep x
    rw [dep_v] at hd
    omega
   have e : dptv v = dptL v.l + 1 := by rw [dpt_v, hne]
   rw [e]
   have RA := Lib.hid (show Ro w v.l (.slice ai v.l.length ci) from (rep_v.1 hr).2.2)
   obtain ⟨zl, zc⟩ : v.l.length ≤ ci ∧ ci ≤ 9223372036854775807 := by obtain ⟨_, _, h, h1, _⟩ := (rep_v.1 hr).2.2; simp only [Value.slice.injEq] at h; obtain ⟨_, _, rfl⟩ := h; exact h1
   clear e hr hd ih hne
   have HI := Lib.hid ih'
   have HB := Lib.hid hb
   clear ih' hb
   unfold avv at *
   rcases hk with hk | hk
   all_goals
    have HK := Lib.hid hk
    rw [hk]
    clear hk
    go_enter Tryz.func88, Tryz.ntmps88
    go_wp2_with fail
    go_loopg [3, 4] v.l.length (fun gk vd vi wr => ∃ i : Nat, vd = .int .i64 (dptL (v.l.take i) : Int) ∧ vi = .int .i64 (i : Int) ∧ i ≤ v.l.length ∧ v.l.length - i ≤ gk ∧ Hid (Gr (w.alloc (.cells #[.int .i64 v.h.k, .bool v.h.b, .int .i64 v.h.n, .string v.h.s, .string v.h.t, .string v.h.i, .slice ai v.l.length ci, .slice an v.ns.length cn] 27)) wr))
    case atStart => exact ⟨0, rfl, rfl, Nat.zero_le _, Nat.le_refl _, Lib.hid (by rw [HK.out]; exact Gr.refl _)⟩
    case round =>
     obtain ⟨i, rfl, rfl, hi, hg, G⟩ := hrel
     have f6 := (gr_box G.out).2.2.2.2.2.2.1
     have G0 := Lib.hid ((Gr.alloc (Gr.refl w) _).trans G.out)
     by_cases hlt : i < v.l.length
     ·have z1 : (i : Int) < (v.l.length : Int) := by omega
      obtain ⟨b, o, bi, di, bn, dn, rfl, hcs, hrx⟩ := ro_at (RA.out.low G0.out.low) hlt
      obtain ⟨e0, e1, e2, e3, e4, e5, e6, e7⟩ := cells8 hcs
      have hcon := HI.out v.l[i] (List.getElem_mem hlt) _ _ _ hrx
      have HC := Lib.hid hcon
      have HT := Lib.hid (dptL_take hlt)
      generalize dptL (v.l.take i) = q at *
      generalize dptv v.l[i] = c at *
      clear hcon hcs hrx
      unfold avv at HC
      go_wp2_with fail
      refine HC.out.mono ?_
      rintro e w2 ⟨rfl, g⟩
      by_cases hqc : q < c
      ·have z2 : (q : Int) < (c : Int) := by omega
       go_wp2_with fail
       go_roundg (v.l.length - (i + 1))
       case measure => omega
       case rel => exact ⟨i + 1, by rw [HT.out]; congr 1; omega, by go_num, by omega, by omega, Lib.hid (G.out.trans g)⟩
      ·have z2 : ¬ (q : Int) < (c : Int) := by omega
       go_wp2_with fail
       go_roundg (v.l.length - (i + 1))
       case measure => omega
       case rel => exact ⟨i + 1, by rw [HT.out]; congr 1; omega, by go_num, by omega, by omega, Lib.hid (G.out.trans g)⟩
     ·have z1 : ¬ (i : Int) < (v.l.length : Int) := by omega
      have hq : v.l.take i = v.l := List.take_of_length_le (by omega)
      have hb := HB.out v.l.length
      rw [List.take_length] at hb
      rw [hq]
      clear hq
      obtain ⟨q, hq⟩ : ∃ q, q = dptL v.l := ⟨_, rfl⟩
      rw [← hq] at hb ⊢
      have HQ := Lib.hid hq
      clear hq
      go_wp2_with fail
      go_ret
      exact ⟨retIv (by have := HQ.out; omega), G0.out⟩
  ·have e : dptv v = 1 := by rw [dpt_v]; unfold V.nest; rw [if_neg hk]; rfl
   rw [e]
   have b5 : (v.h.k != 5) = true := by simp; omega
   have b6 : (v.h.k != 6) = true := by simp; omega
   clear hr e hk hd ih
   unfold avv
   go_enter Tryz.func88, Tryz.ntmps88
   go_wp2_with fail
   go_ret
   exact ⟨rfl, Gr.alloc (Gr.refl w) _⟩
theorem rDepth_c (v : V) (h : dep v ≤ 1000000) : DepC 88 v := rDepth_n (dep v) h v (Nat.le_refl _)
end Go.Proofs.YtnchohglplobeaaGreat
namespace Go.Proofs.YtnchohglplobeaaGreat
open Go.RowKit Go.Sort Go.Lib
def encE (q : Ee) : List Value := q.sh.cs
theorem encE_len (q : Ee) : (encE q).length = 11 := rfl
theorem encE_one (q : Ee) : ∀ u ∈ encE q, u.oneCell' = true := by
 intro u hu
 simp only [encE, Sh.cs, Ee.sh, List.mem_cons, List.not_mem_nil, or_false] at hu
 rcases hu with rfl | rfl | rfl | rfl | rfl | rfl | rfl | rfl | rfl | rfl | rfl <;> rfl
abbrev OwnE (B : Nat) (w : World) (v : Value) (l : List Ee) : Prop := OwnR 72 11 encE B w v l
theorem e_info : (Tryz.prog.info? 72).map (fun i => (i.zero, i.size, i.bytes)) = some (some (.agg #[.string ⟨#[]⟩, .string ⟨#[]⟩, .slice none 0 0, .int .i64 0, .bool false, .int .i64 0, .string ⟨#[]⟩, .string ⟨#[]⟩, .string ⟨#[]⟩, .slice none 0 0, .slice none 0 0]), 11, 176) := by kernel_rfl
theorem OwnR.esAt {B : Nat} {w : World} {v : Value} {l : List Ee} (h : OwnE B w v l) : EsAt w v (l.map Ee.sh) := by
 obtain ⟨ao, cap, rfl, h1, h2, h3⟩ := h.shape
 refine ⟨ao, cap, by rw [List.length_map], ⟨by rw [List.length_map]; exact h1, h2⟩, fun j hj => ?_⟩
 have hj' : j < l.length := by simpa using hj
 rcases h3 with h0 | ⟨g, rfl, -, -⟩
 ·rw [h0] at hj'; simp at hj'
 ·refine ⟨g, 0, rfl, fun c u hu => ?_⟩
  rw [List.getElem_map] at hu
  have hc : c < 11 := by have := (List.getElem?_eq_some_iff.1 hu).1; simpa [Sh.cs] using this
  rw [Nat.zero_add, OwnR.cell encE_len h j c hj' hc]
  exact hu
end Go.Proofs.YtnchohglplobeaaGreat
namespace Go.Proofs.YtnchohglplobeaaGreat
open Go.RowKit Go.Sort Go.Lib
def ordUV : Value := .func (.func 45) #[] #[]
theorem sortU_raw (B g cap : Nat) (w : World) (l : List Us) (hown : OwnU B w (.slice (some ⟨g, 0, none⟩) l.length cap) l) (hn : l.length < 4611686018427387904) :
  Calls Tryz.prog 81 #[.slice (some ⟨g, 0, none⟩) l.length cap, ordUV] w fun e w' =>
   e = .returned (.tuple #[]) ∧ ∃ d' n os, PermIn 0 l.toArray.size l.toArray d' ∧ SortedIn (ltOf cmpUs) 0 l.toArray.size d' ∧ w' = sortWorldK Us.cs 2 w g 0 n d' os := by
 have hg := (World.ownsRow.lt hown g rfl).2
 have hcmp : CmpLays (α := Us) Tryz.prog 45 #[] Us.cs 2 cmpUs g 0 l.toArray.size w := fun m os dk hdk x y => eOrder_c x y _
 have eg : ∀ args w, (callFunc 45 args).run Tryz.prog w = .ok (.enter 45 args) w := enters_of Tryz.func45 (by kernel_rfl) rfl
 have hcon := AnyQ.slices_SortFunc Tryz.sortU 2 Tryz.isAgg23 Tryz.sizeOf23 Us.cs encU_len encU_one cmpUs (swo_of good_us fun a : Us => a) 45 #[] g 0 cap l.toArray w eg hcmp (row_holds encU_len hown) hg (by simpa using hn)
 change Calls Tryz.prog 81 _ _ _ at hcon
 exact hcon
def SortUP (B : Nat) (v : Value) (ps : List Us) (w : World) (e : Ending) (w' : World) : Prop :=
 e = .returned (.tuple #[]) ∧ ∃ qs : List Us, qs.Perm ps ∧ Sorted cmpUs qs ∧ OwnU B w' v qs ∧ KeptButv w w' v.ownBlock
theorem sortU_c (B : Nat) (v : Value) (ps : List Us) (w : World) (O : OwnU B w v ps) (hn : ps.length ≤ 70000) : Calls Tryz.prog 81 #[v, ordUV] w (SortUP B v ps w) := by
 obtain ⟨ao, cap, rfl, h1, h2, h3⟩ := O.shape
 by_cases h0 : ps = []
 ·subst h0
  have h := AnyF.slices_SortFunc_none Tryz.sortU ao cap ordUV w
  change Calls Tryz.prog 81 _ _ _ at h
  refine h.mono ?_
  rintro e w' ⟨rfl, rfl⟩
  exact ⟨rfl, [], List.Perm.refl _, by simp [Sorted], O, KeptButv.refl _ _⟩
 ·rcases h3 with h3 | ⟨g, rfl, -, -⟩
  ·exact absurd h3 h0
  ·refine (sortU_raw B g cap w ps O (by omega)).mono ?_
   rintro e w' ⟨rfl, d', m, os, hp, hs, rfl⟩
   obtain ⟨hsz, -, hperm⟩ := hp
   have hsz' : d'.size = ps.length := by simpa using hsz
   have hperm' : d'.toList.Perm ps := by
    have : (d'.extract 0 d'.size).toList.Perm (ps.toArray.extract 0 ps.toArray.size).toList := by
     rw [show d'.size = ps.toArray.size from hsz]; exact hperm
    simpa using this
   refine ⟨rfl, d'.toList, hperm', ?_, ?_, rfl, rfl, size_sortWorldK_c Us.cs 2 w g 0 m d' os, fun b hb hne => sort_other w g m d' os b hb fun e => hne (by rw [e]; rfl)⟩
   ·have := sorted_of (c := cmpUs) (fun a : Us => a) (d := d') (by rw [hsz]; exact hs)
    simpa using this
   ·have h := row_after encU_len O m d' os hsz'
    exact h
def cfE (x y : Ee) : Int := cmpUs x.e.u y.e.u
def ordEV : Value := .func (.func 44) #[] #[]
theorem eCmp_c (x y : Ee) (w : World) : Calls Tryz.prog 44 #[.agg (encE x).toArray, .agg (encE y).toArray] w fun e w' => e = .returned (.int .i64 (cfE x y)) ∧ Gr w w' := by
 show Calls Tryz.prog 44 #[.agg #[.string x.e.u.t, .string x.e.u.i, .slice x.ap x.e.ps.length x.cp, .int .i64 x.e.a.h.k, .bool x.e.a.h.b, .int .i64 x.e.a.h.n, .string x.e.a.h.s, .string x.e.a.h.t, .string x.e.a.h.i, .slice x.ai x.e.a.l.length x.ci, .slice x.an x.e.a.ns.length x.cn], .agg #[.string y.e.u.t, .string y.e.u.i, .slice y.ap y.e.ps.length y.cp, .int .i64 y.e.a.h.k, .bool y.e.a.h.b, .int .i64 y.e.a.h.n, .string y.e.a.h.s, .string y.e.a.h.t, .string y.e.a.h.i, .slice y.ai y.e.a.l.length y.ci, .slice y.an y.e.a.ns.length y.cn]] w _
 have HC := Lib.hid fun W => eOrder_c x.e.u y.e.u W
 unfold cfE
 generalize cmpUs x.e.u y.e.u = r at HC ⊢
 go_enter Tryz.func44, Tryz.ntmps44
 go_wp2_with fail
 refine (HC.out _).mono ?_
 rintro e w1 ⟨rfl, g⟩
 have G := Lib.hid ((Gr.alloc (Gr.alloc (Gr.refl w) _) _).trans g)
 clear g
 go_wp2_with fail
 go_ret
 exact ⟨rfl, G.out⟩
theorem sortE_raw (B g cap : Nat) (w : World) (l : List Ee) (hown : OwnE B w (.slice (some ⟨g, 0, none⟩) l.length cap) l) (hn : l.length < 4611686018427387904) :
  Calls Tryz.prog 43 #[.slice (some ⟨g, 0, none⟩) l.length cap, ordEV] w fun e w' =>
   e = .returned (.tuple #[]) ∧ ∃ d' n os, PermIn 0 l.toArray.size l.toArray d' ∧ SortedIn (ltOf cfE) 0 l.toArray.size d' ∧ w' = sortWorldK encE 11 w g 0 n d' os := by
 have hg := (World.ownsRow.lt hown g rfl).2
 have hcmp : CmpLays (α := Ee) Tryz.prog 44 #[] encE 11 cfE g 0 l.toArray.size w := fun m os dk hdk x y => eCmp_c x y _
 have eg : ∀ args w, (callFunc 44 args).run Tryz.prog w = .ok (.enter 44 args) w := enters_of Tryz.func44 (by kernel_rfl) rfl
 have hcon := AnyQ.slices_SortFunc Tryz.sortE 11 Tryz.isAgg72 Tryz.sizeOf72 encE encE_len encE_one cfE (swo_of good_us fun a : Ee => a.e.u) 44 #[] g 0 cap l.toArray w eg hcmp (row_holds encE_len hown) hg (by simpa using hn)
 change Calls Tryz.prog 43 _ _ _ at hcon
 exact hcon
def SortEP (B : Nat) (v : Value) (ps : List Ee) (w : World) (e : Ending) (w' : World) : Prop :=
 e = .returned (.tuple #[]) ∧ ∃ qs : List Ee, qs.Perm ps ∧ Sorted cmpE (ensOf qs) ∧ OwnE B w' v qs ∧ KeptButv w w' v.ownBlock
theorem sortE_c (B : Nat) (v : Value) (ps : List Ee) (w : World) (O : OwnE B w v ps) (hn : ps.length ≤ 70000) : Calls Tryz.prog 43 #[v, ordEV] w (SortEP B v ps w) := by
 obtain ⟨ao, cap, rfl, h1, h2, h3⟩ := O.shape
 by_cases h0 : ps = []
 ·subst h0
  have h := AnyF.slices_SortFunc_none Tryz.sortE ao cap ordEV w
  change Calls Tryz.prog 43 _ _ _ at h
  refine h.mono ?_
  rintro e w' ⟨rfl, rfl⟩
  exact ⟨rfl, [], List.Perm.refl _, by simp [Sorted, ensOf], O, KeptButv.refl _ _⟩
 ·rcases h3 with h3 | ⟨g, rfl, -, -⟩
  ·exact absurd h3 h0
  ·refine (sortE_raw B g cap w ps O (by omega)).mono ?_
   rintro e w' ⟨rfl, d', m, os, hp, hs, rfl⟩
   obtain ⟨hsz, -, hperm⟩ := hp
   have hsz' : d'.size = ps.length := by simpa using hsz
   have hperm' : d'.toList.Perm ps := by
    have : (d'.extract 0 d'.size).toList.Perm (ps.toArray.extract 0 ps.toArray.size).toList := by
     rw [show d'.size = ps.toArray.size from hsz]; exact hperm
    simpa using this
   refine ⟨rfl, d'.toList, hperm', ?_, ?_, rfl, rfl, size_sortWorldK_c encE 11 w g 0 m d' os, fun b hb hne => sort_other w g m d' os b hb fun e => hne (by rw [e]; rfl)⟩
   ·have := sorted_of (c := cmpUs) (fun a : Ee => a.e.u) (d := d') (by rw [hsz]; exact hs)
    unfold Sorted at this ⊢
    unfold ensOf
    rw [List.pairwise_map] at this ⊢
    exact this
   ·have h := row_after encE_len O m d' os hsz'
    exact h
end Go.Proofs.YtnchohglplobeaaGreat
