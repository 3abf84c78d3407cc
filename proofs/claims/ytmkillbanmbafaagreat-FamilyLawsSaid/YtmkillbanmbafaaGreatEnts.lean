/- Plain entities: their names, rounds, and lists as they must be, by definition ('c': a value as it must be). No condition. Plain: a name put into a rising row, an entity put behind all that come first. No condition. Plain: lists of entities as they must be stay so; neither the order of a list nor that of parents matters. Conditions: as each says, of 'c'. -/
import Derived.Test.YtmkillbanmbafaaGreatVals
import Derived.Test.YtmkillbanmbafaaGreatCycs
namespace Go.Proofs.YtmkillbanmbafaaGreat
/-- An entity's name: two texts. -/
structure Us where
  t : ByteArray
  i : ByteArray
  ht : t.size ≤ maxLen
  hi : i.size ≤ maxLen
theorem Us.ext' : ∀ {a b : Us}, a.t = b.t → a.i = b.i → a = b
  | ⟨_, _, _, _⟩, ⟨_, _, _, _⟩, rfl, rfl => rfl
instance : DecidableEq Us := fun a b =>
  if h : a.t = b.t ∧ a.i = b.i then .isTrue (Us.ext' h.1 h.2) else .isFalse fun e => h (by rw [e]; exact ⟨rfl, rfl⟩)
def cmpUs (a b : Us) : Int := orI (cmpT a.t b.t) (cmpT a.i b.i)
theorem good_us : Good cmpUs fun _ => True := (good_text.pull Us.t).or (good_text.pull Us.i)
theorem us_zero {a b : Us} (h : cmpUs a b = 0) : a = b := by
  have := orI_zero.1 h
  exact Us.ext' (cmpT_zero this.1) (cmpT_zero this.2)
/-- A row of names as it must be: rising, each once. -/
def canU (l : List Us) : List Us := uniq cmpUs l
theorem canU_rises (l : List Us) : Rises cmpUs (canU l) := uniq_rises good_us (fun _ _ _ _ h => us_zero h) (fun _ _ => trivial)
theorem mem_canU {l : List Us} {z : Us} : z ∈ canU l ↔ z ∈ l := mem_uniq good_us (fun _ _ _ _ h => us_zero h) (fun _ _ => trivial)
theorem canU_unique {l m : List Us} (hl : Rises cmpUs l) (h : ∀ z, z ∈ l ↔ z ∈ m) : l = canU m :=
  rises_unique good_us (fun _ _ => trivial) (fun _ _ => trivial) hl (canU_rises m) (fun z => (h z).trans mem_canU.symm)
theorem canU_same {l m : List Us} (h : ∀ z, z ∈ l ↔ z ∈ m) : canU l = canU m := canU_unique (canU_rises l) (fun z => mem_canU.trans (h z))
theorem canU_idem (l : List Us) : canU (canU l) = canU l := canU_same fun _ => mem_canU
/-- An entity. -/
structure En where
  u : Us
  ps : List Us
  a : V
def namesE (l : List En) : List Us := l.map (·.u)
def fstE (l : List En) (x : Us) : Option En := l.find? fun e => decide (e.u = x)
/-- The parents under a name: those of the first entity with it. -/
def PE (l : List En) (x : Us) : List Us := ((fstE l x).map (·.ps)).getD []
def stepE (l : List En) (x y : Us) : Prop := x ∈ namesE l ∧ y ∈ PE l x ∧ y ∈ namesE l
def RoundE (l : List En) : Prop := ∃ x, Way (stepE l) x x
theorem fst_some {l : List En} {x : Us} : (fstE l x).isSome = true ↔ x ∈ namesE l := by
  unfold fstE namesE
  rw [List.find?_isSome]
  simp
/-- Where no two have one name, each is the first one with its name. -/
theorem fst_of {l : List En} (hn : (namesE l).Nodup) {e : En} (he : e ∈ l) : fstE l e.u = some e := by
  unfold fstE
  induction l with
  | nil => simp at he
  | cons x r ih =>
    have hn' : x.u ∉ namesE r ∧ (namesE r).Nodup := List.nodup_cons.1 hn
    rw [List.find?_cons]
    by_cases hx : x.u = e.u
    · rw [decide_eq_true hx]
      rcases List.mem_cons.1 he with rfl | he
      · rfl
      · exact absurd (List.mem_map.2 ⟨e, he, rfl⟩) (hx ▸ hn'.1)
    · rw [decide_eq_false hx]
      rcases List.mem_cons.1 he with rfl | he
      · exact absurd rfl hx
      · exact ih hn'.2 he
theorem PE_of {l : List En} (hn : (namesE l).Nodup) {e : En} (he : e ∈ l) : PE l e.u = e.ps := by unfold PE; rw [fst_of hn he]; rfl
section
variable (c : V → Int × V)
/-- An entity's own error. -/
def errE (names : List Us) (e : En) : Int := if e.a.h.k ≠ 6 then 1 else if (c e.a).1 ≠ 0 then (c e.a).1 else if e.ps.all (fun p => decide (p ∈ names)) = true then 0 else 20
def oneE (e : En) : En := ⟨e.u, canU e.ps, (c e.a).2⟩
/-- The first error. -/
def errL (names : List Us) : List En → Int
  | [] => 0
  | e :: r => if errE c names e = 0 then errL names r else errE c names e
def cmpE (a b : En) : Int := cmpUs a.u b.u
theorem good_en : Good cmpE fun _ => True := good_us.pull En.u
/-- Entities as they must be. -/
noncomputable def canE (l : List En) : Int × List En :=
  if 4096 < l.length then (12, [])
  else if (namesE l).Nodup then
    (if errL c (namesE l) l = 0 then (open Classical in if RoundE l then (21, []) else (0, uniq cmpE (l.map (oneE c)))) else (errL c (namesE l) l, []))
  else (13, [])
theorem errL_zero {names : List Us} : ∀ {l : List En}, errL c names l = 0 ↔ ∀ e ∈ l, errE c names e = 0
  | [] => by simp [errL]
  | e :: r => by
    rw [errL]
    by_cases h : errE c names e = 0
    · rw [if_pos h, errL_zero]; simp [h]
    · rw [if_neg h]; simp [h]
/-- The first error of a row, where those ahead of a place have none. -/
theorem errL_at {names : List Us} : ∀ {l : List En} {i : Nat} (hi : i < l.length), (∀ e ∈ l.take i, errE c names e = 0) → errE c names l[i] ≠ 0 → errL c names l = errE c names l[i]
  | e :: r, 0, _, _, h => by
    have h' : errE c names e ≠ 0 := h
    rw [errL, if_neg h']; rfl
  | e :: r, i + 1, hi, h0, h => by
    have h1 : errE c names e = 0 := h0 e (by rw [List.take_succ_cons]; simp)
    rw [errL, if_pos h1]
    exact errL_at (by simpa using hi) (fun x hx => h0 x (by rw [List.take_succ_cons]; simp [hx])) (by simpa using h)
end
end Go.Proofs.YtmkillbanmbafaaGreat
namespace Go.Proofs.YtmkillbanmbafaaGreat
/-- The reference's row with one name more: what comes of what is left; 'put': it was put. -/
def putS (u : Us) : List Us → Bool → List Us
  | [], put => if put = true then [] else [u]
  | x :: r, put => (if (!put && decide (0 ≤ cmpUs x u)) = true then [u] else []) ++ ((if x = u then [] else [x]) ++ putS u r (put || decide (0 ≤ cmpUs x u)))
theorem putS_true {u : Us} : ∀ {l : List Us}, u ∉ l → putS u l true = l
  | [], _ => rfl
  | x :: r, h => by
    have hx : x ≠ u := fun e => h (by simp [e])
    rw [putS, if_neg (by simp), if_neg hx, Bool.true_or, putS_true (fun hr => h (by simp [hr]))]
    rfl
theorem us_refl (u : Us) : cmpUs u u = 0 := good_us.refl trivial
theorem putS_ins {u : Us} : ∀ {l : List Us}, Rises cmpUs l → putS u l false = ins cmpUs u l
  | [], _ => rfl
  | x :: r, h => by
    have h1 : ∀ y ∈ r, cmpUs x y < 0 := (List.pairwise_cons.1 h).1
    have h2 : Rises cmpUs r := (List.pairwise_cons.1 h).2
    rw [putS, ins, Bool.false_or]
    by_cases hlt : cmpUs x u < 0
    · have hne : x ≠ u := fun e => by rw [e, us_refl] at hlt; omega
      have hd : decide (0 ≤ cmpUs x u) = false := by simp; omega
      rw [hd, if_neg (by simp), if_neg hne, if_pos hlt, putS_ins h2]; rfl
    · have hd : decide (0 ≤ cmpUs x u) = true := by simp; omega
      rw [hd, if_pos (by simp), if_neg hlt]
      by_cases h0 : cmpUs x u = 0
      · have hxu := us_zero h0
        subst hxu
        rw [if_pos rfl, if_pos h0, putS_true (fun hm => by have := h1 x hm; rw [us_refl] at this; omega)]; rfl
      · have hne : x ≠ u := fun e => h0 (by rw [e]; exact us_refl u)
        rw [if_neg hne, if_neg h0, putS_true (fun hm => ?_)]
        · rfl
        · have h3 := h1 u hm
          exact hlt h3
/-- Put in behind all that come first: where none is the same. -/
theorem insE_at {α : Type} {c : α → α → Int} {x : α} : ∀ {l : List α}, (∀ y ∈ l, c y x ≠ 0) → ∀ k, k ≤ l.length → (∀ i (h : i < l.length), i < k → c l[i] x < 0) → (∀ h : k < l.length, ¬ c l[k] x < 0) → ins c x l = l.take k ++ x :: l.drop k
  | [], _, k, hk, _, _ => by simp at hk; subst hk; rfl
  | y :: r, hn, 0, _, _, h0 => by
    have h1 : ¬ c y x < 0 := h0 (by simp)
    rw [ins, if_neg h1, if_neg (hn y (by simp))]; rfl
  | y :: r, hn, k + 1, hk, h1, h0 => by
    have hy : c y x < 0 := h1 0 (by simp) (by omega)
    rw [ins, if_pos hy, insE_at (fun z hz => hn z (by simp [hz])) k (by simpa using hk) (fun i h hi => by have := h1 (i + 1) (by simpa using h) (by omega); rwa [List.getElem_cons_succ] at this) (fun h => by have := h0 (by simpa using h); rwa [List.getElem_cons_succ] at this)]
    rfl
/-! ### Lists as they must be stay so, whatever their order -/
theorem names_perm {l m : List En} (h : l.Perm m) : (namesE l).Perm (namesE m) := h.map _
theorem fst_perm {l m : List En} (hn : (namesE l).Nodup) (h : l.Perm m) (x : Us) : fstE l x = fstE m x := by
  have hm : (namesE m).Nodup := (names_perm h).nodup_iff.1 hn
  cases e : fstE l x with
  | none =>
    cases e2 : fstE m x with
    | none => rfl
    | some b =>
      have : x ∈ namesE m := fst_some.1 (by rw [e2]; rfl)
      have : x ∈ namesE l := (names_perm h).mem_iff.2 this
      have := fst_some.2 this
      rw [e] at this; cases this
  | some a =>
    have ha : a ∈ l ∧ a.u = x := ⟨List.mem_of_find?_eq_some e, by have := List.find?_some e; simpa using this⟩
    have := fst_of hm (h.mem_iff.1 ha.1)
    rw [ha.2] at this
    exact this.symm
theorem round_perm {l m : List En} (hn : (namesE l).Nodup) (h : l.Perm m) : RoundE l ↔ RoundE m := by
  have e : ∀ a b, stepE l a b ↔ stepE m a b := fun a b => by
    unfold stepE PE
    rw [fst_perm hn h, (names_perm h).mem_iff, (names_perm h).mem_iff]
  exact ⟨fun ⟨x, w⟩ => ⟨x, w.mono fun a b s => (e a b).1 s⟩, fun ⟨x, w⟩ => ⟨x, w.mono fun a b s => (e a b).2 s⟩⟩
end Go.Proofs.YtmkillbanmbafaaGreat
namespace Go.Proofs.YtmkillbanmbafaaGreat
section
variable {c : V → Int × V}
/-- Lists with the same entities, but for the order of parents. -/
structure Sim (l m : List En) : Prop where
  u : (namesE l).Perm (namesE m)
  fw : ∀ e ∈ l, ∃ d ∈ m, d.u = e.u ∧ d.a = e.a ∧ ∀ z, z ∈ d.ps ↔ z ∈ e.ps
  bw : ∀ d ∈ m, ∃ e ∈ l, d.u = e.u ∧ d.a = e.a ∧ ∀ z, z ∈ d.ps ↔ z ∈ e.ps
theorem Sim.symm {l m : List En} (h : Sim l m) : Sim m l where
  u := h.u.symm
  fw := fun d hd => by obtain ⟨e, he, h1, h2, h3⟩ := h.bw d hd; exact ⟨e, he, h1.symm, h2.symm, fun z => (h3 z).symm⟩
  bw := fun e he => by obtain ⟨d, hd, h1, h2, h3⟩ := h.fw e he; exact ⟨d, hd, h1.symm, h2.symm, fun z => (h3 z).symm⟩
theorem errE_sim {ns ms : List Us} (hn : ∀ z, z ∈ ns ↔ z ∈ ms) {e d : En} (ha : d.a = e.a) (hp : ∀ z, z ∈ d.ps ↔ z ∈ e.ps) : errE c ns e = errE c ms d := by
  unfold errE
  rw [ha]
  have : e.ps.all (fun p => decide (p ∈ ns)) = d.ps.all (fun p => decide (p ∈ ms)) := by
    rw [Bool.eq_iff_iff, List.all_eq_true, List.all_eq_true]
    constructor
    · intro h x hx
      have := h x ((hp x).1 hx)
      simp at this ⊢
      exact (hn x).1 this
    · intro h x hx
      have := h x ((hp x).2 hx)
      simp at this ⊢
      exact (hn x).2 this
  rw [this]
theorem one_sim {e d : En} (hu : d.u = e.u) (ha : d.a = e.a) (hp : ∀ z, z ∈ d.ps ↔ z ∈ e.ps) : oneE c d = oneE c e := by
  unfold oneE
  rw [hu, ha, canU_same hp]
theorem step_sim {l m : List En} (hn : (namesE l).Nodup) (h : Sim l m) (x y : Us) : stepE l x y → stepE m x y := by
  rintro ⟨h1, h2, h3⟩
  obtain ⟨e, he, rfl⟩ := List.mem_map.1 h1
  obtain ⟨d, hd, hu, _, hp⟩ := h.fw e he
  have hm : (namesE m).Nodup := h.u.nodup_iff.1 hn
  rw [PE_of hn he] at h2
  refine ⟨h.u.mem_iff.1 h1, ?_, h.u.mem_iff.1 h3⟩
  rw [← hu, PE_of hm hd]
  exact (hp y).2 h2
theorem round_sim {l m : List En} (hn : (namesE l).Nodup) (h : Sim l m) : RoundE l ↔ RoundE m :=
  ⟨fun ⟨x, w⟩ => ⟨x, w.mono fun a b => step_sim hn h a b⟩, fun ⟨x, w⟩ => ⟨x, w.mono fun a b => step_sim (h.u.nodup_iff.1 hn) h.symm a b⟩⟩
theorem names_one (l : List En) : namesE (l.map (oneE c)) = namesE l := by
  unfold namesE
  rw [List.map_map]; rfl
theorem same_name {l : List En} (hn : (namesE l).Nodup) {x y : En} (hx : x ∈ l) (hy : y ∈ l) (h : x.u = y.u) : x = y := by
  have h1 := fst_of hn hx
  have h2 := fst_of hn hy
  rw [h] at h1
  rw [h1] at h2
  simpa using h2
theorem en_zero {l : List En} (hn : (namesE l).Nodup) (y x : En) (hy : y ∈ l) (hx : x ∈ l) (h : cmpE y x = 0) : y = x := same_name hn hy hx (us_zero h)
theorem rise_en {l : List En} (hn : (namesE l).Nodup) : Rises cmpE (uniq cmpE l) := uniq_rises (S := fun e => e ∈ l) (good_en.mono fun _ _ => trivial) (fun y x hy hx h => en_zero hn y x hy hx h) (fun _ h => h)
theorem mem_en {l : List En} (hn : (namesE l).Nodup) {z : En} : z ∈ uniq cmpE l ↔ z ∈ l := mem_uniq (S := fun e => e ∈ l) (good_en.mono fun _ _ => trivial) (fun y x hy hx h => en_zero hn y x hy hx h) (fun _ h => h)
theorem en_unique {l m : List En} (hl : Rises cmpE l) (hm : Rises cmpE m) (h : ∀ z, z ∈ l ↔ z ∈ m) : l = m := rises_unique good_en (fun _ _ => trivial) (fun _ _ => trivial) hl hm h
theorem rises_names {l : List En} (h : Rises cmpE l) : (namesE l).Nodup := by
  unfold namesE
  rw [List.nodup_iff_pairwise_ne, List.pairwise_map]
  refine h.imp fun {a b} hab e => ?_
  unfold cmpE at hab
  rw [e, us_refl] at hab
  omega
theorem canE_ok {l : List En} : (canE c l).1 = 0 ↔ l.length ≤ 4096 ∧ (namesE l).Nodup ∧ (∀ e ∈ l, errE c (namesE l) e = 0) ∧ ¬ RoundE l := by
  unfold canE
  by_cases h1 : 4096 < l.length
  · rw [if_pos h1]; simp; omega
  · rw [if_neg h1]
    by_cases h2 : (namesE l).Nodup
    · rw [if_pos h2]
      by_cases h3 : errL c (namesE l) l = 0
      · rw [if_pos h3]
        by_cases h4 : RoundE l
        · rw [if_pos h4]; simp [h4]
        · rw [if_neg h4]
          simp only [true_iff]
          exact ⟨by omega, h2, (errL_zero c).1 h3, h4⟩
      · rw [if_neg h3]
        simp only [h3, false_iff]
        exact fun h => h3 ((errL_zero c).2 h.2.2.1)
    · rw [if_neg h2]; simp [h2]
theorem canE_val {l : List En} (h : (canE c l).1 = 0) : canE c l = (0, uniq cmpE (l.map (oneE c))) := by
  obtain ⟨h1, h2, h3, h4⟩ := canE_ok.1 h
  unfold canE
  rw [if_neg (by omega), if_pos h2, if_pos ((errL_zero c).2 h3), if_neg h4]
/-- Neither the order of a list nor that of parents matters. -/
theorem canE_sim {l m : List En} (h : Sim l m) : ((canE c l).1 = 0 ↔ (canE c m).1 = 0) ∧ ((canE c l).1 = 0 → (canE c l).2 = (canE c m).2) := by
  have key : ∀ {l m : List En}, Sim l m → (canE c l).1 = 0 → (canE c m).1 = 0 := fun {l m} h h0 => by
    obtain ⟨h1, h2, h3, h4⟩ := canE_ok.1 h0
    have hlen : l.length = m.length := by have := h.u.length_eq; simpa [namesE] using this
    refine canE_ok.2 ⟨by omega, h.u.nodup_iff.1 h2, fun d hd => ?_, fun hr => h4 ((round_sim h2 h).2 hr)⟩
    obtain ⟨e, he, _, ha, hp⟩ := h.bw d hd
    rw [← errE_sim (fun z => h.u.mem_iff) ha hp]
    exact h3 e he
  refine ⟨⟨key h, key h.symm⟩, fun h0 => ?_⟩
  have hn := (canE_ok.1 h0).2.1
  have hm := h.u.nodup_iff.1 hn
  rw [canE_val h0, canE_val (key h h0)]
  have nl : (namesE (l.map (oneE c))).Nodup := by rw [names_one]; exact hn
  have nm : (namesE (m.map (oneE c))).Nodup := by rw [names_one]; exact hm
  refine en_unique (rise_en nl) (rise_en nm) fun z => ?_
  rw [mem_en nl, mem_en nm]
  constructor
  · intro hz
    obtain ⟨e, he, rfl⟩ := List.mem_map.1 hz
    obtain ⟨d, hd, hu, ha, hp⟩ := h.fw e he
    exact List.mem_map.2 ⟨d, hd, one_sim hu ha hp⟩
  · intro hz
    obtain ⟨d, hd, rfl⟩ := List.mem_map.1 hz
    obtain ⟨e, he, hu, ha, hp⟩ := h.bw d hd
    exact List.mem_map.2 ⟨e, he, (one_sim hu ha hp).symm⟩
/-- What is as it must be stays so. -/
theorem canE_again (hc : ∀ v, (c v).1 = 0 → c (c v).2 = (0, (c v).2)) (hk : ∀ v, (c v).1 = 0 → v.h.k = 6 → (c v).2.h.k = 6) {l : List En} (h0 : (canE c l).1 = 0) : canE c (canE c l).2 = (0, (canE c l).2) := by
  obtain ⟨h1, h2, h3, h4⟩ := canE_ok.1 h0
  rw [canE_val h0]
  show canE c (uniq cmpE (l.map (oneE c))) = (0, uniq cmpE (l.map (oneE c)))
  obtain ⟨L, hL⟩ : ∃ L, uniq cmpE (l.map (oneE c)) = L := ⟨_, rfl⟩
  have nl : (namesE (l.map (oneE c))).Nodup := by rw [names_one]; exact h2
  have rL : Rises cmpE L := hL ▸ rise_en nl
  have mL : ∀ z, z ∈ L ↔ z ∈ l.map (oneE c) := fun z => hL ▸ mem_en nl
  rw [hL]
  have nL := rises_names rL
  have hnm : ∀ z, z ∈ namesE L ↔ z ∈ namesE l := fun z => by
    rw [← names_one (c := c) l]
    unfold namesE
    rw [List.mem_map, List.mem_map]
    exact ⟨fun ⟨e, he, hz⟩ => ⟨e, (mL e).1 he, hz⟩, fun ⟨e, he, hz⟩ => ⟨e, (mL e).2 he, hz⟩⟩
  have good : ∀ e ∈ l, e.a.h.k = 6 ∧ (c e.a).1 = 0 ∧ ∀ p ∈ e.ps, p ∈ namesE l := fun e he => by
    have := h3 e he
    unfold errE at this
    by_cases k1 : e.a.h.k ≠ 6
    · rw [if_pos k1] at this; exact absurd this (by decide)
    · rw [if_neg k1] at this
      by_cases k2 : (c e.a).1 ≠ 0
      · rw [if_pos k2] at this; exact absurd this k2
      · rw [if_neg k2] at this
        refine ⟨by omega, by omega, ?_⟩
        by_cases k3 : e.ps.all (fun p => decide (p ∈ namesE l)) = true
        · intro p hp
          have := List.all_eq_true.1 k3 p hp
          simpa using this
        · rw [if_neg k3] at this; exact absurd this (by decide)
  have idem : ∀ e ∈ l, oneE c (oneE c e) = oneE c e := fun e he => by
    unfold oneE
    simp only [canU_idem, hc e.a (good e he).2.1]
  have hlen : L.length ≤ l.length := by
    have e1 : L.length = (namesE L).length := by simp [namesE]
    have e2 : l.length = (namesE l).length := by simp [namesE]
    rw [e1, e2]
    exact len_sub _ _ nL fun z hz => (hnm z).1 hz
  have sim : ∀ x y, stepE L x y → stepE l x y := fun x y ⟨s1, s2, s3⟩ => by
    obtain ⟨e, he, rfl⟩ := List.mem_map.1 s1
    rw [PE_of nL he] at s2
    obtain ⟨d, hd, rfl⟩ := List.mem_map.1 ((mL e).1 he)
    refine ⟨(hnm _).1 s1, ?_, (hnm _).1 s3⟩
    show y ∈ PE l d.u
    rw [PE_of h2 hd]
    exact mem_canU.1 s2
  have ok : (canE c L).1 = 0 := by
    refine canE_ok.2 ⟨by omega, nL, fun e he => ?_, fun ⟨x, w⟩ => h4 ⟨x, w.mono sim⟩⟩
    obtain ⟨d, hd, rfl⟩ := List.mem_map.1 ((mL e).1 he)
    obtain ⟨g1, g2, g3⟩ := good d hd
    unfold errE oneE
    simp only
    rw [if_neg (by rw [hk _ g2 g1]; decide), hc _ g2, if_neg (by simp), if_pos]
    rw [List.all_eq_true]
    intro p hp
    simp
    exact (hnm p).2 (g3 p (mem_canU.1 hp))
  rw [canE_val ok]
  congr 1
  have e : L.map (oneE c) = L := by
    have : ∀ z ∈ L, oneE c z = z := fun z hz => by
      obtain ⟨d, hd, rfl⟩ := List.mem_map.1 ((mL z).1 hz)
      exact idem d hd
    exact (List.map_congr_left this).trans (List.map_id L)
  rw [e]
  exact en_unique (rise_en nL) rL fun z => mem_en nL
end
end Go.Proofs.YtmkillbanmbafaaGreat
