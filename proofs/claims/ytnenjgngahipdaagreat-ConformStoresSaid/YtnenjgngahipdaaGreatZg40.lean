/- What a schema that may be says: its attributes' types may be, its actions as entities may be. No condition. A row of values, of texts or of numbers among a law's arguments lies in memory. No condition. A list of entities among a law's arguments lies in memory. No condition. A schema among a law's arguments lies in memory as rows. No condition. -/
import Derived.Test.YtnenjgngahipdaaGreatZg25
import Derived.Test.YtnenjgngahipdaaGreatZScY
import Derived.Test.YtnenjgngahipdaaGreatZScZ
import Derived.Test.YtnenjgngahipdaaGreatZg35
import Derived.OpenShut
import Derived.Test.YtnenjgngahipdaaGreatZg09
import Derived.Test.YtnenjgngahipdaaGreatZg01
set_option linter.unusedVariables false
set_option linter.unusedSimpArgs false
set_option linter.unnecessarySimpa false
namespace Go.Proofs.YtnenjgngahipdaaGreat
open Go.RowKit
set_option linter.unusedVariables false
theorem ras_re {n : Nat} {w : World} {l : List At} {v : Value} (hs : Sm 61 (recT l)) (h : RAs (fun _ => True) w n l v) : RAs (fun _ => True) w 60 l v :=
  (rt_succ.1 (RT.re (m := 61) hs.dp (rec_rt h))).2.2
theorem RowB.imp {α β : Type} {w : World} {sz : Nat} {enc : α → β → List Value} {R R' : World → α → β → Prop} {l : List α} {it : Value} (h : RowB w sz enc R l it) (hR : ∀ x ∈ l, ∀ e, R w x e → R' w x e) : RowB w sz enc R' l it := by
  obtain ⟨p, cap, rfl, hc, hx⟩ := h
  refine ⟨p, cap, rfl, hc, fun j hj => ?_⟩
  obtain ⟨b, o, e, rfl, h1, h2⟩ := hx j hj
  exact ⟨b, o, e, rfl, h1, hR _ (List.getElem_mem hj) _ h2⟩
theorem ets_re {n : Nat} {w : World} {ts : List Et} {acs : List Ac} {v : Value} (hs : Sized ts acs) (h : EtsAt n w ts v) : EtsAt 60 w ts v := RowB.imp h fun x hx e he => ⟨he.1, ras_re (hs.ts x hx).1 he.2⟩
theorem acs_re {n : Nat} {w : World} {ts : List Et} {acs : List Ac} {v : Value} (hs : Sized ts acs) (h : AcsAt n w acs v) : AcsAt 60 w acs v := RowB.imp h fun x hx e he => ⟨he.1, he.2.1, he.2.2.1, ras_re (hs.as' x hx).1 he.2.2.2⟩
theorem sz_g2 {ts : List Et} {acs : List Ac} (h : Sized ts acs) : FewG (acs.map Ac.r) := by
  refine ⟨by have := h.a; simp; omega, fun p hp => ?_⟩
  obtain ⟨x, hx, rfl⟩ := List.mem_map.1 hp
  exact Nat.le_trans (h.as' x hx).2.1 (by omega)
theorem uAct_inj {a b : Nm} (h : uAct a = uAct b) : a = b := Nm.ext' (congrArg Us.i h)
theorem fst_acts (acs : List Ac) (n : Nm) : fstE (actsE acs) (uAct n) = (acs.find? fun a => decide (a.nm = n)).map actE := by
  unfold fstE actsE
  rw [List.find?_map]
  have : ((fun e : En => decide (e.u = uAct n)) ∘ actE) = fun a => decide (a.nm = n) := by
    funext a
    show decide (uAct a.nm = uAct n) = _
    by_cases h : a.nm = n
    · rw [decide_eq_true h, decide_eq_true (by rw [h])]
    · rw [decide_eq_false h, decide_eq_false fun e => h (uAct_inj e)]
  rw [this]
theorem look_acts (acs : List Ac) (n : Nm) : look (acs.map Ac.r) n = (acs.find? fun a => decide (a.nm = n)).map (·.ins) := by
  unfold look
  rw [List.find?_map]
  have : ((fun s : Nm × List Nm => decide (s.1 = n)) ∘ Ac.r) = fun a => decide (a.nm = n) := rfl
  rw [this]
  cases acs.find? fun a => decide (a.nm = n) <;> rfl
theorem pe_acts (acs : List Ac) (n : Nm) : PE (actsE acs) (uAct n) = (nxt (acs.map Ac.r) n).map uAct := by
  unfold PE nxt
  rw [fst_acts, look_acts]
  cases acs.find? fun a => decide (a.nm = n) <;> rfl
theorem names_acts {acs : List Ac} {x : Us} (h : x ∈ namesE (actsE acs)) : ∃ a ∈ acs, x = uAct a.nm := by
  unfold namesE actsE at h
  obtain ⟨e, he, rfl⟩ := List.mem_map.1 h
  obtain ⟨a, ha, rfl⟩ := List.mem_map.1 he
  exact ⟨a, ha, rfl⟩
theorem way_acts {acs : List Ac} {x y : Us} (h : Way (stepE (actsE acs)) x y) : ∃ a b : Nm, x = uAct a ∧ y = uAct b ∧ Way (Stp (acs.map Ac.r)) a b := by
  have one : ∀ {x y : Us}, stepE (actsE acs) x y → ∃ a b : Nm, x = uAct a ∧ y = uAct b ∧ Stp (acs.map Ac.r) a b := fun {x y} ⟨h1, h2, h3⟩ => by
    obtain ⟨a, ha, rfl⟩ := names_acts h1
    rw [pe_acts] at h2
    obtain ⟨b, hb, rfl⟩ := List.mem_map.1 h2
    exact ⟨a.nm, b, rfl, rfl, hb⟩
  induction h with
  | one h => obtain ⟨a, b, h1, h2, h3⟩ := one h; exact ⟨a, b, h1, h2, .one h3⟩
  | more _ h ih =>
    obtain ⟨a, b, h1, h2, h3⟩ := ih
    obtain ⟨b', c, h4, h5, h6⟩ := one h
    obtain rfl : b = b' := uAct_inj (h2.symm.trans h4)
    exact ⟨a, c, h1, h5, .more h3 h6⟩
structure SchOk (ts : List Et) (acs : List Ac) : Prop where
  t : ∀ t ∈ ts, mayB 61 (recT t.ats) = true
  a : ∀ a ∈ acs, mayB 61 (recT a.ats) = true
  can : (canE canD (actsE acs)).1 = 0
theorem sch_ok {ts : List Et} {acs : List Ac} (hl : acs.length ≤ 4096) (h : chkS 60 ts acs = 0) : SchOk ts acs := by
  unfold chkS at h
  by_cases h1 : ¬ (ts.map Et.nm).Nodup ∨ ¬ (acs.map Ac.nm).Nodup
  · rw [if_pos h1] at h; simp at h
  rw [if_neg h1] at h
  by_cases h2 : (!ts.all (typeB (ts.map Et.r) 60) || !acs.all (actB (ts.map Et.r) (acs.map Ac.r) 60)) = true
  · rw [if_pos h2] at h; simp at h
  rw [if_neg h2] at h
  by_cases h3 : rounds (acs.map Ac.r) = true
  · rw [if_pos h3] at h; simp at h
  have hn : (acs.map Ac.nm).Nodup := Classical.byContradiction fun e => h1 (.inr e)
  have h4 : ts.all (typeB (ts.map Et.r) 60) = true ∧ acs.all (actB (ts.map Et.r) (acs.map Ac.r) 60) = true := by
    cases e1 : ts.all (typeB (ts.map Et.r) 60) <;> cases e2 : acs.all (actB (ts.map Et.r) (acs.map Ac.r) 60) <;> simp [e1, e2] at h2 ⊢
  have hrow : ∀ {h : ByteArray → Bool} {l : List At}, rowB h 60 l = true → mayB 61 (recT l) = true := fun {h l} hr => by
    unfold rowB at hr
    rw [Bool.and_eq_true] at hr
    exact (chkE_ok.1 (of_decide_eq_true hr.1)).2
  refine ⟨fun t ht => ?_, fun a ha => ?_, ?_⟩
  · have := List.all_eq_true.1 h4.1 t ht
    unfold typeB at this
    simp only [Bool.and_eq_true] at this
    exact hrow this.2.2.2
  · have := List.all_eq_true.1 h4.2 a ha
    unfold actB at this
    simp only [Bool.and_eq_true] at this
    exact hrow this.2.2.2
  · have hnn : (namesE (actsE acs)).Nodup := by
      have : namesE (actsE acs) = (acs.map Ac.nm).map uAct := by unfold namesE actsE; rw [List.map_map, List.map_map]; rfl
      rw [this, List.nodup_iff_pairwise_ne, List.pairwise_map]
      rw [List.nodup_iff_pairwise_ne] at hn
      exact hn.imp fun {a b} hab e => hab (uAct_inj e)
    unfold canE
    rw [if_neg (by unfold actsE; rw [List.length_map]; omega), if_pos hnn, if_pos, if_neg]
    · rintro ⟨x, hw⟩
      obtain ⟨a, b, h5, h6, h7⟩ := way_acts hw
      obtain rfl : a = b := uAct_inj (h5.symm.trans h6)
      exact h3 (by unfold rounds; exact @decide_eq_true _ (Classical.propDecidable _) ⟨a, h7⟩)
    · rw [errL_zero]
      intro e he
      have he0 := he
      unfold actsE at he
      obtain ⟨a, ha, rfl⟩ := List.mem_map.1 he
      have h5 := List.all_eq_true.1 h4.2 a ha
      unfold actB at h5
      simp only [Bool.and_eq_true] at h5
      unfold errE
      have h6 : canD recV = (0, recV) := by kernel_rfl
      rw [if_neg (by show ¬ (6 : Int) ≠ 6; decide), if_neg (by show ¬ (canD recV).1 ≠ 0; rw [h6]; simp), if_pos]
      rw [List.all_eq_true]
      intro p hp
      obtain ⟨x, hx, rfl⟩ := List.mem_map.1 (show p ∈ a.ins.map uAct from hp)
      have h7 := List.all_eq_true.1 h5.1 x hx
      unfold knows at h7
      obtain ⟨q, hq, hqx⟩ := look_mem.1 h7
      obtain ⟨b, hb, rfl⟩ := List.mem_map.1 hq
      refine decide_eq_true ?_
      unfold namesE
      exact List.mem_map.2 ⟨actE b, List.mem_map.2 ⟨b, hb, rfl⟩, by show uAct b.nm = uAct x; rw [show b.nm = x from hqx]⟩
end Go.Proofs.YtnenjgngahipdaaGreat
namespace Go.Proofs.YtnenjgngahipdaaGreat
open Go.RowKit Go.ChangeShapes Go.WideShapes Go.Deep
variable {H : Type} {enc : TypeId × Value → H} {w : World} {spare : Nat → Bool} {held : Bool}
theorem one_slice {a b : Option Addr} {n c n' c' : Nat} (h : (Value.cells (.slice a n c)).toList = [.slice b n' c']) : Value.slice a n c = .slice b n' c' := by
  have : (Value.cells (.slice a n c)).toList = [.slice a n c] := rfl
  rw [this] at h
  exact (List.cons.inj h).1
/-- A slice of numbers. -/
def Nu (w : World) (zs : List Int) (v : Value) : Prop :=
  ∃ ao cap, v = .slice ao zs.length cap ∧ zs.length ≤ 9223372036854775807 ∧ (∀ z ∈ zs, -9223372036854775808 ≤ z ∧ z ≤ 9223372036854775807) ∧
    (zs = [] ∨ ∃ b o, ao = some ⟨b, o, none⟩ ∧ ∀ j (hj : j < zs.length), w.cell? ⟨b, o + j, none⟩ = some (.int .i64 zs[j]))
theorem Nu.low {w w' : World} {zs : List Int} {v : Value} (h : Nu w zs v) (l : Low w w') : Nu w' zs v := by
  obtain ⟨ao, cap, h1, h2, h3, h4⟩ := h
  exact ⟨ao, cap, h1, h2, h3, h4.imp id fun ⟨b, o, h5, h6⟩ => ⟨b, o, h5, fun j hj => l.keep (h6 j hj)⟩⟩
end Go.Proofs.YtnenjgngahipdaaGreat
namespace Go.Proofs.YtnenjgngahipdaaGreat
open Go.RowKit Go.ChangeShapes Go.WideShapes Go.Deep
variable {H : Type} {enc : TypeId × Value → H} {w : World} {spare : Nat → Bool} {held : Bool}
theorem cofE : Tryz.prog.cellsOf 71 = 11 := by kernel_rfl
theorem cofUs : Tryz.prog.cellsOf 69 = 1 := by kernel_rfl
theorem trod_uid {base fuel : Nat} {c0 c1 : Value} {x : DataW H × List MemPlace} (h : DataW.trod enc Tryz.prog w base spare held fuel 23 [c0, c1] = some x) : ∃ u : Us, [c0, c1] = u.cs := by
  obtain ⟨us, un, -, -, -, hul, huf⟩ := DataW.trod_struct Tryz.underlying23 h
  have hu2 : us.length = 2 := hul
  have u0 : DataW.trod enc Tryz.prog w base spare held un 9 (([c0, c1].drop 0).take (Tryz.prog.cellsOf 9)) = some _ := (huf 0 _ rfl).trans (List.getElem?_eq_getElem (by omega))
  have u1 : DataW.trod enc Tryz.prog w base spare held un 9 (([c0, c1].drop 1).take (Tryz.prog.cellsOf 9)) = some _ := (huf 1 _ rfl).trans (List.getElem?_eq_getElem (by omega))
  rw [cof9] at u0 u1
  obtain ⟨t, e4, -, ht⟩ := DataW.trod_string Tryz.underlying9 u0
  obtain ⟨i, e5, -, hi⟩ := DataW.trod_string Tryz.underlying9 u1
  simp at e4 e5
  subst e4 e5
  exact ⟨⟨t, i, ht, hi⟩, rfl⟩
theorem trod_uids {base fuel : Nat} {cs : List Value} {x : DataW H × List MemPlace} (h : DataW.trod enc Tryz.prog w base spare held fuel 69 cs = some x) : ∃ (l : List Us) (v : Value), cs = [v] ∧ UsIn (fun _ => True) w v l := by
  rcases DataW.trod_slice Tryz.underlying69 h with ⟨rfl, -⟩ | ⟨a, len, cap, elems, rest, n, -, rfl, -, -, hlc, hcm, hel, hall, -, -⟩
  · exact ⟨[], _, rfl, none, 0, rfl, ⟨by simp, by simp⟩, fun j hj => by simp at hj⟩
  · rw [cof23] at hall
    have hx : ∀ j, j < len → ∃ u : Us, ∀ c v, u.cs[c]? = some v → w.cell? (a.add (j * 2 + c)) = some v := fun j hj => by
      have h1 := hall j hj
      rw [List.getElem?_eq_getElem (by omega)] at h1
      obtain ⟨c, h2, h3⟩ := Option.bind_eq_some_iff.1 h1
      obtain ⟨-, hl, hat⟩ := World.cells?_some h2
      match c, hl with
      | [c0, c1], _ =>
        obtain ⟨u, hu⟩ := trod_uid h3
        refine ⟨u, fun c v hv => ?_⟩
        have h8 : c < 2 := by have := (List.getElem?_eq_some_iff.1 hv).1; simpa [Us.cs] using this
        have := hat c h8
        rw [add_add] at this
        rw [this, hu]; exact hv
    haveI : Inhabited Us := ⟨⟨⟨#[]⟩, ⟨#[]⟩, Nat.zero_le _, Nat.zero_le _⟩⟩
    obtain ⟨f, hf⟩ := choose_lt hx
    refine ⟨(List.range len).map f, _, rfl, some a, cap, by simp, ⟨by simp; exact hlc, by unfold maxLen at hcm; exact hcm⟩, fun j hj => ?_⟩
    have hj' : j < len := by simpa using hj
    obtain ⟨b, o, rfl⟩ := addr_plainv (hf 0 (by omega) 0 _ rfl)
    refine ⟨b, o, rfl, trivial, fun c v hv => ?_⟩
    have hg : ((List.range len).map f)[j] = f j := by simp
    rw [hg] at hv
    have := hf j hj' c v hv
    rw [Addr.add_lit] at this
    rw [Nat.add_assoc]; exact this
set_option maxRecDepth 100000 in
theorem trod_ent {base fuel : Nat} {cs : List Value} {x : DataW H × List MemPlace} (h : DataW.trod enc Tryz.prog w base spare held fuel 71 cs = some x) : ∃ q : Ee, cs = q.sh.cs ∧ EeOk (fun _ => True) w q := by
  obtain ⟨xs, n, rfl, -, hlen, hxl, hf⟩ := DataW.trod_struct Tryz.underlying71 h
  rw [cofE] at hlen
  have hx3 : xs.length = 3 := hxl
  match cs, hlen with
  | [c0, c1, c2, c3, c4, c5, c6, c7, c8, c9, c10], _ =>
    have f0 : DataW.trod enc Tryz.prog w base spare held n 23 (([c0, c1, c2, c3, c4, c5, c6, c7, c8, c9, c10].drop 0).take (Tryz.prog.cellsOf 23)) = some _ := (hf 0 _ rfl).trans (List.getElem?_eq_getElem (by omega))
    have f1 : DataW.trod enc Tryz.prog w base spare held n 69 (([c0, c1, c2, c3, c4, c5, c6, c7, c8, c9, c10].drop 2).take (Tryz.prog.cellsOf 69)) = some _ := (hf 1 _ rfl).trans (List.getElem?_eq_getElem (by omega))
    have f2 : DataW.trod enc Tryz.prog w base spare held n 27 (([c0, c1, c2, c3, c4, c5, c6, c7, c8, c9, c10].drop 3).take (Tryz.prog.cellsOf 27)) = some _ := (hf 2 _ rfl).trans (List.getElem?_eq_getElem (by omega))
    rw [cof23] at f0
    rw [cofUs] at f1
    rw [cof27] at f2
    obtain ⟨u, hu⟩ := trod_uid f0
    obtain ⟨ps, pv, hp, hps⟩ := trod_uids f1
    obtain ⟨v, it, nm, hv, hr⟩ := trod_val n f2
    obtain ⟨ai, ci, an, cn, rfl, rfl⟩ := r_slices hr
    obtain ⟨ap, cp, rfl, hc, hx⟩ := hps
    simp [Us.cs] at hu
    simp at hp
    simp [hdc] at hv
    obtain ⟨rfl, rfl⟩ := hu
    obtain ⟨rfl, rfl, rfl, rfl, rfl, rfl, rfl, rfl⟩ := hv
    subst hp
    exact ⟨⟨⟨u, ps, v⟩, ap, cp, ai, ci, an, cn⟩, rfl, ⟨ap, cp, rfl, hc, hx⟩, hr⟩
set_option maxRecDepth 100000 in
theorem open_ents {r : Reach} {base : Nat} {v : Value} {d : DataW H} {p : List MemPlace} (hv : Value.okWide Tryz.prog w r base 47 v) (h : DataW.Trod enc Tryz.prog w 0 spare held 47 v d p) : ∃ qs : List Ee, EtAt w v qs := by
  obtain ⟨ao, n, c, rfl⟩ := okWide_slice Tryz.underlying47 hv
  obtain ⟨fuel, hf⟩ := h
  rcases DataW.trod_slice Tryz.underlying47 hf with ⟨e6, -⟩ | ⟨a, len, cap, elems, rest, n2, hn2, e6, -, -, hlc, hcm, hel, hall, -, -⟩
  · rw [one_slice e6]
    exact ⟨[], ⟨none, 0, rfl, ⟨by simp, by simp⟩, fun j hj => by simp at hj⟩, fun q hq => by simp at hq⟩
  · rw [one_slice e6]
    rw [cofE] at hall
    have hx : ∀ j, j < len → ∃ q : Ee, (∀ c u, q.sh.cs[c]? = some u → w.cell? (a.add (j * 11 + c)) = some u) ∧ EeOk (fun _ => True) w q := fun j hj => by
      have h1 := hall j hj
      rw [List.getElem?_eq_getElem (by omega)] at h1
      obtain ⟨c, h2, h3⟩ := Option.bind_eq_some_iff.1 h1
      obtain ⟨q, rfl, hq⟩ := trod_ent h3
      obtain ⟨-, -, hat⟩ := World.cells?_some h2
      refine ⟨q, fun c u hu => ?_, hq⟩
      have h8 : c < 11 := by have := (List.getElem?_eq_some_iff.1 hu).1; simpa [Sh.cs] using this
      have := hat c h8
      rw [add_add] at this
      rw [this]; exact hu
    haveI : Inhabited Ee := ⟨⟨⟨⟨⟨#[]⟩, ⟨#[]⟩, Nat.zero_le _, Nat.zero_le _⟩, [], V0⟩, none, 0, none, 0, none, 0⟩⟩
    obtain ⟨f, hfz⟩ := choose_lt hx
    refine ⟨(List.range len).map f, ⟨some a, cap, by simp, ⟨by simp; exact hlc, by unfold maxLen at hcm; exact hcm⟩, fun j hj => ?_⟩, fun q hq => ?_⟩
    · have hj' : j < len := by simpa using hj
      obtain ⟨bb, oo, rfl⟩ := addr_plainv ((hfz 0 (by omega)).1 0 _ rfl)
      refine ⟨bb, oo, rfl, fun c u hu => ?_⟩
      have hg : (((List.range len).map f).map Ee.sh)[j] = (f j).sh := by simp
      rw [hg] at hu
      have := (hfz j hj').1 c u hu
      rw [Addr.add_lit] at this
      rw [Nat.add_assoc]; exact this
    · obtain ⟨j, hj, rfl⟩ := List.mem_map.1 hq
      exact (hfz j (List.mem_range.1 hj)).2
end Go.Proofs.YtnenjgngahipdaaGreat
namespace Go.Proofs.YtnenjgngahipdaaGreat
open Go.RowKit Go.ChangeShapes Go.WideShapes Go.Deep
set_option linter.unusedVariables false
variable {H : Type} {enc : TypeId × Value → H} {w : World} {spare : Nat → Bool} {held : Bool} {base : Nat}
theorem cofN : Tryz.prog.cellsOf 25 = 1 := by kernel_rfl
theorem cofEt : Tryz.prog.cellsOf 66 = 3 := by kernel_rfl
theorem cofAc : Tryz.prog.cellsOf 68 = 5 := by kernel_rfl
theorem cofSc : Tryz.prog.cellsOf 46 = 2 := by kernel_rfl
theorem cofLE : Tryz.prog.cellsOf 43 = 1 := by kernel_rfl
theorem cofLC : Tryz.prog.cellsOf 44 = 1 := by kernel_rfl
instance : Inhabited Nm := ⟨⟨⟨#[]⟩, by decide⟩⟩
instance : Inhabited Et := ⟨⟨default, [], []⟩⟩
instance : Inhabited Ac := ⟨⟨default, [], [], [], []⟩⟩
/-- A slice of rows of one's own. -/
theorem rowB_of {α β : Type} [Inhabited α] [Inhabited β] {fuel sz : Nat} {ty el : TypeId} {cs : List Value} {x : DataW H × List MemPlace} (hu : Tryz.prog.underlying ty = some (.slice el)) (hsz : Tryz.prog.cellsOf el = sz) (encX : α → β → List Value) (R : World → α → β → Prop)
    (hlen : ∀ x e, (encX x e).length = sz) (hf0 : ∀ x e, ∃ u, (encX x e)[0]? = some u)
    (ih : ∀ m, m < fuel → ∀ (cs : List Value) (x : DataW H × List MemPlace), DataW.trod enc Tryz.prog w base spare held m el cs = some x → ∃ (y : α) (e : β), cs = encX y e ∧ R w y e)
    (h : DataW.trod enc Tryz.prog w base spare held fuel ty cs = some x) : ∃ (l : List α) (it : Value), cs = [it] ∧ RowB w sz encX R l it := by
  rcases DataW.trod_slice hu h with ⟨rfl, -⟩ | ⟨a, len, cap, elems, rest, n2, hn2, rfl, -, -, hlc, hcm, hel, hall, -, -⟩
  · exact ⟨[], _, rfl, RowB.nil _ _ _ _⟩
  · rw [hsz] at hall
    have hx : ∀ j, j < len → ∃ z : α × β, (∀ c u, (encX z.1 z.2)[c]? = some u → w.cell? (a.add (j * sz + c)) = some u) ∧ R w z.1 z.2 := fun j hj => by
      have h1 := hall j hj
      rw [List.getElem?_eq_getElem (by omega)] at h1
      obtain ⟨c, h2, h3⟩ := Option.bind_eq_some_iff.1 h1
      obtain ⟨y, e, rfl, hr⟩ := ih n2 (by omega) _ _ h3
      obtain ⟨-, -, hat⟩ := World.cells?_some h2
      refine ⟨(y, e), fun c u hu => ?_, hr⟩
      have h8 : c < sz := by have := (List.getElem?_eq_some_iff.1 hu).1; rwa [hlen] at this
      have := hat c h8
      rw [add_add] at this
      rw [this]; exact hu
    haveI : Inhabited (α × β) := ⟨(default, default)⟩
    obtain ⟨f, hfz⟩ := choose_lt hx
    refine ⟨(List.range len).map fun j => (f j).1, _, rfl, some a, cap, by simp, ⟨by simp; exact hlc, by unfold maxLen at hcm; exact hcm⟩, fun j hj => ?_⟩
    have hj' : j < len := by simpa using hj
    obtain ⟨u, hu⟩ := hf0 (f 0).1 (f 0).2
    have ha := (hfz 0 (by omega)).1 0 u hu
    rw [Nat.zero_mul, Nat.add_zero] at ha
    obtain ⟨bb, oo, rfl⟩ := addr_plain ha
    refine ⟨bb, oo, (f j).2, rfl, fun c u hu => ?_, ?_⟩
    · have := (hfz j hj').1 c u (by simpa using hu)
      rw [Addr.add_lit] at this
      rw [Nat.add_assoc]; exact this
    · have := (hfz j hj').2
      simpa using this
instance : Inhabited Value := ⟨.nilFunc⟩
theorem trod_ns {fuel : Nat} {cs : List Value} {x : DataW H × List MemPlace} (h : DataW.trod enc Tryz.prog w base spare held fuel 25 cs = some x) : ∃ (l : List Nm) (it : Value), cs = [it] ∧ NsAt w l it :=
  rowB_of Tryz.underlying25 cofS encNm (fun _ _ _ => True) (fun _ _ => rfl) (fun _ _ => ⟨_, rfl⟩) (fun m hm cs x hx => by
    obtain ⟨s, rfl, -, hs⟩ := DataW.trod_string Tryz.underlying9 hx
    exact ⟨⟨s, by unfold maxLen at hs; exact hs⟩, (), rfl, trivial⟩) h
set_option maxRecDepth 100000 in
theorem trod_as {fuel : Nat} {cs : List Value} {x : DataW H × List MemPlace} (h : DataW.trod enc Tryz.prog w base spare held fuel 29 cs = some x) : ∃ (l : List At) (it : Value), cs = [it] ∧ RAs (fun _ => True) w fuel l it := by
  obtain ⟨l, v, e3, ha⟩ := row_of Tryz.underlying29 cofA acs (fun x e v => (an x).size ≤ 9223372036854775807 ∧ RT (fun _ => True) w fuel (aty x) e v) (fun _ _ _ => rfl) acs_0 (fun m hm cs x hx => by
    obtain ⟨zs, n3, rfl, -, hlen, hzl, hz⟩ := DataW.trod_struct Tryz.underlying63 hx
    rw [cofA] at hlen
    have hz3 : zs.length = 3 := hzl
    match cs, hlen with
    | [d0, d1, d2, d3, d4, d5], _ =>
      have q0 : DataW.trod enc Tryz.prog w base spare held n3 9 (([d0, d1, d2, d3, d4, d5].drop 0).take (Tryz.prog.cellsOf 9)) = some _ := (hz 0 _ rfl).trans (List.getElem?_eq_getElem (by omega))
      have q1 : DataW.trod enc Tryz.prog w base spare held n3 31 (([d0, d1, d2, d3, d4, d5].drop 1).take (Tryz.prog.cellsOf 31)) = some _ := (hz 1 _ rfl).trans (List.getElem?_eq_getElem (by omega))
      have q2 : DataW.trod enc Tryz.prog w base spare held n3 4 (([d0, d1, d2, d3, d4, d5].drop 5).take (Tryz.prog.cellsOf 4)) = some _ := (hz 2 _ rfl).trans (List.getElem?_eq_getElem (by omega))
      rw [cofS] at q0
      rw [cofT] at q1
      rw [cofB] at q2
      obtain ⟨m1, r0, -, hm1⟩ := DataW.trod_string Tryz.underlying9 q0
      obtain ⟨t, e, v, r1, hr⟩ := trod_ty n3 q1
      obtain ⟨b, r2, -⟩ := DataW.trod_bool Tryz.underlying4 q2
      simp [tcs] at r0 r1 r2
      obtain ⟨r3, r4, r5, r6⟩ := r1
      subst r0 r2 r3 r4 r5 r6
      exact ⟨(m1, t, b), _, _, rfl, by unfold maxLen at hm1; exact hm1, hr.mono (by omega)⟩) h
  exact ⟨l, v, e3, ha⟩
theorem RAs.mono {n m : Nat} {l : List At} {v : Value} (h : RAs (fun _ => True) w n l v) (hm : n ≤ m) : RAs (fun _ => True) w m l v :=
  RowR.to acs_0 (fun b ha _ => ⟨ha, rfl⟩) (fun _ _ _ _ k => ⟨k.1, k.2.mono hm⟩) h
set_option maxRecDepth 100000 in
theorem trod_et {fuel : Nat} {cs : List Value} {x : DataW H × List MemPlace} (h : DataW.trod enc Tryz.prog w base spare held fuel 66 cs = some x) : ∃ (t : Et) (e : Value × Value), cs = encEt t e ∧ EtOk fuel w t e := by
  obtain ⟨xs, n, rfl, -, hlen, hxl, hf⟩ := DataW.trod_struct Tryz.underlying66 h
  rw [cofEt] at hlen
  have hx3 : xs.length = 3 := hxl
  match cs, hlen with
  | [c0, c1, c2], _ =>
    have f0 : DataW.trod enc Tryz.prog w base spare held n 9 (([c0, c1, c2].drop 0).take (Tryz.prog.cellsOf 9)) = some _ := (hf 0 _ rfl).trans (List.getElem?_eq_getElem (by omega))
    have f1 : DataW.trod enc Tryz.prog w base spare held n 25 (([c0, c1, c2].drop 1).take (Tryz.prog.cellsOf 25)) = some _ := (hf 1 _ rfl).trans (List.getElem?_eq_getElem (by omega))
    have f2 : DataW.trod enc Tryz.prog w base spare held n 29 (([c0, c1, c2].drop 2).take (Tryz.prog.cellsOf 29)) = some _ := (hf 2 _ rfl).trans (List.getElem?_eq_getElem (by omega))
    rw [cofS] at f0
    rw [cofN] at f1
    rw [cofLA] at f2
    obtain ⟨s, e0, -, hs⟩ := DataW.trod_string Tryz.underlying9 f0
    obtain ⟨l, v1, e1, hl⟩ := trod_ns f1
    obtain ⟨as', v2, e2, ha⟩ := trod_as f2
    simp at e0 e1 e2
    subst e0 e1 e2
    exact ⟨⟨⟨s, by unfold maxLen at hs; exact hs⟩, l, as'⟩, (_, _), rfl, hl, ha.mono (by omega)⟩
set_option maxRecDepth 100000 in
theorem trod_ac {fuel : Nat} {cs : List Value} {x : DataW H × List MemPlace} (h : DataW.trod enc Tryz.prog w base spare held fuel 68 cs = some x) : ∃ (t : Ac) (e : (Value × Value) × Value × Value), cs = encAc t e ∧ AcOk fuel w t e := by
  obtain ⟨xs, n, rfl, -, hlen, hxl, hf⟩ := DataW.trod_struct Tryz.underlying68 h
  rw [cofAc] at hlen
  have hx3 : xs.length = 5 := hxl
  match cs, hlen with
  | [c0, c1, c2, c3, c4], _ =>
    have f0 : DataW.trod enc Tryz.prog w base spare held n 9 (([c0, c1, c2, c3, c4].drop 0).take (Tryz.prog.cellsOf 9)) = some _ := (hf 0 _ rfl).trans (List.getElem?_eq_getElem (by omega))
    have f1 : DataW.trod enc Tryz.prog w base spare held n 25 (([c0, c1, c2, c3, c4].drop 1).take (Tryz.prog.cellsOf 25)) = some _ := (hf 1 _ rfl).trans (List.getElem?_eq_getElem (by omega))
    have f2 : DataW.trod enc Tryz.prog w base spare held n 25 (([c0, c1, c2, c3, c4].drop 2).take (Tryz.prog.cellsOf 25)) = some _ := (hf 2 _ rfl).trans (List.getElem?_eq_getElem (by omega))
    have f3 : DataW.trod enc Tryz.prog w base spare held n 25 (([c0, c1, c2, c3, c4].drop 3).take (Tryz.prog.cellsOf 25)) = some _ := (hf 3 _ rfl).trans (List.getElem?_eq_getElem (by omega))
    have f4 : DataW.trod enc Tryz.prog w base spare held n 29 (([c0, c1, c2, c3, c4].drop 4).take (Tryz.prog.cellsOf 29)) = some _ := (hf 4 _ rfl).trans (List.getElem?_eq_getElem (by omega))
    rw [cofS] at f0
    rw [cofN] at f1 f2 f3
    rw [cofLA] at f4
    obtain ⟨s, e0, -, hs⟩ := DataW.trod_string Tryz.underlying9 f0
    obtain ⟨l1, v1, e1, h1⟩ := trod_ns f1
    obtain ⟨l2, v2, e2, h2⟩ := trod_ns f2
    obtain ⟨l3, v3, e3, h3⟩ := trod_ns f3
    obtain ⟨as', v4, e4, ha⟩ := trod_as f4
    simp at e0 e1 e2 e3 e4
    subst e0 e1 e2 e3 e4
    exact ⟨⟨⟨s, by unfold maxLen at hs; exact hs⟩, l1, l2, l3, as'⟩, ((_, _), _, _), rfl, h1, h2, h3, ha.mono (by omega)⟩
theorem EtOk.mono {n m : Nat} {t : Et} {e : Value × Value} (h : EtOk n w t e) (hm : n ≤ m) : EtOk m w t e := ⟨h.1, h.2.mono hm⟩
theorem AcOk.mono {n m : Nat} {t : Ac} {e : (Value × Value) × Value × Value} (h : AcOk n w t e) (hm : n ≤ m) : AcOk m w t e := ⟨h.1, h.2.1, h.2.2.1, h.2.2.2.mono hm⟩
set_option maxRecDepth 100000 in
theorem trod_sc {fuel : Nat} {cs : List Value} {x : DataW H × List MemPlace} (h : DataW.trod enc Tryz.prog w base spare held fuel 46 cs = some x) : ∃ (ts : List Et) (acs : List Ac) (vt va : Value), cs = [vt, va] ∧ EtsAt fuel w ts vt ∧ AcsAt fuel w acs va := by
  obtain ⟨xs, n, rfl, -, hlen, hxl, hf⟩ := DataW.trod_struct Tryz.underlying46 h
  rw [cofSc] at hlen
  have hx3 : xs.length = 2 := hxl
  match cs, hlen with
  | [c0, c1], _ =>
    have f0 : DataW.trod enc Tryz.prog w base spare held n 43 (([c0, c1].drop 0).take (Tryz.prog.cellsOf 43)) = some _ := (hf 0 _ rfl).trans (List.getElem?_eq_getElem (by omega))
    have f1 : DataW.trod enc Tryz.prog w base spare held n 44 (([c0, c1].drop 1).take (Tryz.prog.cellsOf 44)) = some _ := (hf 1 _ rfl).trans (List.getElem?_eq_getElem (by omega))
    rw [cofLE] at f0
    rw [cofLC] at f1
    obtain ⟨ts, v0, e0, h0⟩ := rowB_of Tryz.underlying43 cofEt encEt (EtOk (n + 1)) (fun _ _ => rfl) (fun _ _ => ⟨_, rfl⟩) (fun m hm cs x hx => by
      obtain ⟨t, e, h1, h2⟩ := trod_et hx
      exact ⟨t, e, h1, h2.mono (by omega)⟩) f0
    obtain ⟨as', v1, e1, h1⟩ := rowB_of Tryz.underlying44 cofAc encAc (AcOk (n + 1)) (fun _ _ => rfl) (fun _ _ => ⟨_, rfl⟩) (fun m hm cs x hx => by
      obtain ⟨t, e, h1, h2⟩ := trod_ac hx
      exact ⟨t, e, h1, h2.mono (by omega)⟩) f1
    simp at e0 e1
    subst e0 e1
    exact ⟨ts, as', _, _, rfl, h0, h1⟩
set_option maxRecDepth 100000 in
theorem open_sc {r : Reach} {v : Value} {d : DataW H} {p : List MemPlace} (hv : Value.okWide Tryz.prog w r base 46 v) (h : DataW.Trod enc Tryz.prog w 0 spare held 46 v d p) : ∃ (n : Nat) (ts : List Et) (acs : List Ac) (vt va : Value), v = .agg #[vt, va] ∧ EtsAt n w ts vt ∧ AcsAt n w acs va := by
  obtain ⟨cs, rfl, -⟩ := okWide_struct Tryz.underlying46 hv
  obtain ⟨fuel, hf⟩ := h
  obtain ⟨ts, as', vt, va, he, h1, h2⟩ := trod_sc hf
  refine ⟨fuel, ts, as', vt, va, ?_, h1, h2⟩
  have : cs = #[vt, va] := by
    have h3 : cs.toList = [vt, va] := by
      rw [← he]; simp [Value.cells]
    exact Array.ext' h3
  rw [this]
end Go.Proofs.YtnenjgngahipdaaGreat
