/- What Actions tells stands in every store of a schema that may be. No condition. A region that draws its order: its first operations, which all others wait for, walked once in the order of the text, in a class of worlds; then the others, in whatever order. No condition. The reference's Whole says yes of lists of entities that are the same. No condition. The law ConformStores walked. No condition. ConformStores answers true at every schema and every list of entities. No condition. -/
import Derived.Test.YtnenjgngahipdaaGreatZCfRs
import Derived.Test.YtnenjgngahipdaaGreatZg40
import Derived.Test.YtnenjgngahipdaaGreatZg25
import Derived.Test.YtnenjgngahipdaaGreatZg00
import Derived.StillTail
import Derived.Deep.Quiet
import Derived.RegionTactic
import Derived.Test.YtnenjgngahipdaaGreatZg10
import Derived.Test.YtnenjgngahipdaaGreatZCfAw
import Derived.Test.YtnenjgngahipdaaGreatZg28
import Derived.Test.YtnenjgngahipdaaGreatZCfActR
import Derived.Test.YtnenjgngahipdaaGreatRows
import Derived.WalkKit
import Derived.ProofKit
import Derived.OpenShut
import Derived.ShutString
import Derived.ChangeOld
import Derived.Below
import Derived.WideKeyArgs
set_option linter.unusedVariables false
set_option linter.unusedSimpArgs false
set_option linter.unnecessarySimpa false
namespace Go.Proofs.YtnenjgngahipdaaGreat
open Go.RowKit
set_option linter.unusedVariables false
theorem storeS_acts {ts : List Et} {acs : List Ac} (h : (canE canD (actsE acs)).1 = 0) : storeS 60 ts acs (actsE acs) = 0 := by
  unfold storeS
  rw [if_pos h]
  obtain ⟨X, hX⟩ : ∃ X, X = (canE canD (actsE acs)).2 := ⟨_, rfl⟩
  have ha : ∀ e ∈ X, isAct e = true := fun e he => by
    rw [hX] at he
    obtain ⟨e0, h0, rfl, -⟩ := canE_mem h he
    unfold actsE at h0
    obtain ⟨a, -, rfl⟩ := List.mem_map.1 h0
    exact decide_eq_true rfl
  have hc : ∀ e ∈ X, Cn e.a := fun e he => canE_cn h (hX ▸ he)
  rw [← hX]
  have h1 : X.filter isAct = X := List.filter_eq_self.2 ha
  have h2 : (X.filter fun e => !isAct e) = [] := List.filter_eq_nil_iff.2 fun e he => by simp [ha e he]
  rw [h1, h2, (sameL_iff hc hc).2 rfl]
  simp
theorem acts_store (ts : List Et) (acs : List Ac) (rs : List Ee) (w : World) {vt va : Value} (v : Value) (h : EtAt w v rs) (he : ensOf rs = actsE acs) (ht : EtsAt 60 w ts vt) (hta : AcsAt 60 w acs va) (hs : SchOk ts acs) (hl : acs.length ≤ 300) (hin : ∀ a ∈ acs, a.ins.length ≤ 300) (X : World) (hX : Low w X) :
    Calls Tryz.prog 20 #[.agg #[vt, va], v] X fun e w' => e = .returned (.int .i64 0) ∧ Low X w' := by
  have := store_c 60 ts acs rs X vt va v (ht.low hX) (hta.low hX) (h.low hX) (by rw [he]; exact few_acts hl hin) (fun q hq => by
    have h1 := ens_mem hq
    rw [he] at h1
    rw [acts_a h1]; exact recV_sm) hs.t hl hin hs.can
  rw [he, storeS_acts hs.can] at this
  exact this
end Go.Proofs.YtnenjgngahipdaaGreat
namespace Go.Proofs.YtnenjgngahipdaaGreat
open Go
section
variable {P : Program} {ops : Array Oper} {md : Region.Mode} {C : World → Prop}
/-- Which operations have come up. -/
def marks : Nat → Nat → Array Bool → Array Bool
  | 0, _, l => l
  | f + 1, k, l => marks f (k + 1) (l.setIfInBounds k true)
def lexH (md : Region.Mode) (ops : Array Oper) : Nat → Nat → Array Bool → Bool
  | 0, _, _ => true
  | f + 1, k, listed => (Region.ready md ops listed).contains k && Region.free md ops listed k && lexH md ops f (k + 1) (listed.setIfInBounds k true)
def tailsB (md : Region.Mode) (ops : Array Oper) (n : Nat) : Bool :=
  (List.range ops.size).all fun t => decide (t ≤ n) || (List.range t).any fun s => decide (n ≤ s) && Region.waitsFor md ops t s
def headB (md : Region.Mode) (ops : Array Oper) (n : Nat) : Bool :=
  Region.noSelect ops && decide (0 < n) && decide (n < ops.size) && Region.sinkB md ops n && tailsB md ops n && lexH md ops n 0 (Array.replicate ops.size false) && (Region.ready md ops (marks n 0 (Array.replicate ops.size false))).all fun j => decide (n ≤ j)
theorem first_waits {n : Nat} {listed : Array Bool} (hs : Region.sinkB md ops n = true) (inv : HeadInv md ops n listed) (hn : n < ops.size) : ∀ (d i : Nat), n - i = d → i < n → listed.getD i true = false → n ∉ Region.ready md ops listed := by
  intro d
  induction d using Nat.strongRecOn with
  | _ d ih =>
    intro i hd hi hun
    have h1 := List.all_eq_true.1 hs i (List.mem_range.2 hi)
    obtain ⟨j, hj, hj2⟩ := List.any_eq_true.1 h1
    simp only [Bool.and_eq_true, decide_eq_true_eq] at hj2
    obtain ⟨oj, hoj, e, he, hb, hon⟩ := Region.waitsFor_spec hj2.2
    have hjle : j < n + 1 := List.mem_range.1 hj
    rcases Nat.lt_or_ge j n with hjn | hjn
    · cases hl : listed.getD j false with
      | true =>
        have h2 := inv.closed j oj hoj hl e he hb
        rw [hon, getD_both hun] at h2
        cases h2
      | false =>
        have hjs : j < listed.size := by rw [inv.size]; omega
        exact ih (n - j) (by omega) j rfl hjn (getD_in hjs hl)
    · obtain rfl : j = n := by omega
      intro hr
      obtain ⟨_, ot, hot, hall⟩ := mem_ready.1 hr
      have : oj = ot := Option.some.inj (hoj.symm.trans hot)
      subst this
      have h2 := hall e he hb
      rw [hon, getD_both hun] at h2
      cases h2
theorem tail_later {n : Nat} {listed : Array Bool} (hs : Region.sinkB md ops n = true) (ht : tailsB md ops n = true) (hn : n < ops.size) (inv : HeadInv md ops n listed) {i : Nat} (hi : i < n) (hun : listed.getD i true = false) : ∀ t, n ≤ t → t ∉ Region.ready md ops listed := by
  intro t hnt hr
  rcases Nat.lt_or_ge n t with hlt | hge
  · obtain ⟨_, ot, hot, hall⟩ := mem_ready.1 hr
    have htlt : t < ops.size := (Array.getElem?_eq_some_iff.1 hot).1
    have h1 := List.all_eq_true.1 ht t (List.mem_range.2 htlt)
    simp only [Bool.or_eq_true, decide_eq_true_eq] at h1
    rcases h1 with h1 | h1
    · omega
    · obtain ⟨s, hs1, hs2⟩ := List.any_eq_true.1 h1
      simp only [Bool.and_eq_true, decide_eq_true_eq] at hs2
      obtain ⟨o', ho', e, he, hb, hon⟩ := Region.waitsFor_spec hs2.2
      have : o' = ot := Option.some.inj (ho'.symm.trans hot)
      subst this
      have h2 := hall e he hb
      have hst := List.mem_range.1 hs1
      rw [hon, getD_both (inv.tail s hs2.1 (by omega))] at h2
      cases h2
  · obtain rfl : t = n := by omega
    exact first_waits hs inv hn _ i rfl hi hun hr
/-- Whatever order is picked, till the first n have come up. -/
def wpAnyQL (P : Program) (md : Region.Mode) (ops : Array Oper) (C : World → Prop) (n : Nat) (L : Array Bool → Act → Prop) : Nat → Array Bool → Act → Prop
  | 0, listed, a => L listed a
  | f + 1, listed, a => Region.ready md ops listed ≠ [] ∧ ∀ i ∈ Region.ready md ops listed, i < n ∧ qOp P ops C i (wpAnyQL P md ops C n L f (listed.setIfInBounds i true)) a
theorem wpAny_of_headQ {n g : Nat} {L : Array Bool → Act → Prop} {Q' : Exit → Act → World → Prop} (hL : ∀ listed a w, C w → L listed a → wpAny P md ops Q' g listed a w) :
    ∀ (f : Nat) (listed : Array Bool) (a : Act) (w : World), C w → wpAnyQL P md ops C n L f listed a → wpAny P md ops Q' (f + g) listed a w
  | 0, listed, a, w, hw, h => by rw [Nat.zero_add]; exact hL _ _ _ hw h
  | f + 1, listed, a, w, hw, h => by
    rw [show f + 1 + g = (f + g) + 1 by omega]
    exact ⟨fun h0 => absurd h0 h.1, fun i hi => wpOp_of_qOp hw (fun a' w' hw' h' => wpAny_of_headQ hL f _ a' w' hw' h') (h.2 i hi).2⟩
theorem wpAnyQL_first {n i : Nat} {oi : Oper} {v : Value} {L : Array Bool → Act → Prop} (hi : ops[i]? = some oi) (hsel : ∀ (j : Nat) (o : Oper) cs b, ops[j]? = some o → o.op ≠ .select cs b)
    (hs : Region.sinkB md ops n = true) (hc : tailsB md ops n = true) (hn : n < ops.size) (hin : i < n)
    (hdone : ∀ listed a, L listed a → ∀ j ∈ Region.ready md ops listed, n ≤ j) :
    ∀ (f : Nat) (listed : Array Bool) (a : Act), HeadInv md ops n listed →
      (∀ j oj, ops[j]? = some oj → j ≠ i → listed.getD j true = false → (∀ e ∈ oj.after, Region.binds md e = true → e.on ≠ i) → oi.apart ops oj = true) →
      i ∈ Region.ready md ops listed → YieldsIn P ops C oi v a →
      wpAnyQL P md ops C n L f (listed.setIfInBounds i true) (a.put oi.dst v) → wpAnyQL P md ops C n L (f + 1) listed a := by
  intro f
  induction f with
  | zero =>
    intro listed a inv _ hr hy H
    have hun := (mem_ready.1 hr).1
    refine ⟨fun h => (by rw [h] at hr; cases hr), fun j hj => ?_⟩
    have hjn : j < n := by
      rcases Nat.lt_or_ge j n with h | h
      · exact h
      · exact absurd hj (tail_later hs hc hn inv hin hun j h)
    refine ⟨hjn, ?_⟩
    by_cases hji : j = i
    · subst hji; exact hy.qOp hi H
    · have := hdone _ _ H j (ready_mono hj hji)
      omega
  | succ f ih =>
    intro listed a inv hfree hr hy H
    have hun := (mem_ready.1 hr).1
    refine ⟨fun h => (by rw [h] at hr; cases hr), fun j hj => ?_⟩
    have hjn : j < n := by
      rcases Nat.lt_or_ge j n with h | h
      · exact h
      · exact absurd hj (tail_later hs hc hn inv hin hun j h)
    refine ⟨hjn, ?_⟩
    by_cases hji : j = i
    · subst hji; exact hy.qOp hi H
    · have h1 := (H.2 j (ready_mono hj hji)).2
      obtain ⟨hjun, oj, hoj, hall⟩ := mem_ready.1 hj
      have hnot : ∀ e ∈ oj.after, Region.binds md e = true → e.on ≠ i := fun e he hb heq => by
        have h1 := hall e he hb
        rw [heq, getD_both hun] at h1
        cases h1
      have h2 := qOp_put hoj (hfree j oj hoj hji hjun hnot) (fun cs b => hsel i oi cs b hi) (fun cs b => hsel j oj cs b hoj) hy h1
      have hfree' : ∀ k ok, ops[k]? = some ok → k ≠ i → (listed.setIfInBounds j true).getD k true = false →
          (∀ e ∈ ok.after, Region.binds md e = true → e.on ≠ i) → oi.apart ops ok = true := fun k ok hk hki hun hno => by
        refine hfree k ok hk hki ?_ hno
        by_cases hjk : j = k
        · subst hjk; exact hjun
        · rw [getD_set_ne true hjk] at hun; exact hun
      refine qOp_mono (fun a' h3 => ih (listed.setIfInBounds j true) a' (inv.set hj hjn) hfree' (ready_mono hr (Ne.symm hji)) h3.1 ?_) h2
      rw [Array.setIfInBounds_comm _ _ hji]
      exact h3.2
theorem wpAnyQL_lex {n : Nat} {Lq : Act → Prop} (hsel : Region.noSelect ops = true) (hs : Region.sinkB md ops n = true) (hc : tailsB md ops n = true) (hn : n < ops.size) :
    ∀ (l : List Oper) (k : Nat) (listed : Array Bool) (a : Act), (∀ j ∈ Region.ready md ops (marks l.length k listed), n ≤ j) → (∀ j, j < l.length → l[j]? = ops[k + j]?) → k + l.length = n → HeadInv md ops n listed →
    lexH md ops l.length k listed = true → wpQuiet P ops C Lq l a →
    wpAnyQL P md ops C n (fun listed' a' => listed' = marks l.length k listed ∧ Lq a') l.length listed a
  | [], k, listed, a, _, _, _, _, _, h => ⟨rfl, h⟩
  | o :: l, k, listed, a, hd, hl, hk, inv, hB, h => by
    have h0 : ops[k]? = some o := by simpa using (hl 0 (by simp)).symm
    simp only [List.length_cons, lexH, Bool.and_eq_true] at hB
    obtain ⟨⟨hr, hf⟩, hB'⟩ := hB
    have hkn : k < n := by simp only [List.length_cons] at hk; omega
    have hr' : k ∈ Region.ready md ops listed := by simpa using hr
    have hst : qOp P ops C k (wpQuiet P ops C Lq l) a := by unfold qOp; simp only [h0]; exact h
    obtain ⟨v, hy, hK⟩ := yieldsIn_of_qOp h0 hst
    exact wpAnyQL_first h0 (Region.noSelect_spec hsel) hs hc hn hkn (fun listed' a' hL j hj => hd j (by rw [hL.1] at hj; exact hj)) l.length listed a inv (Region.free_spec h0 hf) hr' hy
      (wpAnyQL_lex hsel hs hc hn l (k + 1) _ _ hd (fun j hj => by have := hl (j + 1) (by simp; omega); simpa [Nat.add_assoc, Nat.add_comm 1 j] using this) (by simp only [List.length_cons] at hk; omega) (inv.set hr' hkn) hB' hK)
theorem wp_region_head {id : Nat} {Q : Exit → Act → World → Prop} {a : Act} {w : World} {l : List Oper} (n : Nat) (hm : P.follows .mixedOrders = true) (hB : headB .any l.toArray n = true) (hC : C w.drew)
    (h : wpQuiet P l.toArray C (fun a' => ∀ w', C w' → wpAny P .any l.toArray Q (l.length - n) (marks n 0 (Array.replicate l.length false)) a' w') (l.take n) a) : (Code.region id l.toArray true).wp P Q a w := by
  simp only [headB, Bool.and_eq_true, decide_eq_true_eq] at hB
  obtain ⟨⟨⟨⟨⟨⟨hsel, hn0⟩, hn⟩, hs⟩, hc⟩, hlex⟩, hd⟩ := hB
  have hn' : n ≤ l.length := Nat.le_of_lt (by simpa using hn)
  have htl : (l.take n).length = n := by simp; omega
  have inv0 : HeadInv .any l.toArray n (Array.replicate l.toArray.size false) :=
    ⟨by simp, fun j oj _ hl => (by rw [getD_replicate_false] at hl; cases hl), fun t _ ht => getD_in (by simpa using ht) (getD_replicate_false _ _)⟩
  have hd' : ∀ j ∈ Region.ready .any l.toArray (marks (l.take n).length 0 (Array.replicate l.toArray.size false)), n ≤ j := fun j hj => by
    rw [htl] at hj
    simpa using List.all_eq_true.1 hd j hj
  have H := wpAnyQL_lex (md := .any) hsel hs hc hn (l.take n) 0 _ a hd' (fun j hj => by
    have hj' : j < n := by rw [htl] at hj; exact hj
    simp [hj']) (by simpa using htl) inv0 (by rw [htl]; exact hlex) h
  refine wp_region_any hm ?_
  have := wpAny_of_headQ (Q' := Q) (g := l.length - n) (fun listed a' w' hw' hL => by
    rw [hL.1, htl]
    simpa using hL.2 w' hw') _ _ _ _ hC H
  rw [htl, show n + (l.length - n) = l.length by omega] at this
  simpa using this
end
end Go.Proofs.YtnenjgngahipdaaGreat
namespace Go.Proofs.YtnenjgngahipdaaGreat
open Go.RowKit Go.Sort
theorem ent_cells {w : World} {b o : Nat} {u : Us} {ps : List Us} {v : V} {ap ai an : Option Addr} {cp ci cn : Nat} (h : CellsAtv w b o (Ee.mk ⟨u, ps, v⟩ ap cp ai ci an cn).sh.cs) :
    w.cell? ⟨b, o, none⟩ = some (.string u.t) ∧ w.cell? ⟨b, o + 1, none⟩ = some (.string u.i) ∧ w.cell? ⟨b, o + 2, none⟩ = some (.slice ap ps.length cp) ∧ w.cell? ⟨b, o + 3, none⟩ = some (.int .i64 v.h.k) ∧
    w.cell? ⟨b, o + 4, none⟩ = some (.bool v.h.b) ∧ w.cell? ⟨b, o + 5, none⟩ = some (.int .i64 v.h.n) ∧ w.cell? ⟨b, o + 6, none⟩ = some (.string v.h.s) ∧ w.cell? ⟨b, o + 7, none⟩ = some (.string v.h.t) ∧
    w.cell? ⟨b, o + 8, none⟩ = some (.string v.h.i) ∧ w.cell? ⟨b, o + 9, none⟩ = some (.slice ai v.l.length ci) ∧ w.cell? ⟨b, o + 10, none⟩ = some (.slice an v.ns.length cn) := cells11 h
set_option maxHeartbeats 4000000 in
set_option maxRecDepth 100000 in
theorem wholeE_c (xs ys : List Ee) (w : World) (ra rb : Value) (hA : EtAt w ra xs) (hB : EtAt w rb ys) (heq : ensOf xs = ensOf ys) : Calls Tryz.prog 22 #[ra, rb] w fun e w' => e = .returned (.bool true) ∧ Gr w w' := by
  have hlen : ys.length = xs.length := by have := congrArg List.length heq; simpa [ensOf] using this.symm
  have hel : ∀ j (h1 : j < xs.length) (h2 : j < ys.length), ys[j].e = xs[j].e := fun j h1 h2 => by
    have h3 : (ensOf xs)[j]? = (ensOf ys)[j]? := by rw [heq]
    unfold ensOf at h3
    simp [h1, h2] at h3
    exact h3.symm
  obtain ⟨ao, c, rfl, ⟨hlc, hc9⟩, hx⟩ := hA.at
  obtain ⟨bo, d, rfl, ⟨hld, hd9⟩, hy⟩ := hB.at
  rw [hlen] at hld ⊢
  have HX := Lib.hid hx
  have HY := Lib.hid hy
  have OA := Lib.hid hA.2
  have OB := Lib.hid hB.2
  have HEL := Lib.hid hel
  have HLN := Lib.hid hlen
  clear hx hy hA hB hel hlen heq
  obtain ⟨N, hN⟩ : ∃ N, N = xs.length := ⟨_, rfl⟩
  rw [← hN] at hlc hld ⊢
  have HN := Lib.hid hN
  clear hN
  go_enter Tryz.func22, Tryz.ntmps22
  go_wp2_with fail
  go_loopg [5] N (fun gk vi wr => ∃ j : Nat, vi = .int .i64 (j : Int) ∧ j ≤ N ∧ N - j ≤ gk ∧ Hid (Gr w wr))
  case atStart => exact ⟨0, rfl, Nat.zero_le _, Nat.le_refl _, Lib.hid (Gr.refl _)⟩
  case round =>
    obtain ⟨j, rfl, hj, hg, G⟩ := hrel
    by_cases hlt : j < N
    · have zl : (j : Int) < (N : Int) := by omega
      have h1 : j < xs.length := by rw [← HN.out]; exact hlt
      have h2 : j < ys.length := by rw [HLN.out]; exact h1
      obtain ⟨b, o, rfl, hcs⟩ := HX.out j h1
      obtain ⟨b', o', rfl, hcs'⟩ := HY.out j h2
      have q1 := OA.out xs[j] (List.getElem_mem h1)
      have q2 := OB.out ys[j] (List.getElem_mem h2)
      have hee := HEL.out j h1 h2
      obtain ⟨q, hq⟩ : ∃ q, xs[j] = q := ⟨_, rfl⟩
      obtain ⟨q', hq'⟩ : ∃ q, ys[j] = q := ⟨_, rfl⟩
      rw [hq] at hcs q1 hee
      rw [hq'] at hcs' q2 hee
      obtain ⟨⟨u, ps, v⟩, ap, cp, ai, ci, an, cn⟩ := q
      obtain ⟨⟨u', ps', v'⟩, ap', cp', ai', ci', an', cn'⟩ := q'
      simp only [En.mk.injEq] at hee
      obtain ⟨rfl, rfl, rfl⟩ := hee
      obtain ⟨e0, e1, e2, e3, e4, e5, e6, e7, e8, e9, e10⟩ := ent_cells (G.out.low.cells hcs)
      obtain ⟨d0, d1, d2, d3, d4, d5, d6, d7, d8, d9, d10⟩ := ent_cells (G.out.low.cells hcs')
      obtain ⟨ap1, cp1, hv1, ⟨hp1, hp2⟩, hx1⟩ := q1.1.any
      obtain ⟨ap2, cp2, hv2, ⟨hp3, hp4⟩, hx2⟩ := q2.1.any
      change Value.slice ap ps'.length cp = _ at hv1
      change Value.slice ap' ps'.length cp' = _ at hv2
      simp only [Value.slice.injEq] at hv1 hv2
      obtain ⟨rfl, -, rfl⟩ := hv1
      obtain ⟨rfl, -, rfl⟩ := hv2
      have U1 := Lib.hid hx1
      have U2 := Lib.hid hx2
      have HC1 := Lib.hid hcs
      have HC2 := Lib.hid hcs'
      clear hx1 hx2
      have hcon := whole_c v' v'
      unfold WhC at hcon
      rw [← eqB_true (rfl : v' = v')] at hcon
      unfold avv at hcon
      have HC := Lib.hid hcon
      have R1 := Lib.hid (show R wr v' (.slice ai v'.l.length ci) (.slice an v'.ns.length cn) from q1.2.low G.out.low)
      have R2 := Lib.hid (show R wr v' (.slice ai' v'.l.length ci') (.slice an' v'.ns.length cn') from q2.2.low G.out.low)
      have G1 := Lib.hid G.out.drew
      clear hcon hcs hcs' q1 q2 hq hq'
      go_wp2_with fail
      go_region_held3 (fun w' => w'.cell? ⟨b, o + j * 11 + 3, none⟩ = some (.int .i64 v'.h.k) ∧ w'.cell? ⟨b, o + j * 11 + 4, none⟩ = some (.bool v'.h.b) ∧ w'.cell? ⟨b, o + j * 11 + 5, none⟩ = some (.int .i64 v'.h.n) ∧ w'.cell? ⟨b, o + j * 11 + 6, none⟩ = some (.string v'.h.s) ∧ w'.cell? ⟨b, o + j * 11 + 7, none⟩ = some (.string v'.h.t) ∧ w'.cell? ⟨b, o + j * 11 + 8, none⟩ = some (.string v'.h.i) ∧ w'.cell? ⟨b, o + j * 11 + 9, none⟩ = some (.slice ai v'.l.length ci) ∧ w'.cell? ⟨b, o + j * 11 + 10, none⟩ = some (.slice an v'.ns.length cn) ∧ w'.cell? ⟨b', o' + j * 11 + 3, none⟩ = some (.int .i64 v'.h.k) ∧ w'.cell? ⟨b', o' + j * 11 + 4, none⟩ = some (.bool v'.h.b) ∧ w'.cell? ⟨b', o' + j * 11 + 5, none⟩ = some (.int .i64 v'.h.n) ∧ w'.cell? ⟨b', o' + j * 11 + 6, none⟩ = some (.string v'.h.s) ∧ w'.cell? ⟨b', o' + j * 11 + 7, none⟩ = some (.string v'.h.t) ∧ w'.cell? ⟨b', o' + j * 11 + 8, none⟩ = some (.string v'.h.i) ∧ w'.cell? ⟨b', o' + j * 11 + 9, none⟩ = some (.slice ai' v'.l.length ci') ∧ w'.cell? ⟨b', o' + j * 11 + 10, none⟩ = some (.slice an' v'.ns.length cn')) (go_keep) (first
        | (go_at_call 53; refine (HC.out _ _ _ _ _ (R1.out.low (Gr.refl _).drew.low) (R2.out.low (Gr.refl _).drew.low)).mono ?_; rintro e w1 ⟨rfl, g⟩; have e0 := g.cell e0; have d0 := g.cell d0; have e1 := g.cell e1; have d1 := g.cell d1; have e2 := g.cell e2; have d2 := g.cell d2; have e3 := g.cell e3; have d3 := g.cell d3; have e4 := g.cell e4; have d4 := g.cell d4; have e5 := g.cell e5; have d5 := g.cell d5; have e6 := g.cell e6; have d6 := g.cell d6; have e7 := g.cell e7; have d7 := g.cell d7; have e8 := g.cell e8; have d8 := g.cell d8; have e9 := g.cell e9; have d9 := g.cell d9; have e10 := g.cell e10; have d10 := g.cell d10; have G2 := Lib.hid (G1.out.trans g)))
      go_wp2_with fail
      go_quiet (fail)
      have G3 := Lib.hid (G2.out.drewN nq)
      obtain ⟨W3, hW3⟩ : ∃ W, W = w1.drewN nq := ⟨_, rfl⟩
      rw [← hW3] at G3 ⊢
      clear hW3 e0 d0 e1 d1 e2 d2 e3 d3 e4 d4 e5 d5 e6 d6 e7 d7 e8 d8 e9 d9 e10 d10
      go_wp2_with fail
      go_loopg [7] ps'.length (fun gj vj wi => ∃ x : Nat, vj = .int .i64 (x : Int) ∧ x ≤ ps'.length ∧ ps'.length - x ≤ gj ∧ Hid (Gr w wi))
      case atStart => exact ⟨0, rfl, Nat.zero_le _, Nat.le_refl _, G3⟩
      case round =>
        obtain ⟨x, rfl, hx, hgx, GI⟩ := hrel
        obtain ⟨e0, e1, e2, e3, e4, e5, e6, e7, e8, e9, e10⟩ := ent_cells (GI.out.low.cells HC1.out)
        obtain ⟨d0, d1, d2, d3, d4, d5, d6, d7, d8, d9, d10⟩ := ent_cells (GI.out.low.cells HC2.out)
        by_cases hlx : x < ps'.length
        · have zx : (x : Int) < (ps'.length : Int) := by omega
          obtain ⟨b1, o1, rfl, hk1⟩ := U1.out x hlx
          obtain ⟨b2, o2, rfl, hk2⟩ := U2.out x hlx
          obtain ⟨a0, a1⟩ := cells2 (GI.out.low.cells hk1)
          obtain ⟨c0, c1⟩ := cells2 (GI.out.low.cells hk2)
          clear hk1 hk2
          go_wp2_with fail
          go_quiet (fail)
          have G4 := Lib.hid (GI.out.drewN nq)
          clear e0 d0 e1 d1 e2 d2 e3 d3 e4 d4 e5 d5 e6 d6 e7 d7 e8 d8 e9 d9 e10 d10 a0 a1 c0 c1
          go_wp2_with fail
          go_roundg (ps'.length - (x + 1))
          case measure => omega
          case rel => exact ⟨x + 1, by go_num, by omega, by omega, G4⟩
        · have zx : ¬ (x : Int) < (ps'.length : Int) := by omega
          go_wp2_with fail
          go_roundg (N - (j + 1))
          case measure => omega
          case rel => exact ⟨j + 1, by go_num, by omega, by omega, GI⟩
    · have zl : ¬ (j : Int) < (N : Int) := by omega
      go_wp2_with fail
      go_ret
      exact ⟨rfl, G.out⟩
end Go.Proofs.YtnenjgngahipdaaGreat
namespace Go.Proofs.YtnenjgngahipdaaGreat
open Go.RowKit
set_option linter.unusedVariables false
set_option maxHeartbeats 25600000 in
set_option maxRecDepth 100000 in
theorem conformStores_v (n : Nat) (ts : List Et) (acs : List Ac) (qs : List Ee) (w : World) (vt va vl : Value) (h : EtsAt n w ts vt) (h2 : AcsAt n w acs va) (hq : EtAt w vl qs) :
    Calls Tryz.prog 4 #[.agg #[vt, va], vl] w fun e w' => e = .returned (.bool true) ∧ Low w w' := by
  obtain ⟨p, c, rfl, z1, z2⟩ := RowB.sl h
  obtain ⟨p2, c2, rfl, y1, y2⟩ := RowB.sl h2
  obtain ⟨p3, c3, rfl, -, -⟩ := EtAt.at hq
  obtain ⟨U, hU⟩ : ∃ U, U = w.alloc (.cells #[.slice p ts.length c, .slice p2 acs.length c2] 46) := ⟨_, rfl⟩
  have LU := Lib.hid (show Low w U by rw [hU]; exact low_new (Low.refl w) _)
  have BS := Lib.hid (BoxAt.made (cs := [.slice p ts.length c, .slice p2 acs.length c2]) hU rfl rfl)
  have HU := Lib.hid hU
  have HT := Lib.hid h
  have HA := Lib.hid h2
  have HQ := Lib.hid hq
  have HAw := Lib.hid (awake13_c U)
  clear h h2 hq hU
  go_enter Tryz.func4, Tryz.ntmps4
  go_upto_region 1 with fail
  rw [← HU.out]
  clear HU
  go_wp2_with fail
  refine HAw.out.mono ?_
  rintro e w1 ⟨rfl, k1⟩
  have L1 := Lib.hid k1
  have CS := Lib.hid (sized_c n ts acs w1 _ _ (HT.out.low (LU.out.trans k1)) (HA.out.low (LU.out.trans k1)))
  have g0 := (BS.out.low L1.out).at 0 _ rfl
  have g1 := (BS.out.low L1.out).at 1 _ rfl
  clear k1 HAw
  go_wp2_with fail
  refine CS.out.mono ?_
  rintro e w2 ⟨a, rfl, ha, k2⟩
  have L2 := Lib.hid (L1.out.trans k2)
  have HSA := Lib.hid ha
  clear ha k2 CS g0 g1
  have CL := Lib.hid (crowd_c qs w2 _ (HQ.out.low (LU.out.trans L2.out)))
  go_wp2_with fail
  refine CL.out.mono ?_
  rintro e w3 ⟨b, rfl, hb, g3⟩
  have L3 := Lib.hid (L2.out.trans g3.low)
  have HSB := Lib.hid hb
  clear hb g3 CL
  cases a with
  | false =>
    go_wp2_with fail
    go_ret
    exact ⟨rfl, LU.out.trans L3.out⟩
  | true =>
  cases b with
  | false =>
    go_wp2_with fail
    go_ret
    exact ⟨rfl, LU.out.trans L3.out⟩
  | true =>
  have HSZ := Lib.hid (HSA.out rfl)
  have HCR := Lib.hid (HSB.out rfl)
  clear HSA HSB
  have ET := Lib.hid (show EtsAt 60 w ts (.slice p ts.length c) from ets_re HSZ.out HT.out)
  have EA := Lib.hid (show AcsAt 60 w acs (.slice p2 acs.length c2) from acs_re HSZ.out HA.out)
  clear HT HA
  have CK := Lib.hid (rcheck12_c 60 (by omega) ts acs w3 _ _ (sz_g2 HSZ.out) (ET.out.low (LU.out.trans L3.out)) (EA.out.low (LU.out.trans L3.out)))
  obtain ⟨c1, hc1⟩ : ∃ x, x = chkS 60 ts acs := ⟨_, rfl⟩
  rw [← hc1] at CK
  have HC1 := Lib.hid hc1
  clear hc1
  have g0 := (BS.out.low L3.out).at 0 _ rfl
  have g1 := (BS.out.low L3.out).at 1 _ rfl
  go_wp2_with fail
  refine CK.out.mono ?_
  rintro e w4 ⟨rfl, k4⟩
  have L4 := Lib.hid (LU.out.trans (L3.out.trans k4))
  have BS4 := Lib.hid (BS.out.low (L3.out.trans k4))
  clear k4 CK g0 g1
  by_cases h1 : c1 = 0
  case neg =>
    have hb2 : (c1 != 0) = true := by simp [h1]
    have hb3 : decide (c1 = 0) = false := decide_eq_false h1
    have hb := beq_fv h1
    go_wp2_with fail
    go_ret
    exact ⟨rfl, L4.out⟩
  case pos =>
  have HSO := Lib.hid (sch_ok (by have := HSZ.out.a; omega) (HC1.out.symm.trans h1))
  subst h1
  have HL := Lib.hid (show acs.length ≤ 300 by have := HSZ.out.a; omega)
  have HIN := Lib.hid (show ∀ a ∈ acs, a.ins.length ≤ 300 from fun a ha => Nat.le_trans (HSZ.out.as' a ha).2.1 (by omega))
  have HL9 := Lib.hid (show acs.length ≤ 1000 by have := HSZ.out.a; omega)
  have HIN9 := Lib.hid (show ∀ a ∈ acs, a.ins.length ≤ 1000 from fun a ha => Nat.le_trans (HSZ.out.as' a ha).2.1 (by omega))
  have CA := Lib.hid (acts_c 60 acs w4 (.slice p ts.length c) _ HL9.out HIN9.out (EA.out.low L4.out))
  have g0 := BS4.out.at 0 _ rfl
  have g1 := BS4.out.at 1 _ rfl
  go_wp2_with fail
  refine CA.out.mono ?_
  rintro e w5 ⟨v1, rs, rfl, o1, k1, e1, l5⟩
  have L5 := Lib.hid (L4.out.trans l5)
  have BS5 := Lib.hid (BS4.out.low l5)
  have E1 := Lib.hid (show EtAt w5 v1 rs from ⟨o1.esAt, fun p hp => (k1 p hp).to fun b _ _ => ⟨trivial, rfl⟩⟩)
  have EN := Lib.hid e1
  clear o1 k1 e1 l5 g0 g1 CA
  have HF := Lib.hid (show FewE (ensOf qs) from ⟨by have := HCR.out.1; simp [ensOf]; omega, fun e he => by
    unfold ensOf at he
    obtain ⟨q, hq, rfl⟩ := List.mem_map.1 he
    exact Nat.le_trans (HCR.out.2 q hq).2.2 (by omega)⟩)
  have HS := Lib.hid (show ∀ q ∈ qs, Smv q.e.a from fun q hq => (HCR.out.2 q hq).1)
  have HD := Lib.hid (show ∀ q ∈ qs, dep q.e.a ≤ 1000000 from fun q hq => Nat.le_trans (HCR.out.2 q hq).2.1 (by omega))
  have C1 := Lib.hid fun x : InL w5 => Calls.low x (store_c 60 ts acs qs x.w _ _ _ (ET.out.low (L5.out.trans x.ok)) (EA.out.low (L5.out.trans x.ok)) (HQ.out.low (L5.out.trans x.ok)) HF.out HS.out HSO.out.t HL.out HIN.out HSO.out.can)
  have C2 := Lib.hid fun x : InL w5 => Calls.low x (rstore_c 60 ts acs qs x.w _ _ _ (ET.out.low (L5.out.trans x.ok)) (EA.out.low (L5.out.trans x.ok)) (HQ.out.low (L5.out.trans x.ok)) HF.out HS.out HD.out HSO.out.t HL.out HIN.out HSO.out.can)
  have ST := Lib.hid (acts_store ts acs rs w5 v1 E1.out EN.out (ET.out.low L5.out) (EA.out.low L5.out) HSO.out HL.out HIN.out)
  obtain ⟨r, hr⟩ : ∃ r, r = storeS 60 ts acs (ensOf qs) := ⟨_, rfl⟩
  rw [← hr] at C1 C2
  clear hr
  have rr : (r == r) = true := by simp
  haveI := InL.some w5
  have g0 := fun q : InL w5 => q.cell (BS5.out.at 0 _ rfl)
  have g1 := fun q : InL w5 => q.cell (BS5.out.at 1 _ rfl)
  go_upto_region 9 with fail
  refine wp_region_head (C := fun w' => ∃ q : InL w5, w' = q.w) 7 mixedT (by kernel_rfl) ⟨⟨w5.drew, low_drew (Low.refl w5)⟩, rfl⟩ ?_
  simp only [List.take_succ_cons, List.take_zero]
  repeat (go_big_quiet_step (first | with_reducible exact C1.out _ | with_reducible exact C2.out _))
  refine wpQuiet_nil ?_
  rintro w9 ⟨p9, hW9⟩
  have L59 := Lib.hid (show Low w5 w9 by rw [hW9]; exact p9.ok)
  have L9 := Lib.hid (L5.out.trans L59.out)
  clear hW9 p9 g0 g1 C1 C2 this
  have BS9 := Lib.hid (BS5.out.low L59.out)
  have E1 := Lib.hid (E1.out.low L59.out)
  have ST := Lib.hid (fun X (hX : Low w9 X) => ST.out X (L59.out.trans hX))
  have RA := Lib.hid (racts_c 60 acs w9 (.slice p ts.length c) _ HL9.out HIN9.out (EA.out.low L9.out))
  have g0 := BS9.out.at 0 _ rfl
  have g1 := BS9.out.at 1 _ rfl
  refine wpAny_ready (fuel := 12) (rs := [7]) (by kernel_rfl) (by simp) ?_
  refine AllReady.cons rfl (fun K hK => ?_) ?_
  · go_simp; refine hK _ _ ?_; clear hK K; refine wpAny_ready (fuel := 11) (rs := [8, 9]) (by kernel_rfl) (by simp) ?_
    refine AllReady.cons rfl (fun K hK => ?_) ?_
    · go_simp; refine hK _ _ ?_; clear hK K; refine wpAny_ready (fuel := 10) (rs := [9]) (by kernel_rfl) (by simp) ?_
      refine AllReady.cons rfl (fun K hK => ?_) ?_
      · go_simp; refine hK _ _ ?_; clear hK K; refine wpAny_ready (fuel := 9) (rs := [10]) (by kernel_rfl) (by simp) ?_
        refine AllReady.cons rfl (fun K hK => ?_) ?_
        · go_simp
          go_at_call 23
          (with_reducible refine RA.out.mono ?_); rintro e w10 ⟨v2, rs2, rfl, o2, k2, e2, l2⟩; have L10 := Lib.hid (show Low w9 w10 from l2); have E2 := Lib.hid (show EtAt w10 v2 rs2 from ⟨o2.esAt, fun p hp => (k2 p hp).to fun b _ _ => ⟨trivial, rfl⟩⟩); have EE := Lib.hid (show ensOf rs = ensOf rs2 from EN.out.trans e2.symm); clear o2 k2 e2 l2; try go_simp
          try (refine hK _ _ ?_; clear hK K); refine wpAny_ready (fuel := 8) (rs := [11]) (by kernel_rfl) (by simp) ?_
          refine AllReady.cons rfl (fun K hK => ?_) ?_
          · go_simp
            go_at_call 22
            (with_reducible refine (wholeE_c rs rs2 w10 v1 v2 (E1.out.low L10.out) E2.out EE.out).mono ?_); rintro e w11 ⟨rfl, g11⟩; have L11 := Lib.hid (L10.out.trans g11.low); clear g11; have SC := Lib.hid (ST.out w11 L11.out); have g0 := (BS9.out.low L11.out).at 0 _ rfl; have g1 := (BS9.out.low L11.out).at 1 _ rfl; try go_simp
            try (refine hK _ _ ?_; clear hK K); refine wpAny_ready (fuel := 7) (rs := [12]) (by kernel_rfl) (by simp) ?_
            refine AllReady.cons rfl (fun K hK => ?_) ?_
            · go_simp; refine hK _ _ ?_; clear hK K; refine wpAny_ready (fuel := 6) (rs := [13]) (by kernel_rfl) (by simp) ?_
              refine AllReady.cons rfl (fun K hK => ?_) ?_
              · go_simp; refine hK _ _ ?_; clear hK K; refine wpAny_ready (fuel := 5) (rs := [14, 15]) (by kernel_rfl) (by simp) ?_
                refine AllReady.cons rfl (fun K hK => ?_) ?_
                · go_simp; refine hK _ _ ?_; clear hK K; refine wpAny_ready (fuel := 4) (rs := [15]) (by kernel_rfl) (by simp) ?_
                  refine AllReady.cons rfl (fun K hK => ?_) ?_
                  · go_simp; refine hK _ _ ?_; clear hK K; refine wpAny_ready (fuel := 3) (rs := [16]) (by kernel_rfl) (by simp) ?_
                    refine AllReady.cons rfl (fun K hK => ?_) ?_
                    · go_simp
                      go_at_call 20
                      (with_reducible refine SC.out.mono ?_); rintro e w16 ⟨rfl, l16⟩; have L16 := Lib.hid (L11.out.trans l16); clear l16; try go_simp
                      try (refine hK _ _ ?_; clear hK K); refine wpAny_ready (fuel := 2) (rs := [17]) (by kernel_rfl) (by simp) ?_
                      refine AllReady.cons rfl (fun K hK => ?_) ?_
                      · go_simp; refine hK _ _ ?_; clear hK K; refine wpAny_ready (fuel := 1) (rs := [18]) (by kernel_rfl) (by simp) ?_
                        refine AllReady.cons rfl (fun K hK => ?_) ?_
                        · go_simp; refine hK _ _ ?_; clear hK K; refine wpAny_ready (fuel := 0) (rs := [19]) (by kernel_rfl) (by simp) ?_
                          refine AllReady.cons rfl (fun K hK => ?_) ?_
                          · go_simp; refine hK _ _ ?_; clear hK K
                            refine wpAny_done (by kernel_rfl) ?_ _
                            go_wp2_with fail
                            go_ret
                            exact ⟨rfl, L9.out.trans L16.out⟩
                          exact AllReady.nil
                        exact AllReady.nil
                      exact AllReady.nil
                    exact AllReady.nil
                  exact AllReady.nil
                refine AllReady.cons rfl (fun K hK => ?_) ?_
                · go_simp; refine hK _ _ ?_; clear hK K; refine wpAny_ready (fuel := 4) (rs := [14]) (by kernel_rfl) (by simp) ?_
                  refine AllReady.cons rfl (fun K hK => ?_) ?_
                  · go_simp; refine hK _ _ ?_; clear hK K; refine wpAny_ready (fuel := 3) (rs := [16]) (by kernel_rfl) (by simp) ?_
                    refine AllReady.cons rfl (fun K hK => ?_) ?_
                    · go_simp
                      go_at_call 20
                      (with_reducible refine SC.out.mono ?_); rintro e w16 ⟨rfl, l16⟩; have L16 := Lib.hid (L11.out.trans l16); clear l16; try go_simp
                      try (refine hK _ _ ?_; clear hK K); refine wpAny_ready (fuel := 2) (rs := [17]) (by kernel_rfl) (by simp) ?_
                      refine AllReady.cons rfl (fun K hK => ?_) ?_
                      · go_simp; refine hK _ _ ?_; clear hK K; refine wpAny_ready (fuel := 1) (rs := [18]) (by kernel_rfl) (by simp) ?_
                        refine AllReady.cons rfl (fun K hK => ?_) ?_
                        · go_simp; refine hK _ _ ?_; clear hK K; refine wpAny_ready (fuel := 0) (rs := [19]) (by kernel_rfl) (by simp) ?_
                          refine AllReady.cons rfl (fun K hK => ?_) ?_
                          · go_simp; refine hK _ _ ?_; clear hK K
                            refine wpAny_done (by kernel_rfl) ?_ _
                            go_wp2_with fail
                            go_ret
                            exact ⟨rfl, L9.out.trans L16.out⟩
                          exact AllReady.nil
                        exact AllReady.nil
                      exact AllReady.nil
                    exact AllReady.nil
                  exact AllReady.nil
                exact AllReady.nil
              exact AllReady.nil
            exact AllReady.nil
          exact AllReady.nil
        exact AllReady.nil
      exact AllReady.nil
    refine AllReady.cons rfl (fun K hK => ?_) ?_
    · go_simp; refine hK _ _ ?_; clear hK K; refine wpAny_ready (fuel := 10) (rs := [8, 10]) (by kernel_rfl) (by simp) ?_
      refine AllReady.cons rfl (fun K hK => ?_) ?_
      · go_simp; refine hK _ _ ?_; clear hK K; refine wpAny_ready (fuel := 9) (rs := [10]) (by kernel_rfl) (by simp) ?_
        refine AllReady.cons rfl (fun K hK => ?_) ?_
        · go_simp
          go_at_call 23
          (with_reducible refine RA.out.mono ?_); rintro e w10 ⟨v2, rs2, rfl, o2, k2, e2, l2⟩; have L10 := Lib.hid (show Low w9 w10 from l2); have E2 := Lib.hid (show EtAt w10 v2 rs2 from ⟨o2.esAt, fun p hp => (k2 p hp).to fun b _ _ => ⟨trivial, rfl⟩⟩); have EE := Lib.hid (show ensOf rs = ensOf rs2 from EN.out.trans e2.symm); clear o2 k2 e2 l2; try go_simp
          try (refine hK _ _ ?_; clear hK K); refine wpAny_ready (fuel := 8) (rs := [11]) (by kernel_rfl) (by simp) ?_
          refine AllReady.cons rfl (fun K hK => ?_) ?_
          · go_simp
            go_at_call 22
            (with_reducible refine (wholeE_c rs rs2 w10 v1 v2 (E1.out.low L10.out) E2.out EE.out).mono ?_); rintro e w11 ⟨rfl, g11⟩; have L11 := Lib.hid (L10.out.trans g11.low); clear g11; have SC := Lib.hid (ST.out w11 L11.out); have g0 := (BS9.out.low L11.out).at 0 _ rfl; have g1 := (BS9.out.low L11.out).at 1 _ rfl; try go_simp
            try (refine hK _ _ ?_; clear hK K); refine wpAny_ready (fuel := 7) (rs := [12]) (by kernel_rfl) (by simp) ?_
            refine AllReady.cons rfl (fun K hK => ?_) ?_
            · go_simp; refine hK _ _ ?_; clear hK K; refine wpAny_ready (fuel := 6) (rs := [13]) (by kernel_rfl) (by simp) ?_
              refine AllReady.cons rfl (fun K hK => ?_) ?_
              · go_simp; refine hK _ _ ?_; clear hK K; refine wpAny_ready (fuel := 5) (rs := [14, 15]) (by kernel_rfl) (by simp) ?_
                refine AllReady.cons rfl (fun K hK => ?_) ?_
                · go_simp; refine hK _ _ ?_; clear hK K; refine wpAny_ready (fuel := 4) (rs := [15]) (by kernel_rfl) (by simp) ?_
                  refine AllReady.cons rfl (fun K hK => ?_) ?_
                  · go_simp; refine hK _ _ ?_; clear hK K; refine wpAny_ready (fuel := 3) (rs := [16]) (by kernel_rfl) (by simp) ?_
                    refine AllReady.cons rfl (fun K hK => ?_) ?_
                    · go_simp
                      go_at_call 20
                      (with_reducible refine SC.out.mono ?_); rintro e w16 ⟨rfl, l16⟩; have L16 := Lib.hid (L11.out.trans l16); clear l16; try go_simp
                      try (refine hK _ _ ?_; clear hK K); refine wpAny_ready (fuel := 2) (rs := [17]) (by kernel_rfl) (by simp) ?_
                      refine AllReady.cons rfl (fun K hK => ?_) ?_
                      · go_simp; refine hK _ _ ?_; clear hK K; refine wpAny_ready (fuel := 1) (rs := [18]) (by kernel_rfl) (by simp) ?_
                        refine AllReady.cons rfl (fun K hK => ?_) ?_
                        · go_simp; refine hK _ _ ?_; clear hK K; refine wpAny_ready (fuel := 0) (rs := [19]) (by kernel_rfl) (by simp) ?_
                          refine AllReady.cons rfl (fun K hK => ?_) ?_
                          · go_simp; refine hK _ _ ?_; clear hK K
                            refine wpAny_done (by kernel_rfl) ?_ _
                            go_wp2_with fail
                            go_ret
                            exact ⟨rfl, L9.out.trans L16.out⟩
                          exact AllReady.nil
                        exact AllReady.nil
                      exact AllReady.nil
                    exact AllReady.nil
                  exact AllReady.nil
                refine AllReady.cons rfl (fun K hK => ?_) ?_
                · go_simp; refine hK _ _ ?_; clear hK K; refine wpAny_ready (fuel := 4) (rs := [14]) (by kernel_rfl) (by simp) ?_
                  refine AllReady.cons rfl (fun K hK => ?_) ?_
                  · go_simp; refine hK _ _ ?_; clear hK K; refine wpAny_ready (fuel := 3) (rs := [16]) (by kernel_rfl) (by simp) ?_
                    refine AllReady.cons rfl (fun K hK => ?_) ?_
                    · go_simp
                      go_at_call 20
                      (with_reducible refine SC.out.mono ?_); rintro e w16 ⟨rfl, l16⟩; have L16 := Lib.hid (L11.out.trans l16); clear l16; try go_simp
                      try (refine hK _ _ ?_; clear hK K); refine wpAny_ready (fuel := 2) (rs := [17]) (by kernel_rfl) (by simp) ?_
                      refine AllReady.cons rfl (fun K hK => ?_) ?_
                      · go_simp; refine hK _ _ ?_; clear hK K; refine wpAny_ready (fuel := 1) (rs := [18]) (by kernel_rfl) (by simp) ?_
                        refine AllReady.cons rfl (fun K hK => ?_) ?_
                        · go_simp; refine hK _ _ ?_; clear hK K; refine wpAny_ready (fuel := 0) (rs := [19]) (by kernel_rfl) (by simp) ?_
                          refine AllReady.cons rfl (fun K hK => ?_) ?_
                          · go_simp; refine hK _ _ ?_; clear hK K
                            refine wpAny_done (by kernel_rfl) ?_ _
                            go_wp2_with fail
                            go_ret
                            exact ⟨rfl, L9.out.trans L16.out⟩
                          exact AllReady.nil
                        exact AllReady.nil
                      exact AllReady.nil
                    exact AllReady.nil
                  exact AllReady.nil
                exact AllReady.nil
              exact AllReady.nil
            exact AllReady.nil
          exact AllReady.nil
        exact AllReady.nil
      refine AllReady.cons rfl (fun K hK => ?_) ?_
      · go_simp
        go_at_call 23
        (with_reducible refine RA.out.mono ?_); rintro e w10 ⟨v2, rs2, rfl, o2, k2, e2, l2⟩; have L10 := Lib.hid (show Low w9 w10 from l2); have E2 := Lib.hid (show EtAt w10 v2 rs2 from ⟨o2.esAt, fun p hp => (k2 p hp).to fun b _ _ => ⟨trivial, rfl⟩⟩); have EE := Lib.hid (show ensOf rs = ensOf rs2 from EN.out.trans e2.symm); clear o2 k2 e2 l2; try go_simp
        try (refine hK _ _ ?_; clear hK K); refine wpAny_ready (fuel := 9) (rs := [8]) (by kernel_rfl) (by simp) ?_
        refine AllReady.cons rfl (fun K hK => ?_) ?_
        · go_simp; refine hK _ _ ?_; clear hK K; refine wpAny_ready (fuel := 8) (rs := [11]) (by kernel_rfl) (by simp) ?_
          refine AllReady.cons rfl (fun K hK => ?_) ?_
          · go_simp
            go_at_call 22
            (with_reducible refine (wholeE_c rs rs2 w10 v1 v2 (E1.out.low L10.out) E2.out EE.out).mono ?_); rintro e w11 ⟨rfl, g11⟩; have L11 := Lib.hid (L10.out.trans g11.low); clear g11; have SC := Lib.hid (ST.out w11 L11.out); have g0 := (BS9.out.low L11.out).at 0 _ rfl; have g1 := (BS9.out.low L11.out).at 1 _ rfl; try go_simp
            try (refine hK _ _ ?_; clear hK K); refine wpAny_ready (fuel := 7) (rs := [12]) (by kernel_rfl) (by simp) ?_
            refine AllReady.cons rfl (fun K hK => ?_) ?_
            · go_simp; refine hK _ _ ?_; clear hK K; refine wpAny_ready (fuel := 6) (rs := [13]) (by kernel_rfl) (by simp) ?_
              refine AllReady.cons rfl (fun K hK => ?_) ?_
              · go_simp; refine hK _ _ ?_; clear hK K; refine wpAny_ready (fuel := 5) (rs := [14, 15]) (by kernel_rfl) (by simp) ?_
                refine AllReady.cons rfl (fun K hK => ?_) ?_
                · go_simp; refine hK _ _ ?_; clear hK K; refine wpAny_ready (fuel := 4) (rs := [15]) (by kernel_rfl) (by simp) ?_
                  refine AllReady.cons rfl (fun K hK => ?_) ?_
                  · go_simp; refine hK _ _ ?_; clear hK K; refine wpAny_ready (fuel := 3) (rs := [16]) (by kernel_rfl) (by simp) ?_
                    refine AllReady.cons rfl (fun K hK => ?_) ?_
                    · go_simp
                      go_at_call 20
                      (with_reducible refine SC.out.mono ?_); rintro e w16 ⟨rfl, l16⟩; have L16 := Lib.hid (L11.out.trans l16); clear l16; try go_simp
                      try (refine hK _ _ ?_; clear hK K); refine wpAny_ready (fuel := 2) (rs := [17]) (by kernel_rfl) (by simp) ?_
                      refine AllReady.cons rfl (fun K hK => ?_) ?_
                      · go_simp; refine hK _ _ ?_; clear hK K; refine wpAny_ready (fuel := 1) (rs := [18]) (by kernel_rfl) (by simp) ?_
                        refine AllReady.cons rfl (fun K hK => ?_) ?_
                        · go_simp; refine hK _ _ ?_; clear hK K; refine wpAny_ready (fuel := 0) (rs := [19]) (by kernel_rfl) (by simp) ?_
                          refine AllReady.cons rfl (fun K hK => ?_) ?_
                          · go_simp; refine hK _ _ ?_; clear hK K
                            refine wpAny_done (by kernel_rfl) ?_ _
                            go_wp2_with fail
                            go_ret
                            exact ⟨rfl, L9.out.trans L16.out⟩
                          exact AllReady.nil
                        exact AllReady.nil
                      exact AllReady.nil
                    exact AllReady.nil
                  exact AllReady.nil
                refine AllReady.cons rfl (fun K hK => ?_) ?_
                · go_simp; refine hK _ _ ?_; clear hK K; refine wpAny_ready (fuel := 4) (rs := [14]) (by kernel_rfl) (by simp) ?_
                  refine AllReady.cons rfl (fun K hK => ?_) ?_
                  · go_simp; refine hK _ _ ?_; clear hK K; refine wpAny_ready (fuel := 3) (rs := [16]) (by kernel_rfl) (by simp) ?_
                    refine AllReady.cons rfl (fun K hK => ?_) ?_
                    · go_simp
                      go_at_call 20
                      (with_reducible refine SC.out.mono ?_); rintro e w16 ⟨rfl, l16⟩; have L16 := Lib.hid (L11.out.trans l16); clear l16; try go_simp
                      try (refine hK _ _ ?_; clear hK K); refine wpAny_ready (fuel := 2) (rs := [17]) (by kernel_rfl) (by simp) ?_
                      refine AllReady.cons rfl (fun K hK => ?_) ?_
                      · go_simp; refine hK _ _ ?_; clear hK K; refine wpAny_ready (fuel := 1) (rs := [18]) (by kernel_rfl) (by simp) ?_
                        refine AllReady.cons rfl (fun K hK => ?_) ?_
                        · go_simp; refine hK _ _ ?_; clear hK K; refine wpAny_ready (fuel := 0) (rs := [19]) (by kernel_rfl) (by simp) ?_
                          refine AllReady.cons rfl (fun K hK => ?_) ?_
                          · go_simp; refine hK _ _ ?_; clear hK K
                            refine wpAny_done (by kernel_rfl) ?_ _
                            go_wp2_with fail
                            go_ret
                            exact ⟨rfl, L9.out.trans L16.out⟩
                          exact AllReady.nil
                        exact AllReady.nil
                      exact AllReady.nil
                    exact AllReady.nil
                  exact AllReady.nil
                exact AllReady.nil
              exact AllReady.nil
            exact AllReady.nil
          exact AllReady.nil
        exact AllReady.nil
      exact AllReady.nil
    exact AllReady.nil
  exact AllReady.nil
end Go.Proofs.YtnenjgngahipdaaGreat
namespace Go.Proofs.YtnenjgngahipdaaGreat.conformStores
open Go.ChangeShapes Go.WideShapes Go.ChangeAt Go.RowKit
open Go.ChangeMaps (open_string shut_string)
set_option linter.unusedVariables false
theorem own : ownKnob Tryz.prog.godebug = none := by kernel_rfl
theorem laidOut : laidOutB Tryz.prog = true := by kernel_rfl
set_option maxRecDepth 100000 in
theorem lifted (os : Os) (started : os.Started) (H : Type) (enc : TypeId × Value → H) :
    ReturnsInHanded {} Tryz.checked os 4 .any (Rows.conformStoresSpec.pre6 enc Tryz.prog Tryz.f4 Rows.conformStoresRow.domain false) (Rows.conformStoresSpec.post enc Tryz.prog Tryz.f4 false true false false) := by
  refine returnsInHanded_of_change (C := Tryz.checked) own started (by kernel_rfl) Tryz.func4
    (ChangeSpec.witness6 (enc := enc) (C := Tryz.checked) false ⟨#[], #[.agg #[.slice none 0 0, .slice none 0 0], .slice none 0 0], []⟩ 8 (by kernel_rfl) (by kernel_rfl) (by kernel_rfl) (by kernel_rfl)) ?_
  intro W base args ds gs before hval0 hW hcnd _
  have hval : ∀ (j : Nat) t v, Tryz.f4.params[j]? = some t → args[j]? = some v → Value.okWide Tryz.prog W .any base t v := hval0
  have hW' := hW
  obtain ⟨p, q, hA0, hV, rfl, hfz, hnd⟩ := hW
  have hA : DataW.TrodAll enc Tryz.prog W 0 (fun _ => true) true Tryz.f4.params.toList args.toList ds p := hA0
  rw [Tryz.params4] at hA hval
  obtain ⟨v0, vs0, d0, ds0, p0, q0, hargs, rfl, rfl, h0, r0⟩ := trodAll_cons hA
  obtain ⟨v1, vs1, d1, ds1, p1, q1, rfl, rfl, rfl, h1, r1⟩ := trodAll_cons r0
  obtain ⟨rfl, rfl, rfl⟩ := trodAll_nil r1
  obtain rfl : args = #[v0, v1] := by cases args; simp_all
  obtain ⟨rfl, rfl⟩ := trodVars_none hV
  have k0 := h0
  have k1 := h1
  obtain ⟨n0, t0, c0, e0, u0, rfl, w0, z0⟩ := open_sc (hval 0 46 v0 rfl rfl) h0
  obtain ⟨x1, w1⟩ := open_ents (hval 1 47 v1 rfl rfl) h1
  clear hA0 hval0
  refine (conformStores_v n0 t0 c0 x1 W e0 u0 v1 w0 z0 w1).mono fun e W' ⟨he, hg⟩ => ?_
  subst he
  have hlt := hW'.lt
  exact ⟨_, rfl, post_of_low (pv := []) hW' (fun _ _ _ => (trodAll_cons_mk (shut_bool Tryz.underlying4 _) trodAll_mk0)) (fun sp hs => (trodAll_cons_mk (WideElems.Trod_stays laidOut (by kernel_rfl) (of_decide_eq_true (by kernel_rfl)) k0 (fun x hx => hg.same (hlt x (by simp [hx]))) (fun x hx => hs x (by simp [hx]))) (trodAll_cons_mk (WideElems.Trod_stays laidOut (by kernel_rfl) (of_decide_eq_true (by kernel_rfl)) k1 (fun x hx => hg.same (hlt x (by simp [hx]))) (fun x hx => hs x (by simp [hx]))) trodAll_mk0))) (fun _ _ => rfl) rfl
    hg (ok_one (by kernel_rfl) rfl (okWide_bool_mk Tryz.underlying4 _))⟩
theorem over : Rows.conformStoresRow.holds Tryz.pinned (OpenSpec.ofChange Rows.conformStoresSpec) :=
  OpenClaim.holds_of_wide 4 Tryz.f4 rfl rfl rfl rfl rfl rfl rfl ⟨rfl, rfl, rfl, rfl, rfl⟩ rfl rfl rfl rfl rfl (by kernel_rfl) Tryz.func4 (by kernel_rfl)
    (of_decide_eq_true (by kernel_rfl)) (by unfold Func.isWrapper; first | (rw [if_pos (by decide +kernel)]; kernel_rfl) | (rw [if_neg (by decide +kernel)]; exact ⟨rfl, rfl⟩))
    (fun os started H enc _ => lifted os started H enc)
theorem proved : Rows.ConformStoresSaid := over
#print axioms proved
end Go.Proofs.YtnenjgngahipdaaGreat.conformStores
