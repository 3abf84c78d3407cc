/- The items of a value as they must be. Condition: all rows are short. -/
import Derived.Test.YtnenjgngahipdaaGreatZg15
set_option linter.unusedVariables false
set_option linter.unusedSimpArgs false
set_option linter.unnecessarySimpa false
namespace Go.Proofs.YtnenjgngahipdaaGreat
open Go.RowKit Go.Sort
/-- What is answered that a value must be. -/
def CanPost (x : V) (err : Int) (w : World) (e : Ending) (w' : World) : Prop :=
  ∃ ai ci an cn, e = .returned (.tuple #[.agg #[.int .i64 x.h.k, .bool x.h.b, .int .i64 x.h.n, .string x.h.s, .string x.h.t, .string x.h.i, .slice ai x.l.length ci, .slice an x.ns.length cn], .int .i64 err]) ∧ Rep (fun b => w.heap.size ≤ b) w' x (.slice ai x.l.length ci) (.slice an x.ns.length cn) ∧ Low w w'
def CanC (f : Nat) (v : V) : Prop := ∀ (w : World) (it nm : Value), R w v it nm → Smv v → Calls Tryz.prog f #[avv v.h it nm] w (CanPost (can v).2 (can v).1 w)
/-- What is answered that a row's items must be. -/
def ItPost (err : Int) (l : List V) (w : World) (e : Ending) (w' : World) : Prop :=
  ∃ v, e = .returned (.tuple #[v, .int .i64 err]) ∧ Low w w' ∧ (err = 0 → ∃ ps : List El, ps.map (·.v) = l ∧ OwnVv w.heap.size w' v ps ∧ ∀ p ∈ ps, ElOk (fun b => w.heap.size ≤ b ∧ some b ≠ v.ownBlock) w' p)
theorem Low.alloc {a b : World} (h : Low a b) (o : Obj) : Low a (b.alloc o) := h.trans (Gr.alloc (Gr.refl b) o).low
theorem Low.trans_below {a b d : World} (h : Low a b) {B : Nat} (k : RowKit.Below B b d) (hB : a.heap.size ≤ B) : Low a d :=
  ⟨k.os.trans h.1, k.output.trans h.2.1, Nat.le_trans h.2.2.1 k.size, fun i hi => (k.block i (Nat.lt_of_lt_of_le hi hB)).trans (h.2.2.2 i hi)⟩
theorem el_step {w wr w1 W w2 : World} {v v2 : Value} {ps : List El} {q : El} (hsz : w.heap.size ≤ wr.heap.size) (E : ∀ p ∈ ps, ElOk (fun b => w.heap.size ≤ b ∧ some b ≠ v.ownBlock) wr p) (L1 : Low wr w1) (LW : Low w1 W)
    (hq : Rep (fun b => wr.heap.size ≤ b) w1 q.v q.it q.nm) (O : OwnVv w.heap.size wr v ps) (k2 : ∀ b, b < W.heap.size → some b ≠ v.ownBlock → w2.heap[b]? = W.heap[b]?) (n2 : v2.ownBlock = v.ownBlock ∨ ∀ g, v2.ownBlock = some g → W.heap.size ≤ g) :
    ∀ p ∈ ps ++ [q], ElOk (fun b => w.heap.size ≤ b ∧ some b ≠ v2.ownBlock) w2 p := by
  have hv : ∀ g, v.ownBlock = some g → g < wr.heap.size := fun g hg => (World.ownsRow.lt O g hg).2
  have s1 := L1.size
  have s2 := LW.size
  have key : ∀ b, b < w1.heap.size → some b ≠ v.ownBlock → some b ≠ v2.ownBlock ∧ w2.heap[b]? = w1.heap[b]? := fun b hb hne => by
    refine ⟨?_, (k2 b (by omega) hne).trans (LW.2.2.2 b hb)⟩
    rcases n2 with h | h
    · rw [h]; exact hne
    · intro e
      have := h b e.symm
      omega
  intro p hp
  rcases List.mem_append.1 hp with hp | hp
  · refine Rep.to (fun b ha hb => ?_) _ (E p hp)
    obtain ⟨h1, h2⟩ := key b (by omega) ha.2
    exact ⟨⟨ha.1, h1⟩, h2.trans (L1.2.2.2 b hb)⟩
  · simp at hp
    subst hp
    refine Rep.to (fun b ha hb => ?_) _ hq
    obtain ⟨h1, h2⟩ := key b hb fun e => by have := hv b e.symm; omega
    exact ⟨⟨by omega, h1⟩, h2⟩
theorem canK_at {l : List V} {i : Nat} (hi : i < l.length) (h : ∀ x ∈ l.take i, (can x).1 = 0) (h1 : (can l[i]).1 ≠ 0) : (canK l).1 = (can l[i]).1 := by
  induction l generalizing i with
  | nil => simp at hi
  | cons x l ih =>
    cases i with
    | zero =>
      have h2 : (can x).1 ≠ 0 := h1
      rw [canK, if_neg h2]; rfl
    | succ i =>
      have h0 : (can x).1 = 0 := h x (by rw [List.take_succ_cons]; simp)
      have h2 := ih (i := i) (by simpa using hi) (fun y hy => h y (by rw [List.take_succ_cons]; simp [hy])) (by simpa using h1)
      rw [canK, if_pos h0, if_neg (by rw [h2]; simpa using h1)]
      simpa using h2
theorem canL_at {l : List V} {i : Nat} (hi : i < l.length) (h : ∀ x ∈ l.take i, (can x).1 = 0) (h1 : (can l[i]).1 ≠ 0) : (canL l).1 = (can l[i]).1 := by
  have e := canK_at hi h h1
  unfold canL limL
  rw [if_neg (by rw [e]; exact h1)]
  exact e
set_option maxHeartbeats 2000000 in
theorem canI_c (l : List V) (ih : ∀ x ∈ l, CanC 60 x) (hs : l.length ≤ 70000 ∧ ∀ x ∈ l, Smv x) (w : World) (it : Value) (hl : Ro w l it) :
    Calls Tryz.prog 121 #[it] w (ItPost (canL l).1 (canL l).2 w) := by
  obtain ⟨al, cl, rfl, zl, zc⟩ := ro_len hl
  obtain ⟨hs1, hs2⟩ := hs
  have HL := Lib.hid hl
  have HI := Lib.hid ih
  have HS := Lib.hid hs2
  clear hl ih hs2
  go_enter Tryz.func121, Tryz.ntmps121
  go_wp2_with fail
  go_loopg [4, 11] l.length (fun gk vs vi wr => ∃ (v : Value) (i : Nat) (ps : List El), v = vs ∧ vi = .int .i64 (i : Int) ∧ i ≤ l.length ∧ l.length - i ≤ gk ∧ Hid (Low w wr) ∧ Hid ((∀ x ∈ l.take i, (can x).1 = 0) ∧ ps.map (·.v) = (l.take i).map fun x => (can x).2) ∧ Hid (OwnVv w.heap.size wr v ps) ∧ Hid (∀ p ∈ ps, ElOk (fun b => w.heap.size ≤ b ∧ some b ≠ v.ownBlock) wr p))
  case atStart => exact ⟨_, 0, [], rfl, rfl, Nat.zero_le _, Nat.le_refl _, Lib.hid (Low.refl _), Lib.hid ⟨by simp, by simp⟩, Lib.hid (OwnR.nil _ _ _ _ _), Lib.hid (by simp)⟩
  case round =>
    obtain ⟨v, i, ps, rfl, rfl, hi, hg, G, K, O, E⟩ := hrel
    have hpl : ps.length = i := by have := congrArg List.length K.out.2; simpa [hi] using this
    by_cases hlt : i < l.length
    · have z1 : (i : Int) < (l.length : Int) := by omega
      obtain ⟨b, o, ai, ci, an, cn, rfl, hcs, hrx⟩ := ro_at (HL.out.low G.out) hlt
      obtain ⟨e0, e1, e2, e3, e4, e5, e6, e7⟩ := cells8 hcs
      have hcon := HI.out l[i] (List.getElem_mem hlt) _ _ _ (hrx.low (Gr.alloc (Gr.refl wr) (.cells #[.int .i64 l[i].h.k, .bool l[i].h.b, .int .i64 l[i].h.n, .string l[i].h.s, .string l[i].h.t, .string l[i].h.i, .slice ai l[i].l.length ci, .slice an l[i].ns.length cn] 27)).low) (HS.out _ (List.getElem_mem hlt))
      obtain ⟨y, hy⟩ : ∃ y, y = (can l[i]).2 := ⟨_, rfl⟩
      obtain ⟨c, hc⟩ : ∃ c, c = (can l[i]).1 := ⟨_, rfl⟩
      rw [← hy, ← hc] at hcon
      have HC := Lib.hid hcon
      have HY := Lib.hid hy
      have HZ := Lib.hid hc
      clear hcon hcs hrx hy hc
      unfold avv at HC
      go_wp2_with fail
      refine HC.out.mono ?_
      rintro e w1 ⟨bi, di, bn, dn, rfl, hrep, hlow⟩
      have L1 := Lib.hid ((Low.alloc (Low.refl wr) _).trans hlow)
      have hsz : w.heap.size ≤ wr.heap.size := G.out.size
      have hsz1 : wr.heap.size ≤ w1.heap.size := L1.out.size
      have HR := Lib.hid hrep
      clear hrep hlow
      by_cases h0 : c = 0
      · subst h0
        have hown := (O.out.low L1.out)
        have HO := Lib.hid hown
        clear hown
        obtain ⟨q, hq⟩ : ∃ q : El, q = ⟨y, bi, di, bn, dn⟩ := ⟨_, rfl⟩
        have HQ := Lib.hid hq
        clear hq
        go_wp2_with (first
          | (at_builtin; refine appR rfl _ _ _ rfl Tryz.underlying24 v_infov rfl (by decide) (by decide) encV_lenv encV_onev w.heap.size v ps rfl ((HO.out.alloc _).alloc _) ⟨y, bi, di, bn, dn⟩ ⟨w1.heap.size + 1, 0, none⟩ 1 rfl (fun j u hj => newcell_at _ _ _ _ _ rfl hj) (by omega) (by show w.heap.size ≤ ((w1.alloc _).alloc _).heap.size; simp; omega) ?_; intro v2 w2 h2 b2 k2 n2))
        have W1 := Lib.hid ((Low.alloc (Low.alloc (Low.refl w1) (.cells #[.int .i64 y.h.k, .bool y.h.b, .int .i64 y.h.n, .string y.h.s, .string y.h.t, .string y.h.i, .slice bi y.l.length di, .slice bn y.ns.length dn] 27)) (.cells #[.int .i64 y.h.k, .bool y.h.b, .int .i64 y.h.n, .string y.h.s, .string y.h.t, .string y.h.i, .slice bi y.l.length di, .slice bn y.ns.length dn] 27)))
        have hE := el_step hsz E.out L1.out W1.out (q := ⟨y, bi, di, bn, dn⟩) (Rep.to (fun b hb _ => ⟨Nat.le_trans (by simp) hb, rfl⟩) _ HR.out) O.out k2 n2
        have hL : Low w w2 := ((G.out.trans L1.out).trans W1.out).trans_below b2 (Nat.le_refl _)
        have HE := Lib.hid hE
        have HL2 := Lib.hid hL
        have H2 := Lib.hid h2
        have hk : (∀ x ∈ l.take (i + 1), (can x).1 = 0) ∧ (ps ++ [(⟨y, bi, di, bn, dn⟩ : El)]).map (·.v) = (l.take (i + 1)).map fun x => (can x).2 := by
          rw [List.take_succ_eq_append_getElem hlt]
          refine ⟨fun x hx => ?_, ?_⟩
          · rcases List.mem_append.1 hx with hx | hx
            · exact K.out.1 x hx
            · simp at hx; rw [hx]; exact HZ.out.symm
          · rw [List.map_append, List.map_append, K.out.2, List.map_singleton, List.map_singleton, ← HY.out]
        have HK := Lib.hid hk
        clear hE hL h2 b2 k2 n2 hk
        go_wp2_with fail
        go_roundg (l.length - (i + 1))
        case measure => omega
        case rel => exact ⟨v2, i + 1, _, rfl, by go_num, by omega, by omega, HL2, HK, H2, HE⟩
      · have he : (canL l).1 = c := by rw [HZ.out]; exact canL_at hlt K.out.1 (by rw [← HZ.out]; exact h0)
        have W1 := Lib.hid (Low.alloc (Low.refl w1) (.cells #[.int .i64 y.h.k, .bool y.h.b, .int .i64 y.h.n, .string y.h.s, .string y.h.t, .string y.h.i, .slice bi y.l.length di, .slice bn y.ns.length dn] 27))
        have HE := Lib.hid he
        clear he
        go_wp2_with fail
        go_ret2
        exact ⟨.slice none 0 0, by rw [HE.out]; rfl, (G.out.trans L1.out).trans W1.out, fun e => absurd (HE.out.symm.trans e) h0⟩
    · have z1 : ¬ (i : Int) < (l.length : Int) := by omega
      have ht : l.take i = l := List.take_of_length_le (by omega)
      have hall : ∀ x ∈ l, (can x).1 = 0 := fun x hx => K.out.1 x (by rw [ht]; exact hx)
      have hp := K.out.2
      rw [ht] at hp
      have HP := Lib.hid hp
      obtain ⟨ao, cap, hv, hc1, hc2, -⟩ := O.out.shape
      subst hv
      by_cases h4 : 4096 < l.length
      · have H0 := Lib.hid (canL_long h4 hall)
        have hlen : (4096 : Int) < (ps.length : Int) := by omega
        clear hp hall ht
        go_wp2_with fail
        go_ret2
        exact ⟨.slice none 0 0, by rw [H0.out]; rfl, G.out, fun e => absurd e (by rw [H0.out]; decide)⟩
      · have H0 := Lib.hid (canL_of (by omega) hall)
        have hlen : (ps.length : Int) ≤ 4096 := by omega
        clear hp hall ht
        go_wp2_with fail
        go_ret2
        exact ⟨.slice ao ps.length cap, by rw [H0.out, hpl]; rfl, G.out, fun _ => ⟨ps, by rw [H0.out]; exact HP.out, O.out, E.out⟩⟩
end Go.Proofs.YtnenjgngahipdaaGreat
