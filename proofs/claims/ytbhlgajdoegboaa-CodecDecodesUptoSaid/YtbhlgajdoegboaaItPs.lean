/- Items that codec.reader reads: what has been read so far, in memory and by its bytes. No condition. Items that are read: what they are, by the bytes that lie there; how much there is of them. No condition. What a value of one kind that was read tells of its bytes: the reference's own readings too. No condition. -/
import Derived.Test.YtbhlgajdoegboaaRdS
import Derived.Test.YtbhlgajdoegboaaRecQ
import Derived.Deep.RegionLawGrows
import Derived.Test.YtbhlgajdoegboaaRefNs
namespace Go.Proofs.Ytbhlgajdoegboaa
open Go.RowKit Go.Sort
/-- append of one element, as a step of a region that draws its order; the row's block is the elder one, or new. -/
theorem ownR_step2 {α : Type} {e : TypeId} {k : Nat} {enc : α → List Value} {ops : Array Oper} {o : Oper} {a : Act} {w : World} {K : Act → World → Prop} {Q : Exit → Act → World → Prop} {E : Prop} (hgd : o.guard = none) (s x : Operand) (t : TypeId)
    (ho : o.op = .call { callee := .builtin .append, args := #[s, x], argTypes := #[t, t] }) (ht : Try.prog.underlying t = some (.slice e)) {z : Value} {bytes : Nat}
    (hinfo : (Try.prog.info? e).map (fun i => (i.zero, i.size, i.bytes)) = some (some z, k, bytes)) (hz : z.cells.size = k) (hk0 : 0 < k) (hby : bytes ≤ 1000)
    (hk : ∀ x, (enc x).length = k) (h1 : ∀ x, ∀ u ∈ enc x, u.oneCell' = true)
    (B : Nat) (v : Value) (l : List α) (hs : a.eval s = v) (hown : OwnR e k enc B w v l) (y : α) (ad : Addr) (c : Nat) (hx : a.eval x = .slice (some ad) 1 c)
    (hnews : ∀ j u, (enc y)[j]? = some u → w.cell? (ad.add j) = some u) (hlen : l.length ≤ 1000000) (hb : B ≤ w.heap.size)
    (h : ∀ v' w', OwnR e k enc B w' v' (l ++ [y]) → Below B w w' → (∀ b, b < w.heap.size → some b ≠ v.ownBlock → w'.heap[b]? = w.heap[b]?) → (v'.ownBlock = v.ownBlock ∨ ∀ g, v'.ownBlock = some g → w.heap.size ≤ g) → K (a.put o.dst v') w') : if Region.wanted o (yielded ops a.tmps) = true then Oper.wp Try.prog o a w K Q else E := by
  have hw : Region.wanted o (yielded ops a.tmps) = true := by simp [Region.wanted, hgd]
  obtain ⟨i0, hi, hz0, hz1, hz2⟩ := info_parts hinfo
  have hby2 : (l.length + 1) * bytes ≤ 140737488355328 := by
    have := Nat.mul_le_mul (show l.length + 1 ≤ 1000001 by omega) hby
    omega
  have hnl : (enc y).length = 1 * k := by rw [hk, Nat.one_mul]
  have happ : (l ++ [y]).flatMap enc = l.flatMap enc ++ enc y := by simp
  have hlt := World.ownsRow.lt hown
  rcases hown.2 with ⟨rfl, hn⟩ | ⟨g, cap, cur, rfl, hbg, hg, hnc, hcm, hcs, htake⟩
  · have hl : l = [] := List.eq_nil_of_length_eq_zero hn
    subst hl
    refine step_append_grows hgd s x t ho e i0 z k bytes ht hi hz0 hz1 hz2 hz hk0 none 0 0 [] hs (fun _ => ⟨rfl, rfl⟩) (by simp) (fun b hb => by simp at hb) ad 1 c (enc y) hx hnl hnews (h1 y) (by omega) (by unfold maxLen; omega) (by simpa using hby2) fun v' w' r1 r2 => ?_
    have r3 : OwnR e k enc w.heap.size w' v' ([] ++ [y]) := by unfold OwnR; rw [happ]; exact r1
    exact h v' w' (r3.base hb) ((Below.refl _ _).grown r2 hb (by simp)) (fun b hb _ => r2.block b hb (by simp)) (.inr fun g hg => (World.ownsRow.lt r3 g hg).1)
  · by_cases hroom : l.length + 1 ≤ cap
    · rw [if_pos hw]
      obtain ⟨w', hrun, r1, r2⟩ := run_append_fits (P := Try.prog) w B t o.type e i0 k ht hi hz1 g l.length cap (l.flatMap enc) hown ad 1 c (enc y) hnl hnews (h1 y) hroom
      unfold Oper.wp
      simp [execOp, ho, resolve, invoke, builtin, hs, hx, hrun, Result.andThen]
      refine h _ w' ?_ ((Below.refl _ _).grown r2 hb fun k hk => by simp at hk; subst hk; exact hbg) (fun b hb hne => r2.block b hb hne) (.inl rfl)
      unfold OwnR; rw [happ, List.length_append]; exact r1
    · have holds : ∀ b, some (⟨g, 0, none⟩ : Addr) = some b → ∀ j u, (l.flatMap enc)[j]? = some u → w.cell? (b.add j) = some u := fun b hb => by
        simp only [Option.some.injEq] at hb
        subst hb
        exact World.ownsRow.cells hown (g := g) rfl
      refine step_append_grows hgd s x t ho e i0 z k bytes ht hi hz0 hz1 hz2 hz hk0 (some ⟨g, 0, none⟩) l.length cap (l.flatMap enc) hs (fun h => by simp at h) hown.1 holds ad 1 c (enc y) hx hnl hnews (h1 y) (by omega) (by unfold maxLen; omega) hby2 fun v' w' r1 r2 => ?_
      have r3 : OwnR e k enc w.heap.size w' v' (l ++ [y]) := by unfold OwnR; rw [happ, List.length_append]; exact r1
      exact h v' w' (r3.base hb) ((Below.refl _ _).grown r2 hb (by simp)) (fun b hb _ => r2.block b hb (by simp)) (.inr fun g hg => (World.ownsRow.lt r3 g hg).1)
/-! ### A box with a kind, items and names -/
def BxAt (k : Int) (w : World) (r : Nat) (a b : Value) : Prop := (r < w.heap.size ∧ CellsAt w r 0 (hdc { hd0 with k := k } a b)) ∧ ∀ o, w.frozen? ⟨r, o, none⟩ = false
theorem BxAt.to {k : Int} {w w' : World} {r : Nat} {a b : Value} (h : BxAt k w r a b) (hz : w.heap.size ≤ w'.heap.size) (hb : w'.heap[r]? = w.heap[r]?) : BxAt k w' r a b :=
  ⟨⟨Nat.lt_of_lt_of_le h.1.1 hz, fun j v hv => cell_to (h.1.2 j v hv) fun _ => hb⟩, fun o => by rw [World.frozen?_of_block (w := w) (w' := w') (a := ⟨r, o, none⟩) hb]; exact h.2 o⟩
theorem bx_new (k : Int) (w : World) (t : TypeId) : BxAt k (w.alloc (.cells #[.int .i64 k, .bool false, .int .i64 0, .string ⟨#[]⟩, .string ⟨#[]⟩, .string ⟨#[]⟩, .slice none 0 0, .slice none 0 0] t)) w.heap.size (.slice none 0 0) (.slice none 0 0) := by
  refine ⟨⟨by simp, fun j v hv => ?_⟩, fun o => ?_⟩
  · rw [Nat.zero_add, World.cell?_alloc_mark]
    simpa [hdc, hd0] using hv
  · simp [go_sem]
theorem BxAt.facts {k : Int} {w : World} {r : Nat} {a b : Value} (h : BxAt k w r a b) : (w.cell? ⟨r, 0, none⟩ = some (.int .i64 k) ∧ w.cell? ⟨r, 1, none⟩ = some (.bool false) ∧ w.cell? ⟨r, 2, none⟩ = some (.int .i64 0) ∧ w.cell? ⟨r, 3, none⟩ = some (.string ⟨#[]⟩) ∧ w.cell? ⟨r, 4, none⟩ = some (.string ⟨#[]⟩) ∧
    w.cell? ⟨r, 5, none⟩ = some (.string ⟨#[]⟩) ∧ w.cell? ⟨r, 6, none⟩ = some a ∧ w.cell? ⟨r, 7, none⟩ = some b) ∧ w.frozen? ⟨r, 6, none⟩ = false ∧ w.frozen? ⟨r, 7, none⟩ = false := by
  have h8 := cells8 h.1.2
  simp only [Nat.zero_add] at h8
  exact ⟨h8, h.2 6, h.2 7⟩
theorem BxAt.names {k : Int} {w : World} {r : Nat} {a b : Value} (h : BxAt k w r a b) (c : Value) : BxAt k (w.setCell ⟨r, 7, none⟩ c) r a c := by
  refine ⟨⟨by simpa using h.1.1, fun j v hv => ?_⟩, fun o => by rw [World.frozen?_setCell]; exact h.2 o⟩
  have hj : j < 8 := by have := (List.getElem?_eq_some_iff.1 hv).1; simpa [hdc] using this
  rw [Nat.zero_add]
  by_cases h7 : j = 7
  · subst h7
    have : v = c := by simpa [hdc] using hv.symm
    subst this
    have hb : (w.cell? ⟨r, 7, none⟩).isSome = true := by rw [h.facts.1.2.2.2.2.2.2.2]; rfl
    exact World.cell?_setCell_same' _ _ _ hb
  · rw [World.cell?_setCell_other _ _ _ _ (by first | (simp; done) | (simp; omega))]
    have := h.1.2 j v (by
      match j, hj, h7 with
      | 0, _, _ => exact hv
      | 1, _, _ => exact hv
      | 2, _, _ => exact hv
      | 3, _, _ => exact hv
      | 4, _, _ => exact hv
      | 5, _, _ => exact hv
      | 6, _, _ => exact hv
      | 7, _, h => exact absurd rfl h)
    rwa [Nat.zero_add] at this
theorem BxAt.items {k : Int} {w : World} {r : Nat} {a b : Value} (h : BxAt k w r a b) (c : Value) : BxAt k (w.setCell ⟨r, 6, none⟩ c) r c b := by
  refine ⟨⟨by simpa using h.1.1, fun j v hv => ?_⟩, fun o => by rw [World.frozen?_setCell]; exact h.2 o⟩
  have hj : j < 8 := by have := (List.getElem?_eq_some_iff.1 hv).1; simpa [hdc] using this
  rw [Nat.zero_add]
  by_cases h7 : j = 6
  · subst h7
    have : v = c := by simpa [hdc] using hv.symm
    subst this
    have hb : (w.cell? ⟨r, 6, none⟩).isSome = true := by rw [h.facts.1.2.2.2.2.2.2.1]; rfl
    exact World.cell?_setCell_same' _ _ _ hb
  · rw [World.cell?_setCell_other _ _ _ _ (by first | (simp; done) | (simp; omega))]
    have := h.1.2 j v (by
      match j, hj, h7 with
      | 0, _, _ => exact hv
      | 1, _, _ => exact hv
      | 2, _, _ => exact hv
      | 3, _, _ => exact hv
      | 4, _, _ => exact hv
      | 5, _, _ => exact hv
      | 6, _, h => exact absurd rfl h
      | 7, _, _ => exact hv)
    rwa [Nat.zero_add] at this
/-! ### Two blocks alone may turn -/
def Kept2 (w w' : World) (r s : Nat) : Prop := w'.os = w.os ∧ w'.output = w.output ∧ w.heap.size ≤ w'.heap.size ∧ ∀ b, b < w.heap.size → b ≠ r → b ≠ s → w'.heap[b]? = w.heap[b]?
theorem Kept2.refl (w : World) (r s : Nat) : Kept2 w w r s := ⟨rfl, rfl, Nat.le_refl _, fun _ _ _ _ => rfl⟩
theorem Kept2.step {a b c : World} {r s : Nat} (h : Kept2 a b r s) {g : Option Nat} (k : KeptBut b c g) (hg : ∀ x, g = some x → x = r ∨ x = s ∨ a.heap.size ≤ x) : Kept2 a c r s :=
  ⟨k.1.trans h.1, k.2.1.trans h.2.1, Nat.le_trans h.2.2.1 k.2.2.1, fun i hi h1 h2 => (k.2.2.2 i (Nat.lt_of_lt_of_le hi h.2.2.1) fun e => by
    rcases hg i e.symm with q | q | q
    · exact h1 q
    · exact h2 q
    · omega).trans (h.2.2.2 i hi h1 h2)⟩
/-! ### Where the reading of items stands -/
structure ISm (rb xb : Nat) (k : Int) (W0 W : World) (a b : Value) (xs : List El) (ys : List ByteArray) : Prop where
  box : BxAt k W xb a b
  its : OwnV W0.heap.size W a xs
  nms : OwnR 9 1 encN W0.heap.size W b ys
  ne : xb ≠ rb
  xbl : xb < W0.heap.size
  rbl : rb < W0.heap.size
  kept : Kept2 W0 W rb xb
  reps : ∀ p ∈ xs, ElOk (fun g => W0.heap.size ≤ g ∧ some g ≠ a.ownBlock ∧ some g ≠ b.ownBlock) W p
theorem ISm.aB {rb xb : Nat} {k : Int} {W0 W : World} {a b : Value} {xs : List El} {ys : List ByteArray} (h : ISm rb xb k W0 W a b xs ys) : ∀ g, a.ownBlock = some g → W0.heap.size ≤ g ∧ g < W.heap.size := World.ownsRow.lt h.its
theorem ISm.bB {rb xb : Nat} {k : Int} {W0 W : World} {a b : Value} {xs : List El} {ys : List ByteArray} (h : ISm rb xb k W0 W a b xs ys) : ∀ g, b.ownBlock = some g → W0.heap.size ≤ g ∧ g < W.heap.size := World.ownsRow.lt h.nms
theorem ISm.size {rb xb : Nat} {k : Int} {W0 W : World} {a b : Value} {xs : List El} {ys : List ByteArray} (h : ISm rb xb k W0 W a b xs ys) : W0.heap.size ≤ W.heap.size := h.kept.2.2.1
theorem ISm.kept' {rb xb : Nat} {k : Int} {W0 W w1 : World} {a b : Value} {xs : List El} {ys : List ByteArray} (h : ISm rb xb k W0 W a b xs ys) (kk : KeptBut W w1 (some rb)) : ISm rb xb k W0 w1 a b xs ys := by
  have old : ∀ g, W0.heap.size ≤ g → g < W.heap.size → w1.heap[g]? = W.heap[g]? := fun g h1 h2 => kk.2.2.2 g h2 (by have := h.rbl; simp; omega)
  refine ⟨h.box.to kk.2.2.1 (kk.2.2.2 xb h.box.1.1 (by simpa using h.ne)), ?_, ?_, h.ne, h.xbl, h.rbl, h.kept.step kk fun x hx => by simp at hx; exact .inl hx.symm, fun p hp => ?_⟩
  · exact OwnR.to h.its fun g hg => old g (h.aB g hg).1 (h.aB g hg).2
  · exact OwnR.to h.nms fun g hg => old g (h.bB g hg).1 (h.bB g hg).2
  · exact Rep.to (fun g ha hg => ⟨ha, old g ha.1 hg⟩) _ (h.reps p hp)
theorem ISm.low {rb xb : Nat} {k : Int} {W0 W w1 : World} {a b : Value} {xs : List El} {ys : List ByteArray} (h : ISm rb xb k W0 W a b xs ys) (l : Low W w1) : ISm rb xb k W0 w1 a b xs ys := h.kept' (KeptBut.of_low l)
theorem ISm.putN {rb xb : Nat} {k : Int} {W0 W w2 : World} {a b b2 : Value} {xs : List El} {ys ys2 : List ByteArray} (h : ISm rb xb k W0 W a b xs ys) (h2 : OwnR 9 1 encN W0.heap.size w2 b2 ys2) (bl : RowKit.Below W0.heap.size W w2)
    (k2 : ∀ x, x < W.heap.size → some x ≠ b.ownBlock → w2.heap[x]? = W.heap[x]?) (n2 : b2.ownBlock = b.ownBlock ∨ ∀ g, b2.ownBlock = some g → W.heap.size ≤ g) :
    BxAt k w2 xb a b ∧ ISm rb xb k W0 (w2.setCell ⟨xb, 7, none⟩ b2) a b2 xs ys2 ∧ ∀ g, g < W0.heap.size → w2.heap[g]? = W.heap[g]? ∧ (g ≠ xb → (w2.setCell ⟨xb, 7, none⟩ b2).heap[g]? = W.heap[g]?) := by
  have sz : W0.heap.size ≤ W.heap.size := h.kept.2.2.1
  have K2 := kept_of bl k2
  have hxb : some xb ≠ b.ownBlock := fun e => by have := (h.bB xb e.symm).1; have := h.xbl; omega
  have KS := kept_setCell w2 xb 7 b2
  have R2 : BxAt k w2 xb a b := h.box.to K2.2.2.1 (K2.2.2.2 xb h.box.1.1 hxb)
  have both : ∀ g, g < W.heap.size → some g ≠ b.ownBlock → g ≠ xb → (w2.setCell ⟨xb, 7, none⟩ b2).heap[g]? = W.heap[g]? := fun g h1 h2 h3 =>
    (KS.2.2.2 g (Nat.lt_of_lt_of_le h1 K2.2.2.1) (by simpa using h3)).trans (K2.2.2.2 g h1 h2)
  have nb : ∀ g, g < W0.heap.size → some g ≠ b.ownBlock := fun g hg e => by have := (h.bB g e.symm).1; omega
  refine ⟨R2, ⟨R2.names b2, ?_, ?_, h.ne, h.xbl, h.rbl, (h.kept.step K2 fun x hx => .inr (.inr (h.bB x hx).1)).step KS fun x hx => by simp at hx; exact .inr (.inl hx.symm), fun p hp => ?_⟩, fun g hg => ⟨K2.2.2.2 g (by omega) (nb g hg), both g (by omega) (nb g hg)⟩⟩
  · refine OwnR.to h.its fun g hg => both g (h.aB g hg).2 (OwnR.apart h.its h.nms (by decide) hg) (by have := (h.aB g hg).1; have := h.xbl; omega)
  · refine OwnR.to h2 fun g hg => KS.2.2.2 g (World.ownsRow.lt h2 g hg).2 (by simp; have := (World.ownsRow.lt h2 g hg).1; have := h.xbl; omega)
  · refine Rep.to (fun g ha hg => ⟨⟨ha.1, ha.2.1, fun e => ?_⟩, both g hg ha.2.2 (by have := h.xbl; omega)⟩) _ (h.reps p hp)
    rcases n2 with n | n
    · rw [n] at e; exact ha.2.2 e
    · have := n g e.symm; omega
theorem ISm.putI {rb xb : Nat} {k : Int} {W0 W w2 : World} {a b a2 : Value} {xs : List El} {p : El} {ys : List ByteArray} (h : ISm rb xb k W0 W a b xs ys) (h2 : OwnV W0.heap.size w2 a2 (xs ++ [p])) (bl : RowKit.Below W0.heap.size W w2)
    (k2 : ∀ x, x < W.heap.size → some x ≠ a.ownBlock → w2.heap[x]? = W.heap[x]?) (n2 : a2.ownBlock = a.ownBlock ∨ ∀ g, a2.ownBlock = some g → W.heap.size ≤ g)
    (hp : ElOk (fun g => W0.heap.size ≤ g ∧ some g ≠ a.ownBlock ∧ some g ≠ b.ownBlock) W p) :
    BxAt k w2 xb a b ∧ ISm rb xb k W0 (w2.setCell ⟨xb, 6, none⟩ a2) a2 b (xs ++ [p]) ys ∧ ∀ g, g < W0.heap.size → w2.heap[g]? = W.heap[g]? ∧ (g ≠ xb → (w2.setCell ⟨xb, 6, none⟩ a2).heap[g]? = W.heap[g]?) := by
  have sz : W0.heap.size ≤ W.heap.size := h.kept.2.2.1
  have K2 := kept_of bl k2
  have hxb : some xb ≠ a.ownBlock := fun e => by have := (h.aB xb e.symm).1; have := h.xbl; omega
  have KS := kept_setCell w2 xb 6 a2
  have R2 : BxAt k w2 xb a b := h.box.to K2.2.2.1 (K2.2.2.2 xb h.box.1.1 hxb)
  have both : ∀ g, g < W.heap.size → some g ≠ a.ownBlock → g ≠ xb → (w2.setCell ⟨xb, 6, none⟩ a2).heap[g]? = W.heap[g]? := fun g h1 h2 h3 =>
    (KS.2.2.2 g (Nat.lt_of_lt_of_le h1 K2.2.2.1) (by simpa using h3)).trans (K2.2.2.2 g h1 h2)
  have nb : ∀ g, g < W0.heap.size → some g ≠ a.ownBlock := fun g hg e => by have := (h.aB g e.symm).1; omega
  have all : ∀ q ∈ xs ++ [p], ElOk (fun g => W0.heap.size ≤ g ∧ some g ≠ a.ownBlock ∧ some g ≠ b.ownBlock) W q := fun q hq => by
    rcases List.mem_append.1 hq with hq | hq
    · exact h.reps q hq
    · simp at hq; subst hq; exact hp
  refine ⟨R2, ⟨R2.items a2, ?_, ?_, h.ne, h.xbl, h.rbl, (h.kept.step K2 fun x hx => .inr (.inr (h.aB x hx).1)).step KS fun x hx => by simp at hx; exact .inr (.inl hx.symm), fun q hq => ?_⟩, fun g hg => ⟨K2.2.2.2 g (by omega) (nb g hg), both g (by omega) (nb g hg)⟩⟩
  · refine OwnR.to h2 fun g hg => KS.2.2.2 g (World.ownsRow.lt h2 g hg).2 (by simp; have := (World.ownsRow.lt h2 g hg).1; have := h.xbl; omega)
  · refine OwnR.to h.nms fun g hg => both g (h.bB g hg).2 (OwnR.apart h.nms h.its (by decide) hg) (by have := (h.bB g hg).1; have := h.xbl; omega)
  · refine Rep.to (fun g ha hg => ⟨⟨ha.1, fun e => ?_, ha.2.2⟩, both g hg ha.2.1 (by have := h.xbl; omega)⟩) _ (all q hq)
    rcases n2 with n | n
    · rw [n] at e; exact ha.2.1 e
    · have := n g e.symm; omega
/-- An element that a call made new lies apart from the rows. -/
theorem ISm.fresh {rb xb : Nat} {k : Int} {W0 W w1 : World} {a b : Value} {xs : List El} {ys : List ByteArray} (h : ISm rb xb k W0 W a b xs ys) {p : El} (hp : ElOk (fun g => W.heap.size ≤ g) w1 p) : ElOk (fun g => W0.heap.size ≤ g ∧ some g ≠ a.ownBlock ∧ some g ≠ b.ownBlock) w1 p :=
  Rep.to (fun g hg _ => ⟨⟨Nat.le_trans h.size hg, fun e => by have := (h.aB g e.symm).2; omega, fun e => by have := (h.bB g e.symm).2; omega⟩, rfl⟩) _ hp
/-- The value that was built up. -/
theorem ISm.rep {rb xb : Nat} {k : Int} {W0 W : World} {a b : Value} {xs : List El} {ys : List ByteArray} (h : ISm rb xb k W0 W a b xs ys) (hy : ∀ y ∈ ys, y.size ≤ 65536) : Rep (fun g => W0.heap.size ≤ g) W (.mk { hd0 with k := k } (xs.map (·.v)) ys) a b := by
  refine rep_v.2 ⟨⟨Nat.zero_le _, Nat.zero_le _, Nat.zero_le _⟩, ?_, ?_⟩
  · show NamesAt _ W ys b
    obtain ⟨bo, bcap, hb, h1, h2, h3⟩ := OwnR.shape h.nms
    refine ⟨bo, bcap, hb, by omega, fun x hx => by have := hy x hx; omega, ?_⟩
    rcases h3 with h0 | ⟨g, h3, h4, -⟩
    · exact .inl h0
    · refine .inr ⟨g, 0, h3, h4, fun j hj => ?_⟩
      have hn := h.nms
      rw [hb, h3] at hn
      have := OwnR.cell encN_len hn j 0 hj (by decide)
      rw [Nat.mul_one, Nat.add_zero] at this
      rw [Nat.zero_add, this]
      rfl
  · show RowAt _ W (xs.map (·.v)) a
    exact ownV_row h.its h.reps (fun g hg => hg.1) fun g hg => (h.aB g hg).1
/-- .. with the reader. -/
structure ISt (B rb xb : Nat) (k : Int) (W0 W : World) (a b : Value) (xs : List El) (ys : List ByteArray) (li : List UInt8) (shi : Bool) : Prop where
  m : ISm rb xb k W0 W a b xs ys
  rd : RdAt B W rb li shi
  hB : B ≤ xb
theorem ISt.took {B rb xb : Nat} {k : Int} {W0 W w1 : World} {a b : Value} {xs : List El} {ys : List ByteArray} {li l1 : List UInt8} {shi s1 : Bool} (h : ISt B rb xb k W0 W a b xs ys li shi) (T : Took B W rb l1 s1 w1) : ISt B rb xb k W0 w1 a b xs ys l1 s1 :=
  ⟨h.m.kept' T.2, T.1, h.hB⟩
theorem ISt.low {B rb xb : Nat} {k : Int} {W0 W w1 : World} {a b : Value} {xs : List El} {ys : List ByteArray} {li : List UInt8} {shi : Bool} (h : ISt B rb xb k W0 W a b xs ys li shi) (l : Low W w1) : ISt B rb xb k W0 w1 a b xs ys li shi :=
  ⟨h.m.low l, h.rd.low (by have := h.hB; have := h.m.xbl; have := h.m.size; omega) l, h.hB⟩
theorem ISt.putN {B rb xb : Nat} {k : Int} {W0 W w2 : World} {a b b2 : Value} {xs : List El} {ys ys2 : List ByteArray} {li : List UInt8} {shi : Bool} (h : ISt B rb xb k W0 W a b xs ys li shi) (h2 : OwnR 9 1 encN W0.heap.size w2 b2 ys2) (bl : RowKit.Below W0.heap.size W w2)
    (k2 : ∀ x, x < W.heap.size → some x ≠ b.ownBlock → w2.heap[x]? = W.heap[x]?) (n2 : b2.ownBlock = b.ownBlock ∨ ∀ g, b2.ownBlock = some g → W.heap.size ≤ g) : BxAt k w2 xb a b ∧ ISt B rb xb k W0 (w2.setCell ⟨xb, 7, none⟩ b2) a b2 xs ys2 li shi := by
  obtain ⟨h3, h4, h5⟩ := h.m.putN h2 bl k2 n2
  exact ⟨h3, h4, h.rd.to (fun g hg => (h5 g (by have := h.hB; have := h.m.xbl; omega)).2 (by have := h.hB; omega)) ((h5 rb h.m.rbl).2 (Ne.symm h.m.ne)), h.hB⟩
theorem ISt.putI {B rb xb : Nat} {k : Int} {W0 W w2 : World} {a b a2 : Value} {xs : List El} {p : El} {ys : List ByteArray} {li : List UInt8} {shi : Bool} (h : ISt B rb xb k W0 W a b xs ys li shi) (h2 : OwnV W0.heap.size w2 a2 (xs ++ [p])) (bl : RowKit.Below W0.heap.size W w2)
    (k2 : ∀ x, x < W.heap.size → some x ≠ a.ownBlock → w2.heap[x]? = W.heap[x]?) (n2 : a2.ownBlock = a.ownBlock ∨ ∀ g, a2.ownBlock = some g → W.heap.size ≤ g)
    (hp : ElOk (fun g => W0.heap.size ≤ g ∧ some g ≠ a.ownBlock ∧ some g ≠ b.ownBlock) W p) : BxAt k w2 xb a b ∧ ISt B rb xb k W0 (w2.setCell ⟨xb, 6, none⟩ a2) a2 b (xs ++ [p]) ys li shi := by
  obtain ⟨h3, h4, h5⟩ := h.m.putI h2 bl k2 n2 hp
  exact ⟨h3, h4, h.rd.to (fun g hg => (h5 g (by have := h.hB; have := h.m.xbl; omega)).2 (by have := h.hB; omega)) ((h5 rb h.m.rbl).2 (Ne.symm h.m.ne)), h.hB⟩
end Go.Proofs.Ytbhlgajdoegboaa
namespace Go.Proofs.Ytbhlgajdoegboaa
open Go.RowKit
/-- What a reading of one value tells of its bytes. -/
def VQ (D : V → Prop) (l : List UInt8) (sh : Bool) (x : V) (l' : List UInt8) (sh' : Bool) : Prop :=
  (Sm x ∧ Iv x) ∧ (l'.length ≤ l.length ∧ vb x + 20 * l'.length ≤ 20 * l.length + 8 ∧ (l ≠ [] → vb x + 20 * l'.length ≤ 20 * l.length ∧ l'.length < l.length) ∧ (l = [] → sh' = true)) ∧
    (sh = false → ∀ c t, l = lay c ++ t → D c → Cn c → Iv c → x = c ∧ l' = t ∧ sh' = false)
def Any (_ : V) : Prop := True
def VP2 (B rb : Nat) (l : List UInt8) (sh : Bool) (w : World) (e : Ending) (w' : World) : Prop :=
  ∃ (x : V) (ai : Option Addr) (ci : Nat) (an : Option Addr) (cn : Nat) (l' : List UInt8) (sh' : Bool),
    e = .returned (.agg #[.int .i64 x.h.k, .bool x.h.b, .int .i64 x.h.n, .string x.h.s, .string x.h.t, .string x.h.i, .slice ai x.l.length ci, .slice an x.ns.length cn]) ∧
    Rep (fun b => w.heap.size ≤ b) w' x (.slice ai x.l.length ci) (.slice an x.ns.length cn) ∧ Took B w rb l' sh' w' ∧ VQ Any l sh x l' sh'
theorem VP2.of {B rb : Nat} {l : List UInt8} {sh : Bool} {w : World} {e : Ending} {w' : World} (h : VP B rb l sh w e w') : VP2 B rb l sh w e w' := by
  obtain ⟨x, ai, ci, an, cn, l', sh', h1, h2, h3, h4, h5, h6⟩ := h
  exact ⟨x, ai, ci, an, cn, l', sh', h1, h2, h3, h4, h5, fun hs c t k1 _ k2 k3 => by subst hs; exact h6 c t k1 k2 k3⟩
theorem VP2.to {B rb : Nat} {l : List UInt8} {w : World} {e : Ending} {w' : World} (h : VP2 B rb l false w e w') : VP B rb l false w e w' := by
  obtain ⟨x, ai, ci, an, cn, l', sh', h1, h2, h3, h4, h5, h6⟩ := h
  exact ⟨x, ai, ci, an, cn, l', sh', h1, h2, h3, h4, h5, fun c t k1 k2 k3 => h6 rfl c t k1 trivial k2 k3⟩
theorem tx_cost (l : List UInt8) : (txB l).length + 1 + 20 * (txR l).length ≤ 20 * l.length + (if txR l = [] then 1 else 0) ∧ (txR l).length ≤ l.length := by
  unfold txB txR
  by_cases h4 : 4 ≤ l.length
  · have e : tkR 4 l = l.drop 4 := by unfold tkR; rw [if_pos h4]
    have el : (tkR 4 l).length = l.length - 4 := by rw [e, List.length_drop]
    have h1 := tk_len (txN l) (tkR 4 l)
    split <;> omega
  · have e : tkR 4 l = [] := by unfold tkR; rw [if_neg h4]
    have e0 : txN l = 0 := by unfold txN tkB; rw [if_neg h4]; rfl
    rw [e, e0]
    simp [tkB, tkR]
theorem tx_short (l : List UInt8) (sh : Bool) : txS l sh = true → sh = false → txR l = [] := by
  unfold txS txR
  intro h hs
  subst hs
  unfold tkS at h
  by_cases h4 : 4 ≤ l.length
  · rw [if_pos h4] at h
    by_cases h5 : txN l ≤ (tkR 4 l).length
    · rw [if_pos h5] at h; simp at h
    · unfold tkR; rw [if_neg]; exact h5
  · have e : tkR 4 l = [] := by unfold tkR; rw [if_neg h4]
    rw [e]
    unfold tkR
    split <;> simp
theorem vbL_app (l m : List V) : vbL (l ++ m) = vbL l + vbL m := by
  induction l with
  | nil => rw [List.nil_append, vbL]; omega
  | cons x l ih => rw [List.cons_append, vbL, vbL, ih]; omega
theorem nbL_app (l m : List ByteArray) : nbL (l ++ m) = nbL l + nbL m := by
  induction l with
  | nil => rw [List.nil_append, nbL]; omega
  | cons x l ih => rw [List.cons_append, nbL, nbL, ih]; omega
/-- What has been read of a row of items. -/
structure ISp (D : V → Prop) (r : Bool) (l0 : List UInt8) (sh0 : Bool) (i : Nat) (xs : List El) (ys : List ByteArray) (li : List UInt8) (shi : Bool) : Prop where
  xl : xs.length = i
  yl : ys.length = if r then i else 0
  few : i + li.length ≤ l0.length + (if shi then 1 else 0)
  cost : vbL (xs.map (·.v)) + nbL ys + 20 * li.length ≤ 20 * l0.length + (if shi then 9 else 0)
  ok : ∀ p ∈ xs, Sm p.v ∧ Iv p.v
  sz : ∀ y ∈ ys, y.size ≤ 65536
  strong : sh0 = false → ∀ cs ms t, l0 = layL r cs ms ++ t → (∀ c ∈ cs, D c ∧ Cn c ∧ Iv c) → (if r then ms.length = cs.length else ms = []) → i ≤ cs.length → li = layL r (cs.drop i) (ms.drop i) ++ t ∧ xs.map (·.v) = cs.take i ∧ ys = ms.take i ∧ shi = false
theorem ISp.start (D : V → Prop) (r : Bool) (l0 : List UInt8) (sh0 : Bool) : ISp D r l0 sh0 0 [] [] l0 sh0 :=
  ⟨rfl, by simp, by omega, by simp [vbL, nbL], by simp, by simp, fun hs cs ms t h _ _ _ => ⟨by simpa using h, by simp, by simp, hs⟩⟩
theorem ISp.stepS {D : V → Prop} {l0 : List UInt8} {sh0 : Bool} {i : Nat} {xs : List El} {li l' : List UInt8} {sh' : Bool} {p : El} (h : ISp D false l0 sh0 i xs [] li false) (q : VQ D li false p.v l' sh') : ISp D false l0 sh0 (i + 1) (xs ++ [p]) [] l' sh' := by
  obtain ⟨q1, ⟨q2, q3, q4, q5⟩, q6⟩ := q
  have hf := h.few
  have hc := h.cost
  simp only [Bool.false_eq_true, if_false] at hf hc
  refine ⟨by rw [List.length_append, h.xl]; rfl, rfl, ?_, ?_, fun z hz => ?_, by simp, fun hs cs ms t k1 k2 k3 k4 => ?_⟩
  · by_cases hl : li = []
    · rw [q5 hl]; subst hl; simp at q2 hf ⊢; rw [q2]; simp; omega
    · have := (q4 hl).2; split <;> omega
  · rw [List.map_append, vbL_app]
    simp only [List.map_cons, List.map_nil, vbL, nbL] at hc ⊢
    by_cases hl : li = []
    · rw [q5 hl]; simp only [if_true]; subst hl; simp only [List.length_nil] at q3 hc; omega
    · have := (q4 hl).1; split <;> omega
  · rcases List.mem_append.1 hz with hz | hz
    · exact h.ok z hz
    · simp at hz; subst hz; exact q1
  · have hi : i < cs.length := by omega
    obtain ⟨a1, a2, a3, -⟩ := h.strong hs cs ms t k1 k2 k3 (by omega)
    rw [List.drop_eq_getElem_cons hi, layL] at a1
    simp only [Bool.false_eq_true, if_false, List.nil_append] at a1
    obtain ⟨b1, b2, b3⟩ := q6 rfl cs[i] _ (by rw [a1, List.append_assoc]) (k2 _ (List.getElem_mem hi)).1 (k2 _ (List.getElem_mem hi)).2.1 (k2 _ (List.getElem_mem hi)).2.2
    simp only [Bool.false_eq_true, if_false] at k3
    subst k3
    refine ⟨?_, ?_, by simp, b3⟩
    · rw [b2]; simp
    · rw [List.map_append, a2, List.take_succ_eq_append_getElem hi, ← b1]; rfl
theorem ISp.stepR {D : V → Prop} {l0 : List UInt8} {sh0 : Bool} {i : Nat} {xs : List El} {ys : List ByteArray} {li l' : List UInt8} {sh' : Bool} {p : El} {s : ByteArray} (h : ISp D true l0 sh0 i xs ys li false) (h6 : l0.length ≤ 65536) (hs : s = ⟨(txB li).toArray⟩) (q : VQ D (txR li) (txS li false) p.v l' sh') : ISp D true l0 sh0 (i + 1) (xs ++ [p]) (ys ++ [s]) l' sh' := by
  obtain ⟨q1, ⟨q2, q3, q4, q5⟩, q6⟩ := q
  have hf := h.few
  have hc := h.cost
  have hyl := h.yl
  simp only [Bool.false_eq_true, if_false, if_true] at hf hc hyl
  have ht := tx_cost li
  have hsz : s.size = (txB li).length := by rw [hs]; rfl
  have ht2 := tx_len li
  refine ⟨by rw [List.length_append, h.xl]; rfl, by rw [List.length_append, hyl]; rfl, ?_, ?_, fun z hz => ?_, fun y hy => ?_, fun hs0 cs ms t k1 k2 k3 k4 => ?_⟩
  · by_cases hl : txR li = []
    · rw [q5 hl]; rw [hl] at q2; simp at q2; rw [q2]; simp; omega
    · have := (q4 hl).2; split <;> omega
  · rw [List.map_append, vbL_app, nbL_app]
    simp only [List.map_cons, List.map_nil, vbL, nbL] at hc ⊢
    by_cases hl : txR li = []
    · rw [q5 hl]; simp only [hl, if_true, List.length_nil] at ht q3 ⊢; omega
    · simp only [hl, if_false] at ht
      have := (q4 hl).1; split <;> omega
  · rcases List.mem_append.1 hz with hz | hz
    · exact h.ok z hz
    · simp at hz; subst hz; exact q1
  · rcases List.mem_append.1 hy with hy | hy
    · exact h.sz y hy
    · simp at hy; subst hy; omega
  · have hi : i < cs.length := by omega
    obtain ⟨a1, a2, a3, -⟩ := h.strong hs0 cs ms t k1 k2 k3 (by omega)
    simp only [if_true] at k3
    have hj : i < ms.length := by omega
    rw [List.drop_eq_getElem_cons hi, List.drop_eq_getElem_cons hj, layL] at a1
    simp only [if_true, List.headD_cons, List.tail_cons, List.append_assoc] at a1
    have hz : ms[i].size < 4294967296 := by
      have q := congrArg List.length a1
      rw [List.length_append, layT_len] at q
      omega
    obtain ⟨e1, e2, e3⟩ := tx_layT ms[i] hz (lay cs[i] ++ (layL true (cs.drop (i + 1)) (ms.drop (i + 1)) ++ t)) false
    rw [← a1] at e1 e2 e3
    obtain ⟨b1, b2, b3⟩ := q6 e3 cs[i] _ e2 (k2 _ (List.getElem_mem hi)).1 (k2 _ (List.getElem_mem hi)).2.1 (k2 _ (List.getElem_mem hi)).2.2
    refine ⟨b2, ?_, ?_, b3⟩
    · rw [List.map_append, a2, List.take_succ_eq_append_getElem hi, ← b1]; rfl
    · rw [a3, List.take_succ_eq_append_getElem hj, hs, e1]
/-- What reading items leaves. -/
def ItP (B rb xb : Nat) (k : Int) (l : List UInt8) (sh : Bool) (w w' : World) : Prop :=
  ∃ (xs : List El) (ys : List ByteArray) (a b : Value) (l' : List UInt8) (sh' : Bool), ISt B rb xb k w w' a b xs ys l' sh' ∧
    ∃ i, ISp Any (k == 6) (tkR 4 l) (tkS 4 l sh) i xs ys l' sh' ∧ i ≤ ofB (tkB 4 l) ∧ (sh' = false → i = ofB (tkB 4 l))
/-- A set or record that was read: what it tells of its bytes. -/
theorem vq_items {D D' : V → Prop} (hD : ∀ c, D c → c.h.k = 5 ∨ c.h.k = 6 → ∀ x ∈ c.l, D' x) {l : List UInt8} {sh : Bool} {k : Int} (hk : k = 5 ∨ k = 6) (hl : l.length ≤ 65536) (h1 : ((ofB (tkB 1 l) : Nat) : Int) = k) {xs : List El} {ys : List ByteArray} {l' : List UInt8} {sh' : Bool} {i : Nat}
    (h : ISp D' (k == 6) (tkR 4 (tkR 1 l)) (tkS 4 (tkR 1 l) (tkS 1 l sh)) i xs ys l' sh') (hi : i ≤ ofB (tkB 4 (tkR 1 l))) (hn : sh' = false → i = ofB (tkB 4 (tkR 1 l))) :
    VQ D l sh (.mk { hd0 with k := k } (xs.map (·.v)) ys) l' sh' := by
  have hne := nil_of (l := l) (by omega)
  have hs := step_len hne
  have hf := h.few
  have hc := h.cost
  have hv := vb_mk k (xs.map (·.v)) ys
  have hx := h.xl
  have hy := h.yl
  have key : vb (.mk { hd0 with k := k } (xs.map (·.v)) ys) + 20 * l'.length ≤ 20 * l.length ∧ l'.length < l.length ∧ i ≤ 65536 := by
    rw [hv]
    by_cases h4 : 4 ≤ (tkR 1 l).length
    · have e : (tkR 4 (tkR 1 l)).length = (tkR 1 l).length - 4 := by
        rw [(tk_yes h4).2.1, List.length_drop]
      split at hf <;> split at hc <;> simp_all <;> omega
    · have e : tkR 4 (tkR 1 l) = [] := (tk_no h4).2.1
      have e0 : ofB (tkB 4 (tkR 1 l)) = 0 := by
        rw [(tk_no h4).1]; rfl
      have hi0 : i = 0 := by omega
      subst hi0
      obtain rfl : xs = [] := List.eq_nil_of_length_eq_zero hx
      obtain rfl : ys = [] := List.eq_nil_of_length_eq_zero (by rw [hy]; split <;> rfl)
      rw [e] at hf hc
      have v0 : vbL (List.map (fun x : El => x.v) []) = 0 := by rw [List.map_nil, vbL]
      have n0 : nbL [] = 0 := by rw [nbL]
      rw [v0, n0, List.length_nil] at hc
      rw [v0, n0]
      rw [List.length_nil] at hf
      split at hf <;> split at hc <;> first | omega | simp_all
  obtain ⟨k1, k2, k3⟩ := key
  refine ⟨⟨(sm_v _).2 ⟨?_, ?_, ?_⟩, iv_v.2 ⟨iv_zero, ?_⟩⟩, ⟨by omega, by omega, fun _ => ⟨k1, k2⟩, fun e => absurd e hne⟩, ?_⟩
  · show (xs.map (·.v)).length ≤ 70000
    rw [List.length_map]; omega
  · show ys.length ≤ 70000
    rw [hy]; split <;> omega
  · intro x hx
    obtain ⟨p, hp, rfl⟩ := List.mem_map.1 (show x ∈ xs.map (·.v) from hx)
    exact (h.ok p hp).1
  · intro x hx
    obtain ⟨p, hp, rfl⟩ := List.mem_map.1 (show x ∈ xs.map (·.v) from hx)
    exact (h.ok p hp).2
  · intro hsh c t hlc hdc hcn hiv
    subst hsh
    obtain ⟨q1, q2, q3⟩ := kind_of hcn hlc
    rw [h1] at q1
    have hiL := (iv_v.1 hiv).2
    have main : c.h = { hd0 with k := k } → (∀ x ∈ c.l, Cn x) → (if (k == 6) = true then c.ns.length = c.l.length else c.ns = []) → (.mk { hd0 with k := k } (xs.map (·.v)) ys : V) = c ∧ l' = t ∧ sh' = false := by
      intro e hL hN
      have hR : layR c = be 4 c.l.length ++ layL (k == 6) c.l c.ns := by
        have e6 : decide (c.h.k = 6) = (k == 6) := by rw [kd e]; rfl
        unfold layR
        rw [← e6, kd e]
        rcases hk with rfl | rfl <;> rfl
      have hcl : c.l.length < 4294967296 := by
        have hll : ∀ (r : Bool) (l : List V) (ns : List ByteArray), l.length ≤ (layL r l ns).length := by
          intro r l
          induction l with
          | nil => intro ns; simp
          | cons x l ih =>
            intro ns
            have := ih ns.tail
            have hx : 1 ≤ (lay x).length := by rw [lay_v, List.length_append, be_len]; omega
            rw [layL, List.length_append, List.length_append, List.length_cons]
            omega
        have q := congrArg List.length hlc
        have q4 := hll (k == 6) c.l c.ns
        rw [List.length_append, lay_v, hR, List.length_append, List.length_append] at q
        omega
      have hb : tkB 4 (tkR 1 l) = be 4 c.l.length := by rw [q2, hR, List.append_assoc, tkB_app (be_len _ _)]
      have ho : ofB (tkB 4 (tkR 1 l)) = c.l.length := by rw [hb, ofB_be (by have q : (256 : Nat) ^ 4 = 4294967296 := (by decide); omega)]
      have hr : tkR 4 (tkR 1 l) = layL (k == 6) c.l c.ns ++ t := by rw [q2, hR, List.append_assoc, tkR_app (be_len _ _)]
      have hsf : tkS 4 (tkR 1 l) (tkS 1 l false) = false := by rw [q3, q2, hR, List.append_assoc, tkS_app (be_len _ _)]
      obtain ⟨a1, a2, a3, a4⟩ := h.strong hsf c.l c.ns t hr (fun x hx => ⟨hD c hdc (by rw [kd e]; exact hk) x hx, hL x hx, hiL x hx⟩) hN (by omega)
      have hic : i = c.l.length := by rw [hn a4, ho]
      rw [hic] at a1 a2 a3
      rw [List.drop_length, layL, List.nil_append] at a1
      rw [List.take_length] at a2
      refine ⟨v_ext e.symm a2 ?_, a1, a4⟩
      rw [a3] 
      show c.ns.take c.l.length = c.ns
      split at hN
      · rw [← hN, List.take_length]
      · rw [hN]; simp
    rcases cn_v.1 hcn with ⟨e, -⟩ | ⟨e, -⟩ | ⟨e, -⟩ | ⟨e, -⟩ | ⟨e, en, el⟩ | ⟨e, en, el⟩
    · have := kd e; omega
    · have := kd e; omega
    · have := kd e; omega
    · have := kd e; omega
    · have e5 : k = 5 := by have := kd e; omega
      subst e5
      exact main e el (by simpa using en)
    · have e6 : k = 6 := by have := kd e; omega
      subst e6
      exact main e el (by simpa using en)
end Go.Proofs.Ytbhlgajdoegboaa
namespace Go.Proofs.Ytbhlgajdoegboaa
open Go.RowKit
theorem vq_1 (D : V → Prop) {l : List UInt8} {sh : Bool} (h1 : ofB (tkB 1 l) = 1) : VQ D l sh (tV (ofB (tkB 1 (tkR 1 l)) == 1)) (tkR 1 (tkR 1 l)) (tkS 1 (tkR 1 l) (tkS 1 l sh)) := by
  have hl := nil_of (l := l) (by omega)
  have hs := step_len hl
  have h3 := tkR_len 1 (tkR 1 l)
  have h3' : 0 + 0 + 0 + (tkR 1 (tkR 1 l)).length ≤ (tkR 1 l).length := by omega
  refine ⟨⟨sm_flat _, iv_flat iv_zero⟩, cost_flat hl ?_, ?_⟩
  · exact h3'
  · intro hsh c t hl _ hc hi
    subst hsh
    obtain ⟨k1, k2, k3⟩ := kind_of hc hl
    rw [h1] at k1
    rcases cn_v.1 hc with ⟨e, el, en⟩ | ⟨e, el, en⟩ | ⟨e, el, en⟩ | ⟨e, el, en⟩ | ⟨e, -⟩ | ⟨e, -⟩
    · have hR : layR c = be 1 (if c.h.b then 1 else 0) := by
        unfold layR
        rw [if_pos (kd e)]
      rw [k2, hR, k3, tkB_app (be_len _ _), tkR_app (be_len _ _), tkS_app (be_len _ _)]
      refine ⟨v_ext ?_ el.symm en.symm, rfl, rfl⟩
      rw [e]
      cases c.h.b <;> rfl
    · have := kd e; omega
    · have := kd e; omega
    · have := kd e; omega
    · have := kd e; omega
    · have := kd e; omega
theorem vq_3 (D : V → Prop) {l : List UInt8} {sh : Bool} (hlen : l.length ≤ 65536) (h1 : ofB (tkB 1 l) = 3) : VQ D l sh (xV ⟨(txB (tkR 1 l)).toArray⟩) (txR (tkR 1 l)) (txS (tkR 1 l) (tkS 1 l sh)) := by
  have hl := nil_of (l := l) (by omega)
  have hs := step_len hl
  have h3 := tx_len (tkR 1 l)
  have h3' : (txB (tkR 1 l)).length + 0 + 0 + (txR (tkR 1 l)).length ≤ (tkR 1 l).length := by omega
  refine ⟨⟨sm_flat _, iv_flat iv_zero⟩, cost_flat hl ?_, ?_⟩
  · exact h3'
  · intro hsh c t hl _ hc hi
    subst hsh
    obtain ⟨k1, k2, k3⟩ := kind_of hc hl
    rw [h1] at k1
    rcases cn_v.1 hc with ⟨e, el, en⟩ | ⟨e, el, en⟩ | ⟨e, el, en⟩ | ⟨e, el, en⟩ | ⟨e, -⟩ | ⟨e, -⟩
    · have := kd e; omega
    · have := kd e; omega
    · have hR : layR c = layT c.h.s := by
        unfold layR
        rw [if_neg (by rw [kd e]; decide), if_neg (by rw [kd e]; decide), if_pos (kd e)]
      have hz : c.h.s.size < 4294967296 := by
        have q := congrArg List.length hl
        rw [List.length_append, lay_v, hR, List.length_append, layT_len] at q
        omega
      obtain ⟨q1, q2, q3⟩ := tx_layT c.h.s hz t (tkS 1 l false)
      rw [k2, hR, q1, q2, q3, k3]
      refine ⟨v_ext ?_ el.symm en.symm, rfl, rfl⟩
      rw [e]
      rfl
    · have := kd e; omega
    · have := kd e; omega
    · have := kd e; omega
theorem vq_4 (D : V → Prop) {l : List UInt8} {sh : Bool} (hlen : l.length ≤ 65536) (h1 : ofB (tkB 1 l) = 4) (a b : ByteArray) (ha : a = ⟨(txB (tkR 1 l)).toArray⟩) (hb : b = ⟨(txB (txR (tkR 1 l))).toArray⟩) : VQ D l sh (.mk { hd0 with k := 4, t := a, i := b } [] []) (txR (txR (tkR 1 l))) (txS (txR (tkR 1 l)) (txS (tkR 1 l) (tkS 1 l sh))) := by
  have za : a.size = (txB (tkR 1 l)).length := by rw [ha]; rfl
  have zb : b.size = (txB (txR (tkR 1 l))).length := by rw [hb]; rfl
  have hl := nil_of (l := l) (by omega)
  have hs := step_len hl
  have h3 := tx_len (tkR 1 l)
  have h4 := tx_len (txR (tkR 1 l))
  have h3' : 0 + a.size + b.size + (txR (txR (tkR 1 l))).length ≤ (tkR 1 l).length := by omega
  refine ⟨⟨sm_flat _, iv_flat iv_zero⟩, cost_flat hl ?_, ?_⟩
  · exact h3'
  · intro hsh c t hl _ hc hi
    subst hsh
    obtain ⟨k1, k2, k3⟩ := kind_of hc hl
    rw [h1] at k1
    rcases cn_v.1 hc with ⟨e, el, en⟩ | ⟨e, el, en⟩ | ⟨e, el, en⟩ | ⟨e, el, en⟩ | ⟨e, -⟩ | ⟨e, -⟩
    · have := kd e; omega
    · have := kd e; omega
    · have := kd e; omega
    · have hR : layR c = layT c.h.t ++ layT c.h.i := by
        unfold layR
        rw [if_neg (by rw [kd e]; decide), if_neg (by rw [kd e]; decide), if_neg (by rw [kd e]; decide), if_pos (kd e)]
      have hz : c.h.t.size < 4294967296 ∧ c.h.i.size < 4294967296 := by
        have q := congrArg List.length hl
        rw [List.length_append, lay_v, hR, List.length_append, List.length_append, layT_len, layT_len] at q
        omega
      obtain ⟨q1, q2, q3⟩ := tx_layT c.h.t hz.1 (layT c.h.i ++ t) (tkS 1 l false)
      obtain ⟨p1, p2, p3⟩ := tx_layT c.h.i hz.2 t (tkS 1 l false)
      have e1 : a = c.h.t := by rw [ha, k2, hR, List.append_assoc, q1]
      have e2 : b = c.h.i := by rw [hb, k2, hR, List.append_assoc, q2, p1]
      rw [k2, hR, List.append_assoc, q2, q3, p2, p3, k3, e1, e2]
      refine ⟨v_ext ?_ el.symm en.symm, rfl, rfl⟩
      rw [e]
      rfl
    · have := kd e; omega
    · have := kd e; omega
theorem vq_bad (D : V → Prop) {l : List UInt8} {sh : Bool} {m : Int} (hm : m = ((ofB (tkB 1 l) : Nat) : Int)) (h1 : (m < 1 ∨ 6 < m) ∨ ∀ c, D c → Cn c → False) : VQ D l sh (.mk { hd0 with k := m } [] []) [] true := by
  have hv := vb_flat { hd0 with k := m }
  have e0 : (⟨#[]⟩ : ByteArray).size = 0 := rfl
  simp only [hd0, e0] at hv
  refine ⟨⟨sm_flat _, iv_flat iv_zero⟩, ⟨Nat.zero_le _, ?_, fun hl => ?_, fun _ => rfl⟩, ?_⟩
  · simp only [hd0, List.length_nil]
    omega
  · have := List.length_pos_iff.2 hl
    simp only [hd0, List.length_nil]
    exact ⟨by omega, by omega⟩
  · intro _ c t hl hd hc hi
    rcases h1 with h1 | h1
    · obtain ⟨k1, k2, k3⟩ := kind_of hc hl
      rcases cn_v.1 hc with ⟨e, -⟩ | ⟨e, -⟩ | ⟨e, -⟩ | ⟨e, -⟩ | ⟨e, -⟩ | ⟨e, -⟩
      all_goals
        have := kd e
        omega
    · exact (h1 c hd hc).elim
theorem be_8 (u : Nat) : be 8 u = be 4 (u / 4294967296) ++ be 4 (u % 4294967296) := by
  have f : ∀ d m : Nat, 4294967296 = d * (256 * m) → UInt8.ofNat (u / d) = UInt8.ofNat (u % 4294967296 / d) := fun d m hd => by
    apply UInt8.toNat_inj.1
    rw [UInt8.toNat_ofNat', UInt8.toNat_ofNat', hd, Nat.mod_mul_right_div_self, show (2 : Nat) ^ 8 = 256 from rfl, Nat.mod_mul_right_mod]
  have g : ∀ d : Nat, UInt8.ofNat (u / (4294967296 * d)) = UInt8.ofNat (u / 4294967296 / d) := fun d => by rw [Nat.div_div_eq_div_mul]
  have e7 := g 16777216
  have e6 := g 65536
  have e5 := g 256
  have e4 := g 1
  have e3 := f 16777216 1 (by decide)
  have e2 := f 65536 256 (by decide)
  have e1 := f 256 65536 (by decide)
  have e0 := f 1 16777216 (by decide)
  simp only [be, Nat.reducePow, List.cons_append, List.nil_append]
  simp only [Nat.reduceMul] at e7 e6 e5 e4
  rw [e7, e6, e5, e4, e3, e2, e1, e0]
/-- A number in two parts. -/
theorem vq_2 (D : V → Prop) {l : List UInt8} {sh : Bool} (h1 : ofB (tkB 1 l) = 2) {z : Int} (hz : z = wrap64 (((ofB (tkB 4 (tkR 1 l)) * 4294967296 + ofB (tkB 4 (tkR 4 (tkR 1 l))) : Nat) : Int))) : VQ D l sh (.mk { hd0 with k := 2, n := z } [] []) (tkR 4 (tkR 4 (tkR 1 l))) (tkS 4 (tkR 4 (tkR 1 l)) (tkS 4 (tkR 1 l) (tkS 1 l sh))) := by
  have hl := nil_of (l := l) (by omega)
  have hs := step_len hl
  have h3 := tkR_len 4 (tkR 1 l)
  have h4 := tkR_len 4 (tkR 4 (tkR 1 l))
  have h3' : 0 + 0 + 0 + (tkR 4 (tkR 4 (tkR 1 l))).length ≤ (tkR 1 l).length := by omega
  refine ⟨⟨sm_flat _, iv_flat (by rw [hz]; exact wrap64_range _)⟩, cost_flat hl ?_, ?_⟩
  · exact h3'
  · intro hsh c t hl _ hc hi
    subst hsh
    obtain ⟨k1, k2, k3⟩ := kind_of hc hl
    rw [h1] at k1
    rcases cn_v.1 hc with ⟨e, el, en⟩ | ⟨e, el, en⟩ | ⟨e, el, en⟩ | ⟨e, el, en⟩ | ⟨e, -⟩ | ⟨e, -⟩
    · have := kd e; omega
    · have hR : layR c = be 8 (c.h.n % 18446744073709551616).toNat := by
        unfold layR
        rw [if_neg (by rw [kd e]; decide), if_pos (kd e)]
      obtain ⟨u, hu⟩ : ∃ u, u = (c.h.n % 18446744073709551616).toNat := ⟨_, rfl⟩
      rw [← hu] at hR
      have hn := (iv_v.1 hi).1
      have hu9 : u < 18446744073709551616 := by omega
      have h8 : be 8 u = be 4 (u / 4294967296) ++ be 4 (u % 4294967296) := be_8 u
      have q1 : tkR 1 l = be 4 (u / 4294967296) ++ (be 4 (u % 4294967296) ++ t) := by rw [k2, hR, h8, List.append_assoc]
      have q2 : tkR 4 (tkR 1 l) = be 4 (u % 4294967296) ++ t := by rw [q1, tkR_app (be_len _ _)]
      have q3 : tkB 4 (tkR 1 l) = be 4 (u / 4294967296) := by rw [q1, tkB_app (be_len _ _)]
      have q4 : tkB 4 (tkR 4 (tkR 1 l)) = be 4 (u % 4294967296) := by rw [q2, tkB_app (be_len _ _)]
      have q5 : tkR 4 (tkR 4 (tkR 1 l)) = t := by rw [q2, tkR_app (be_len _ _)]
      have p4 : (256 : Nat) ^ 4 = 4294967296 := by decide
      have hw : z = c.h.n := by
        rw [hz, q3, q4, ofB_be (by omega), ofB_be (by omega)]
        unfold wrap64
        omega
      rw [k3, q5, q2, tkS_app (be_len _ _), q1, tkS_app (be_len _ _), hw]
      refine ⟨v_ext ?_ el.symm en.symm, rfl, rfl⟩
      rw [e]
      rfl
    · have := kd e; omega
    · have := kd e; omega
    · have := kd e; omega
    · have := kd e; omega
end Go.Proofs.Ytbhlgajdoegboaa
