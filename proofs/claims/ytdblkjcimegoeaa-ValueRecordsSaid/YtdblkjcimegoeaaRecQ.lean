/- A record that a call builds up: one name, one value behind the other. No condition. -/
import Derived.Test.YtdblkjcimegoeaaUniP
import Derived.Test.YtdblkjcimegoeaaOpenR
import Derived.Test.YtdblkjcimegoeaaCanon
import Derived.Deep.RegionLaw
namespace Go.Proofs.Ytdblkjcimegoeaa
open Go.RowKit Go.Sort
/-- append of one element, as a step of a region that draws its order. -/
theorem ownR_step {α : Type} {e : TypeId} {k : Nat} {enc : α → List Value} {ops : Array Oper} {o : Oper} {a : Act} {w : World} {K : Act → World → Prop} {Q : Exit → Act → World → Prop} {E : Prop} (hgd : o.guard = none) (s x : Operand) (t : TypeId)
    (ho : o.op = .call { callee := .builtin .append, args := #[s, x], argTypes := #[t, t] }) (ht : Try.prog.underlying t = some (.slice e)) {z : Value} {bytes : Nat}
    (hinfo : (Try.prog.info? e).map (fun i => (i.zero, i.size, i.bytes)) = some (some z, k, bytes)) (hz : z.cells.size = k) (hk0 : 0 < k) (hby : bytes ≤ 1000)
    (hk : ∀ x, (enc x).length = k) (h1 : ∀ x, ∀ u ∈ enc x, u.oneCell' = true)
    (B : Nat) (v : Value) (l : List α) (hs : a.eval s = v) (hown : OwnR e k enc B w v l) (y : α) (ad : Addr) (c : Nat) (hx : a.eval x = .slice (some ad) 1 c)
    (hnews : ∀ j u, (enc y)[j]? = some u → w.cell? (ad.add j) = some u) (hlen : l.length ≤ 1000000) (hb : B ≤ w.heap.size)
    (h : ∀ v' w', OwnR e k enc B w' v' (l ++ [y]) → Below B w w' → (∀ b, b < w.heap.size → some b ≠ v.ownBlock → w'.heap[b]? = w.heap[b]?) → K (a.put o.dst v') w') : if Region.wanted o (yielded ops a.tmps) = true then Oper.wp Try.prog o a w K Q else E := by
  have hw : Region.wanted o (yielded ops a.tmps) = true := by simp [Region.wanted, hgd]
  rw [if_pos hw]
  obtain ⟨i0, hi, hz0, hz1, hz2⟩ := info_parts hinfo
  have hby2 : (l.length + 1) * bytes ≤ 140737488355328 := by
    have := Nat.mul_le_mul (show l.length + 1 ≤ 1000001 by omega) hby
    omega
  have hnl : (enc y).length = 1 * k := by rw [hk, Nat.one_mul]
  refine wp_append_own w s x t ho B e i0 z k bytes ht hi hz0 hz1 hz2 hz hk0 v l.length (l.flatMap enc) hs hown ad 1 c (enc y) hx hnl hnews (h1 y) (by unfold maxLen; omega) hby2 hb fun v' w' h1 h2 _ => h v' w' ?_ ((Below.refl _ _).grown h2 hb fun k hk => (World.ownsRow.lt hown k hk).1) fun b hb hne => h2.block b hb hne
  unfold OwnR
  rw [show (l ++ [y]).flatMap enc = l.flatMap enc ++ enc y by simp, List.length_append]
  exact h1
theorem OwnR.block {α : Type} {e : TypeId} {k : Nat} {enc : α → List Value} {B : Nat} {w : World} {v : Value} {l : List α} (h : OwnR e k enc B w v l) {g : Nat} (hg : v.ownBlock = some g) : ∃ cur, w.heap[g]? = some (.cells cur e) := by
  rcases h.2 with ⟨rfl, -⟩ | ⟨g', cap, cur, rfl, h1, h2, -⟩
  · simp [Value.ownBlock] at hg
  · have : g' = g := by simpa [Value.ownBlock] using hg
    subst this
    exact ⟨cur, h2⟩
/-- Rows of other types lie in other blocks. -/
theorem OwnR.apart {α β : Type} {e e' : TypeId} {k k' : Nat} {enc : α → List Value} {enc' : β → List Value} {B B' : Nat} {w : World} {v v' : Value} {l : List α} {l' : List β} (h : OwnR e k enc B w v l) (h' : OwnR e' k' enc' B' w v' l') (he : e ≠ e') {g : Nat} (hg : v.ownBlock = some g) : some g ≠ v'.ownBlock := fun e9 => by
  obtain ⟨c, hc⟩ := h.block hg
  obtain ⟨c', hc'⟩ := h'.block e9.symm
  rw [hc] at hc'
  simp only [Option.some.injEq, Obj.cells.injEq] at hc'
  exact he hc'.2.1
/-- Where the building stands. -/
structure RSt (W0 : World) (rb : Nat) (W : World) (a b : Value) (xs : List El) (ys : List ByteArray) : Prop where
  rec' : RecAt W rb a b
  its : OwnV W0.heap.size W a xs
  nms : OwnR 9 1 encN W0.heap.size W b ys
  rbl : rb < W0.heap.size
  kept : KeptBut W0 W (some rb)
theorem RSt.grow {W0 W W' : World} {rb : Nat} {a b : Value} {xs : List El} {ys : List ByteArray} (h : RSt W0 rb W a b xs ys) (l : Low W W') : RSt W0 rb W' a b xs ys :=
  ⟨h.rec'.low l, OwnR.low h.its l, OwnR.low h.nms l, h.rbl, h.kept.trans (KeptBut.of_low l)⟩
theorem names_put {W0 W w2 : World} {rb : Nat} {a b b2 : Value} {xs : List El} {ys ys2 : List ByteArray} (h : RSt W0 rb W a b xs ys) (h2 : OwnR 9 1 encN W0.heap.size w2 b2 ys2) (bl : RowKit.Below W0.heap.size W w2)
    (k2 : ∀ x, x < W.heap.size → some x ≠ b.ownBlock → w2.heap[x]? = W.heap[x]?) : RecAt w2 rb a b ∧ RSt W0 rb (w2.setCell ⟨rb, 7, none⟩ b2) a b2 xs ys2 := by
  have K2 := kept_of bl k2
  have hrb : some rb ≠ b.ownBlock := fun e => by have := (World.ownsRow.lt h.nms rb e.symm).1; have := h.rbl; omega
  have KS := kept_setCell w2 rb 7 b2
  have R2 : RecAt w2 rb a b := h.rec'.kept K2 hrb
  refine ⟨R2, R2.names b2, ?_, ?_, h.rbl, ?_⟩
  · refine OwnR.to h.its fun g hg => ?_
    have hl := World.ownsRow.lt h.its g hg
    rw [KS.2.2.2 g (Nat.lt_of_lt_of_le hl.2 K2.2.2.1) (by simp; have := h.rbl; omega), K2.2.2.2 g hl.2 (OwnR.apart h.its h.nms (by decide) hg)]
  · refine OwnR.to h2 fun g hg => KS.2.2.2 g (World.ownsRow.lt h2 g hg).2 (by simp; have := (World.ownsRow.lt h2 g hg).1; have := h.rbl; omega)
  · exact (h.kept.more K2 fun g hg => (World.ownsRow.lt h.nms g hg).1).trans KS
theorem items_put {W0 W w2 : World} {rb : Nat} {a b a2 : Value} {xs xs2 : List El} {ys : List ByteArray} (h : RSt W0 rb W a b xs ys) (h2 : OwnV W0.heap.size w2 a2 xs2) (bl : RowKit.Below W0.heap.size W w2)
    (k2 : ∀ x, x < W.heap.size → some x ≠ a.ownBlock → w2.heap[x]? = W.heap[x]?) : RecAt w2 rb a b ∧ RSt W0 rb (w2.setCell ⟨rb, 6, none⟩ a2) a2 b xs2 ys := by
  have K2 := kept_of bl k2
  have hrb : some rb ≠ a.ownBlock := fun e => by have := (World.ownsRow.lt h.its rb e.symm).1; have := h.rbl; omega
  have KS := kept_setCell w2 rb 6 a2
  have R2 : RecAt w2 rb a b := h.rec'.kept K2 hrb
  refine ⟨R2, R2.items a2, ?_, ?_, h.rbl, ?_⟩
  · refine OwnR.to h2 fun g hg => KS.2.2.2 g (World.ownsRow.lt h2 g hg).2 (by simp; have := (World.ownsRow.lt h2 g hg).1; have := h.rbl; omega)
  · refine OwnR.to h.nms fun g hg => ?_
    have hl := World.ownsRow.lt h.nms g hg
    rw [KS.2.2.2 g (Nat.lt_of_lt_of_le hl.2 K2.2.2.1) (by simp; have := h.rbl; omega), K2.2.2.2 g hl.2 (OwnR.apart h.nms h.its (by decide) hg)]
  · exact (h.kept.more K2 fun g hg => (World.ownsRow.lt h.its g hg).1).trans KS
end Go.Proofs.Ytdblkjcimegoeaa
