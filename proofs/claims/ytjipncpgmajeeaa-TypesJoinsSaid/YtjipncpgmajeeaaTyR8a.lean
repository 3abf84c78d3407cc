/- A record that is being built out of types that lie below a mark or in new memory. No condition. -/
import Derived.Test.YtjipncpgmajeeaaTyR7
import Derived.Test.YtjipncpgmajeeaaTyRp
namespace Go.Proofs.Ytjipncpgmajeeaa
open Go.RowKit
/-- As RecSt; D: the elder blocks that its attributes' types may lie in. -/
structure RecSx (D : Nat → Prop) (w0 : World) (B rb n : Nat) (W : World) (vr : Value) (ps : List Ae) : Prop where
  box : BoxAt W rb [.int .i64 8, .string ⟨#[]⟩, .slice none 0 0, vr]
  row : OwnR 30 6 encA B W vr ps
  els : ∀ p ∈ ps, AeOk (fun b => ((D b ∧ b < w0.heap.size) ∨ B ≤ b) ∧ some b ≠ vr.ownBlock) W n p
  low : Low w0 W
  rbB : rb < B
  w0B : w0.heap.size ≤ rb
  szB : B ≤ W.heap.size
theorem RecSx.to {D : Nat → Prop} {w0 W W' : World} {B rb n : Nat} {vr : Value} {ps : List Ae} (h : RecSx D w0 B rb n W vr ps) (l : Low W W') : RecSx D w0 B rb n W' vr ps :=
  ⟨h.box.low l, OwnR.low h.row l, fun p hp => ⟨(h.els p hp).1, RT.low (h.els p hp).2 l⟩, h.low.trans l, h.rbB, h.w0B, Nat.le_trans h.szB l.size⟩
theorem RecSx.put {D : Nat → Prop} {w0 W w4 : World} {B rb n : Nat} {vr v' : Value} {ps : List Ae} {p : Ae} (h : RecSx D w0 B rb n W vr ps) (h2 : OwnR 30 6 encA B w4 v' (ps ++ [p])) (bl : RowKit.Below B W w4)
    (k2 : ∀ b, b < W.heap.size → some b ≠ vr.ownBlock → w4.heap[b]? = W.heap[b]?) (n2 : v'.ownBlock = vr.ownBlock ∨ ∀ y, v'.ownBlock = some y → W.heap.size ≤ y)
    (hp : AeOk (fun b => ((D b ∧ b < w0.heap.size) ∨ B ≤ b) ∧ some b ≠ vr.ownBlock) W n p) : RecSx D w0 B rb n (w4.setCell ⟨rb, 3, none⟩ v') v' (ps ++ [p]) := by
  have KR := kept_setCell w4 rb 3 v'
  have hgv : ∀ b, b < W.heap.size → some b ≠ vr.ownBlock → some b ≠ v'.ownBlock := fun b hb hne e => by
    rcases n2 with n2 | n2
    · exact hne (e.trans n2)
    · have := n2 b e.symm; omega
  refine ⟨?_, ?_, ?_, ?_, h.rbB, h.w0B, Nat.le_trans h.szB (Nat.le_trans bl.size KR.2.2.1)⟩
  · have b1 : BoxAt w4 rb [.int .i64 8, .string ⟨#[]⟩, .slice none 0 0, vr] := by
      have hb := bl.block rb h.rbB
      refine ⟨fun j v hj => ?_, fun o => ?_, Nat.lt_of_lt_of_le h.box.lt bl.size⟩
      · rw [World.cell?_of_block (w := W) (w' := w4) (a := ⟨rb, 0 + j, none⟩) hb]; exact h.box.cells j v hj
      · rw [World.frozen?_of_block (w := W) (w' := w4) (a := ⟨rb, o, none⟩) hb]; exact h.box.open' o
    exact b1.set 3 _
  · exact h2.to fun g' hg' => KR.2.2.2 g' (World.ownsRow.lt h2 g' hg').2 (by have := (World.ownsRow.lt h2 g' hg').1; have := h.rbB; simp; omega)
  · intro q hq
    have mk : ∀ q : Ae, AeOk (fun b => ((D b ∧ b < w0.heap.size) ∨ B ≤ b) ∧ some b ≠ vr.ownBlock) W n q → AeOk (fun b => ((D b ∧ b < w0.heap.size) ∨ B ≤ b) ∧ some b ≠ v'.ownBlock) (w4.setCell ⟨rb, 3, none⟩ v') n q := fun q ho => ⟨ho.1, RT.to (fun b hb hlt => by
      have hbr : b ≠ rb := by
        have h1 := h.rbB
        have h2 := h.w0B
        rcases hb.1 with h3 | h3
        · have := h3.2; omega
        · omega
      refine ⟨⟨hb.1, hgv b hlt hb.2⟩, ?_⟩
      rw [KR.2.2.2 b (Nat.lt_of_lt_of_le hlt bl.size) (by simpa using hbr), k2 b hlt hb.2]) ho.2⟩
    rcases List.mem_append.1 hq with hq | hq
    · exact mk q (h.els q hq)
    · simp at hq; subst hq; exact mk q hp
  · have l4 : Low w0 w4 := ⟨bl.os.trans h.low.1, bl.output.trans h.low.2.1, Nat.le_trans h.low.2.2.1 bl.size, fun k hk => (bl.block k (by have := h.w0B; have := h.rbB; omega)).trans (h.low.2.2.2 k hk)⟩
    exact l4.kept KR fun x hx => by simp at hx; have := h.w0B; omega
end Go.Proofs.Ytjipncpgmajeeaa
