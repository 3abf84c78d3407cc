/- A record's row of attributes, built one by one. No condition. -/
import Derived.Test.YtjipncpgmajeeaaTyN
import Derived.Test.YtjipncpgmajeeaaTyJw
import Derived.Deep.RegionLawGrows
namespace Go.Proofs.Ytjipncpgmajeeaa
open Go.RowKit
/-- append of one element as a step of a region that draws its order. -/
theorem ownR_step2 {α : Type} {e : TypeId} {k : Nat} {enc : α → List Value} {ops : Array Oper} {o : Oper} {a : Act} {w : World} {K : Act → World → Prop} {Q : Exit → Act → World → Prop} {E : Prop} (hgd : o.guard = none) (s x : Operand) (t : TypeId)
    (ho : o.op = .call { callee := .builtin .append, args := #[s, x], argTypes := #[t, t] }) (ht : Try.prog.underlying t = some (.slice e)) {z : Value} {bytes : Nat}
    (hinfo : (Try.prog.info? e).map (fun i => (i.zero, i.size, i.bytes)) = some (some z, k, bytes)) (hz : z.cells.size = k) (hk0 : 0 < k) (hby : bytes ≤ 1000)
    (hk : ∀ x, (enc x).length = k) (h1 : ∀ x, ∀ u ∈ enc x, u.oneCell' = true)
    (B : Nat) (v : Value) (l : List α) (hs : a.eval s = v) (hown : OwnR e k enc B w v l) (y : α) (ad : Addr) (c : Nat) (hx : a.eval x = .slice (some ad) 1 c)
    (hnews : ∀ j u, (enc y)[j]? = some u → w.cell? (ad.add j) = some u) (hlen : l.length ≤ 1000000) (hb : B ≤ w.heap.size)
    (h : ∀ v' w', OwnR e k enc B w' v' (l ++ [y]) → Below B w w' → (∀ b, b < w.heap.size → some b ≠ v.ownBlock → w'.heap[b]? = w.heap[b]?) → (v'.ownBlock = v.ownBlock ∨ ∀ g, v'.ownBlock = some g → w.heap.size ≤ g) → K (a.put o.dst v') w') : if Region.wanted o (yielded ops a.tmps) = true then Oper.wp Try.prog o a w K Q else E := by
  have hw : Region.wanted o (yielded ops a.tmps) = true := by simp [Region.wanted, hgd]
  obtain ⟨i0, hi, hz0, hz1, hz2⟩ := info_parts hinfo
  have hby2 : (l.length + 1) * bytes ≤ 140737488355328 := by
    have := Nat.mul_le_mul (show l.length + 1 ≤ 1000001 by omega) hby
    omega
  have hnl : (enc y).length = 1 * k := by rw [hk, Nat.one_mul]
  have happ : (l ++ [y]).flatMap enc = l.flatMap enc ++ enc y := by simp
  have hlt := World.ownsRow.lt hown
  rcases hown.2 with ⟨rfl, hn⟩ | ⟨g, cap, cur, rfl, hbg, hg, hnc, hcm, hcs, htake⟩
  · have hl : l = [] := List.eq_nil_of_length_eq_zero hn
    subst hl
    refine step_append_grows hgd s x t ho e i0 z k bytes ht hi hz0 hz1 hz2 hz hk0 none 0 0 [] hs (fun _ => ⟨rfl, rfl⟩) (by simp) (fun b hb => by simp at hb) ad 1 c (enc y) hx hnl hnews (h1 y) (by omega) (by unfold maxLen; omega) (by simpa using hby2) fun v' w' r1 r2 => ?_
    have r3 : OwnR e k enc w.heap.size w' v' ([] ++ [y]) := by unfold OwnR; rw [happ]; exact r1
    exact h v' w' (r3.base hb) ((Below.refl _ _).grown r2 hb (by simp)) (fun b hb _ => r2.block b hb (by simp)) (.inr fun g hg => (World.ownsRow.lt r3 g hg).1)
  · by_cases hroom : l.length + 1 ≤ cap
    · rw [if_pos hw]
      obtain ⟨w', hrun, r1, r2⟩ := run_append_fits (P := Try.prog) w B t o.type e i0 k ht hi hz1 g l.length cap (l.flatMap enc) hown ad 1 c (enc y) hnl hnews (h1 y) hroom
      unfold Oper.wp
      simp [execOp, ho, resolve, invoke, builtin, hs, hx, hrun, Result.andThen]
      refine h _ w' ?_ ((Below.refl _ _).grown r2 hb fun k hk => by simp at hk; subst hk; exact hbg) (fun b hb hne => r2.block b hb hne) (.inl rfl)
      unfold OwnR; rw [happ, List.length_append]; exact r1
    · have holds : ∀ b, some (⟨g, 0, none⟩ : Addr) = some b → ∀ j u, (l.flatMap enc)[j]? = some u → w.cell? (b.add j) = some u := fun b hb => by
        simp only [Option.some.injEq] at hb
        subst hb
        exact World.ownsRow.cells hown (g := g) rfl
      refine step_append_grows hgd s x t ho e i0 z k bytes ht hi hz0 hz1 hz2 hz hk0 (some ⟨g, 0, none⟩) l.length cap (l.flatMap enc) hs (fun h => by simp at h) hown.1 holds ad 1 c (enc y) hx hnl hnews (h1 y) (by omega) (by unfold maxLen; omega) hby2 fun v' w' r1 r2 => ?_
      have r3 : OwnR e k enc w.heap.size w' v' (l ++ [y]) := by unfold OwnR; rw [happ, List.length_append]; exact r1
      exact h v' w' (r3.base hb) ((Below.refl _ _).grown r2 hb (by simp)) (fun b hb _ => r2.block b hb (by simp)) (.inr fun g hg => (World.ownsRow.lt r3 g hg).1)
def aeZ : Ae := ⟨(⟨#[]⟩, noT, false), none, 0, none, 0⟩
theorem enc_aeZ : encA aeZ = [.string ⟨#[]⟩, .int .i64 0, .string ⟨#[]⟩, .slice none 0 0, .slice none 0 0, .bool false] := rfl
theorem own_put6 {B g cap n : Nat} {w : World} {xs : List Ae} {p0 p : Ae} (hn : n = xs.length) (h : OwnR 30 6 encA B w (.slice (some ⟨g, 0, none⟩) (n + 1) cap) (xs ++ [p0])) :
    OwnR 30 6 encA B (((((((w.setCell ⟨g, n * 6, none⟩ (.string (an p.x))).setCell ⟨g, n * 6 + 1, none⟩ (.int .i64 (aty p.x).k)).setCell ⟨g, n * 6 + 2, none⟩ (.string (aty p.x).n)).setCell ⟨g, n * 6 + 3, none⟩ (.slice p.pe (aty p.x).l.length p.ce)).setCell ⟨g, n * 6 + 4, none⟩ (.slice p.pv (aty p.x).ats.length p.cv)).setCell ⟨g, n * 6 + 5, none⟩ (.bool (ao p.x)))) (.slice (some ⟨g, 0, none⟩) (n + 1) cap) (xs ++ [p]) := by
  subst hn
  have hl : (xs ++ [p0]).length = xs.length + 1 := by simp
  have hl2 : (xs ++ [p]).length = xs.length + 1 := by simp
  unfold OwnR at h ⊢
  rw [hl] at h
  rw [hl2]
  have h8 := (((((h.stored (xs.length * 6) (.string (an p.x))).1.stored (xs.length * 6 + 1) (.int .i64 (aty p.x).k)).1.stored (xs.length * 6 + 2) (.string (aty p.x).n)).1.stored (xs.length * 6 + 3) (.slice p.pe (aty p.x).l.length p.ce)).1.stored (xs.length * 6 + 4) (.slice p.pv (aty p.x).ats.length p.cv)).1.stored (xs.length * 6 + 5) (.bool (ao p.x)) |>.1
  have hx : (xs.flatMap encA).length = xs.length * 6 := flat_len encA_len xs
  have e : ∀ q : Ae, (xs ++ [q]).flatMap encA = xs.flatMap encA ++ encA q := fun q => by simp
  rw [e, List.set_append_right _ _ (by omega), List.set_append_right _ _ (by omega), List.set_append_right _ _ (by omega), List.set_append_right _ _ (by omega), List.set_append_right _ _ (by omega), List.set_append_right _ _ (by omega), hx, show xs.length * 6 - xs.length * 6 = 0 by omega,
    show xs.length * 6 + 1 - xs.length * 6 = 1 by omega, show xs.length * 6 + 2 - xs.length * 6 = 2 by omega, show xs.length * 6 + 3 - xs.length * 6 = 3 by omega, show xs.length * 6 + 4 - xs.length * 6 = 4 by omega, show xs.length * 6 + 5 - xs.length * 6 = 5 by omega] at h8
  rw [e]
  exact h8
theorem kept6 (w : World) (g a b c d e f : Nat) (c0 c1 c2 c3 c4 c5 : Value) : KeptBut w ((((((w.setCell ⟨g, a, none⟩ c0).setCell ⟨g, b, none⟩ c1).setCell ⟨g, c, none⟩ c2).setCell ⟨g, d, none⟩ c3).setCell ⟨g, e, none⟩ c4).setCell ⟨g, f, none⟩ c5) (some g) :=
  (kept4 w g a b c d c0 c1 c2 c3).trans ((kept_setCell _ g e c4).trans (kept_setCell _ g f c5))
theorem own_last6 {B n : Nat} {w : World} {v : Value} {xs : List Ae} (hn : xs.length = n) (h : OwnR 30 6 encA B w v (xs ++ [aeZ])) : ∃ g cap, v = .slice (some ⟨g, 0, none⟩) (n + 1) cap ∧ (B ≤ g ∧ g < w.heap.size) ∧
    (w.cell? ⟨g, n * 6, none⟩ = some (.string ⟨#[]⟩) ∧ w.cell? ⟨g, n * 6 + 1, none⟩ = some (.int .i64 0) ∧ w.cell? ⟨g, n * 6 + 2, none⟩ = some (.string ⟨#[]⟩) ∧ w.cell? ⟨g, n * 6 + 3, none⟩ = some (.slice none 0 0) ∧ w.cell? ⟨g, n * 6 + 4, none⟩ = some (.slice none 0 0) ∧ w.cell? ⟨g, n * 6 + 5, none⟩ = some (.bool false)) ∧ ∀ o, w.frozen? ⟨g, o, none⟩ = false := by
  subst hn
  have hl : (xs ++ [aeZ]).length = xs.length + 1 := by simp
  obtain ⟨ao', cap, rfl, -, -, h0⟩ := OwnR.shape h
  rw [hl] at h ⊢
  rcases h0 with h0 | ⟨g, rfl, h1, h2⟩
  · simp at h0
  have hc : ∀ c (hc : c < 6), w.cell? ⟨g, xs.length * 6 + c, none⟩ = some ((encA aeZ)[c]'hc) := fun c hc => by
    have := OwnR.cell encA_len h xs.length c (by simp) hc
    rw [this]
    simp only [List.getElem_append_right (Nat.le_refl _), Nat.sub_self, List.getElem_cons_zero]
    exact List.getElem?_eq_getElem hc
  exact ⟨g, cap, rfl, ⟨h1, h2⟩, ⟨hc 0 (by decide), hc 1 (by decide), hc 2 (by decide), hc 3 (by decide), hc 4 (by decide), hc 5 (by decide)⟩, fun o => OwnR.frozen h o⟩
theorem setCell_comm (w : World) (a b o o' : Nat) (u v : Value) (h : a ≠ b) : (w.setCell ⟨a, o, none⟩ u).setCell ⟨b, o', none⟩ v = (w.setCell ⟨b, o', none⟩ v).setCell ⟨a, o, none⟩ u := by
  simp only [World.setCell]
  congr 1
  apply Array.ext_getElem?
  intro i
  simp only [Array.getElem?_modify]
  by_cases h1 : a = i
  · have h2 : ¬ b = i := fun e => h (h1.trans e.symm)
    simp [h1, h2]
  · simp [h1]
/-- A record that is being built: its box at rb, its row in memory of its own; what was there ahead of it is as it was. -/
structure RecSt (w0 : World) (B rb n : Nat) (W : World) (vr : Value) (ps : List Ae) : Prop where
  box : BoxAt W rb [.int .i64 8, .string ⟨#[]⟩, .slice none 0 0, vr]
  row : OwnR 30 6 encA B W vr ps
  els : ∀ p ∈ ps, AeOk (fun b => B ≤ b ∧ some b ≠ vr.ownBlock) W n p
  low : Low w0 W
  rbB : rb < B
  w0B : w0.heap.size ≤ rb
  szB : B ≤ W.heap.size
theorem RecSt.to {w0 W W' : World} {B rb n : Nat} {vr : Value} {ps : List Ae} (h : RecSt w0 B rb n W vr ps) (l : Low W W') : RecSt w0 B rb n W' vr ps :=
  ⟨h.box.low l, OwnR.low h.row l, fun p hp => ⟨(h.els p hp).1, RT.low (h.els p hp).2 l⟩, h.low.trans l, h.rbB, h.w0B, Nat.le_trans h.szB l.size⟩
theorem RecSt.put {w0 W w4 : World} {B rb n N g cap : Nat} {vr : Value} {ps : List Ae} {p : Ae} (h : RecSt w0 B rb N W vr ps) (h2 : OwnR 30 6 encA B w4 (.slice (some ⟨g, 0, none⟩) (n + 1) cap) (ps ++ [aeZ])) (bl : RowKit.Below B W w4)
    (k2 : ∀ b, b < W.heap.size → some b ≠ vr.ownBlock → w4.heap[b]? = W.heap[b]?) (n2 : (Value.slice (some ⟨g, 0, none⟩) (n + 1) cap).ownBlock = vr.ownBlock ∨ ∀ y, (Value.slice (some ⟨g, 0, none⟩) (n + 1) cap).ownBlock = some y → W.heap.size ≤ y)
    (hp : AeOk (fun b => B ≤ b ∧ some b ≠ vr.ownBlock) W N p) (hn : n = ps.length) : RecSt w0 B rb N (((((((w4.setCell ⟨g, n * 6, none⟩ (.string (an p.x))).setCell ⟨g, n * 6 + 1, none⟩ (.int .i64 (aty p.x).k)).setCell ⟨g, n * 6 + 2, none⟩ (.string (aty p.x).n)).setCell ⟨g, n * 6 + 3, none⟩ (.slice p.pe (aty p.x).l.length p.ce)).setCell ⟨g, n * 6 + 4, none⟩ (.slice p.pv (aty p.x).ats.length p.cv)).setCell ⟨g, n * 6 + 5, none⟩ (.bool (ao p.x))).setCell ⟨rb, 3, none⟩ (.slice (some ⟨g, 0, none⟩) (n + 1) cap)) (.slice (some ⟨g, 0, none⟩) (n + 1) cap) (ps ++ [p]) := by
  have hg := (World.ownsRow.lt h2 g rfl)
  have h3 := own_put6 (p := p) hn h2
  have K6 := kept6 w4 g (n * 6) (n * 6 + 1) (n * 6 + 2) (n * 6 + 3) (n * 6 + 4) (n * 6 + 5) (.string (an p.x)) (.int .i64 (aty p.x).k) (.string (aty p.x).n) (.slice p.pe (aty p.x).l.length p.ce) (.slice p.pv (aty p.x).ats.length p.cv) (.bool (ao p.x))
  have KR := kept_setCell (((((((w4.setCell ⟨g, n * 6, none⟩ (.string (an p.x))).setCell ⟨g, n * 6 + 1, none⟩ (.int .i64 (aty p.x).k)).setCell ⟨g, n * 6 + 2, none⟩ (.string (aty p.x).n)).setCell ⟨g, n * 6 + 3, none⟩ (.slice p.pe (aty p.x).l.length p.ce)).setCell ⟨g, n * 6 + 4, none⟩ (.slice p.pv (aty p.x).ats.length p.cv)).setCell ⟨g, n * 6 + 5, none⟩ (.bool (ao p.x)))) rb 3 (.slice (some ⟨g, 0, none⟩) (n + 1) cap)
  have hrg : rb ≠ g := by have := h.rbB; omega
  have key : ∀ b, b < W.heap.size → some b ≠ vr.ownBlock → b ≠ rb → b ≠ g → (((((((w4.setCell ⟨g, n * 6, none⟩ (.string (an p.x))).setCell ⟨g, n * 6 + 1, none⟩ (.int .i64 (aty p.x).k)).setCell ⟨g, n * 6 + 2, none⟩ (.string (aty p.x).n)).setCell ⟨g, n * 6 + 3, none⟩ (.slice p.pe (aty p.x).l.length p.ce)).setCell ⟨g, n * 6 + 4, none⟩ (.slice p.pv (aty p.x).ats.length p.cv)).setCell ⟨g, n * 6 + 5, none⟩ (.bool (ao p.x))).setCell ⟨rb, 3, none⟩ (.slice (some ⟨g, 0, none⟩) (n + 1) cap)).heap[b]? = W.heap[b]? := fun b hb hne hr hg' => by
    rw [KR.2.2.2 b (Nat.lt_of_lt_of_le (Nat.lt_of_lt_of_le hb bl.size) K6.2.2.1) (by simpa using hr), K6.2.2.2 b (Nat.lt_of_lt_of_le hb bl.size) (by simpa using hg'), k2 b hb hne]
  have hgv : ∀ b, b < W.heap.size → some b ≠ vr.ownBlock → b ≠ g := fun b hb hne e => by
    subst e
    rcases n2 with n2 | n2
    · exact hne n2
    · have := n2 b rfl; omega
  refine ⟨?_, ?_, ?_, ?_, h.rbB, h.w0B, Nat.le_trans h.szB (Nat.le_trans bl.size (Nat.le_trans K6.2.2.1 KR.2.2.1))⟩
  · have b1 : BoxAt w4 rb [.int .i64 8, .string ⟨#[]⟩, .slice none 0 0, vr] := by
      have hb := bl.block rb h.rbB
      refine ⟨fun j v hj => ?_, fun o => ?_, Nat.lt_of_lt_of_le h.box.lt bl.size⟩
      · rw [World.cell?_of_block (w := W) (w' := w4) (a := ⟨rb, 0 + j, none⟩) hb]; exact h.box.cells j v hj
      · rw [World.frozen?_of_block (w := W) (w' := w4) (a := ⟨rb, o, none⟩) hb]; exact h.box.open' o
    exact (b1.kept K6 (by simpa using hrg)).set 3 _
  · exact h3.to fun g' hg' => KR.2.2.2 g' (World.ownsRow.lt h3 g' hg').2 (by have := (World.ownsRow.lt h3 g' hg').1; have := h.rbB; simp; omega)
  · intro q hq
    have mk : ∀ q : Ae, AeOk (fun b => B ≤ b ∧ some b ≠ vr.ownBlock) W N q → AeOk (fun b => B ≤ b ∧ some b ≠ (Value.slice (some ⟨g, 0, none⟩) (n + 1) cap).ownBlock) (((((((w4.setCell ⟨g, n * 6, none⟩ (.string (an p.x))).setCell ⟨g, n * 6 + 1, none⟩ (.int .i64 (aty p.x).k)).setCell ⟨g, n * 6 + 2, none⟩ (.string (aty p.x).n)).setCell ⟨g, n * 6 + 3, none⟩ (.slice p.pe (aty p.x).l.length p.ce)).setCell ⟨g, n * 6 + 4, none⟩ (.slice p.pv (aty p.x).ats.length p.cv)).setCell ⟨g, n * 6 + 5, none⟩ (.bool (ao p.x))).setCell ⟨rb, 3, none⟩ (.slice (some ⟨g, 0, none⟩) (n + 1) cap)) N q := fun q ho => ⟨ho.1, RT.to (fun b hb hlt => by
      have hbg := hgv b hlt hb.2
      have hbr : b ≠ rb := by have := h.rbB; have := hb.1; omega
      exact ⟨⟨hb.1, by simpa [Value.ownBlock] using hbg⟩, key b hlt hb.2 hbr hbg⟩) ho.2⟩
    rcases List.mem_append.1 hq with hq | hq
    · exact mk q (h.els q hq)
    · simp at hq; subst hq; exact mk q hp
  · have l4 : Low w0 w4 := ⟨bl.os.trans h.low.1, bl.output.trans h.low.2.1, Nat.le_trans h.low.2.2.1 bl.size, fun k hk => (bl.block k (by have := h.w0B; have := h.rbB; omega)).trans (h.low.2.2.2 k hk)⟩
    exact (l4.kept K6 fun x hx => by simp at hx; have := h.w0B; have := h.rbB; omega).kept KR fun x hx => by simp at hx; have := h.w0B; omega
theorem RecSt.putb {w0 W w4 : World} {B rb n N g cap : Nat} {vr : Value} {ps : List Ae} {p : Ae} (h : RecSt w0 B rb N W vr ps) (h2 : OwnR 30 6 encA B w4 (.slice (some ⟨g, 0, none⟩) (n + 1) cap) (ps ++ [aeZ])) (bl : RowKit.Below B W w4)
    (k2 : ∀ b, b < W.heap.size → some b ≠ vr.ownBlock → w4.heap[b]? = W.heap[b]?) (n2 : (Value.slice (some ⟨g, 0, none⟩) (n + 1) cap).ownBlock = vr.ownBlock ∨ ∀ y, (Value.slice (some ⟨g, 0, none⟩) (n + 1) cap).ownBlock = some y → W.heap.size ≤ y)
    (hp : AeOk (fun b => B ≤ b ∧ some b ≠ vr.ownBlock) W N p) (hn : n = ps.length) : RecSt w0 B rb N (((((((w4.setCell ⟨rb, 3, none⟩ (.slice (some ⟨g, 0, none⟩) (n + 1) cap)).setCell ⟨g, n * 6, none⟩ (.string (an p.x))).setCell ⟨g, n * 6 + 1, none⟩ (.int .i64 (aty p.x).k)).setCell ⟨g, n * 6 + 2, none⟩ (.string (aty p.x).n)).setCell ⟨g, n * 6 + 3, none⟩ (.slice p.pe (aty p.x).l.length p.ce)).setCell ⟨g, n * 6 + 4, none⟩ (.slice p.pv (aty p.x).ats.length p.cv)).setCell ⟨g, n * 6 + 5, none⟩ (.bool (ao p.x))) (.slice (some ⟨g, 0, none⟩) (n + 1) cap) (ps ++ [p]) := by
  have hg := (World.ownsRow.lt h2 g rfl)
  have hne : rb ≠ g := by have := h.rbB; omega
  have h9 := h.put h2 bl k2 n2 hp hn
  repeat rw [setCell_comm _ rb g 3 _ _ _ hne]
  exact h9
end Go.Proofs.Ytjipncpgmajeeaa
