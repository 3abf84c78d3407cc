/- The reference's get: what it keeps in memory while it reads; values without items. Condition: no more than 65536 bytes. The reference's get where no items are read. Condition: no more than 65536 bytes. The reference's get where items are read. Condition: no more than 65536 bytes. -/
import Derived.Test.YtbhlgajdoegboaaRefNs
import Derived.Test.YtbhlgajdoegboaaNestP
import Derived.Test.YtbhlgajdoegboaaItPs
import Derived.BigRegion
namespace Go.Proofs.Ytbhlgajdoegboaa
open Go.RowKit
def B3 (W : World) (b : Nat) (c0 c1 c2 : Value) : Prop := (W.cell? ⟨b, 0, none⟩ = some c0 ∧ W.cell? ⟨b, 1, none⟩ = some c1 ∧ W.cell? ⟨b, 2, none⟩ = some c2) ∧ b < W.heap.size ∧ ∀ o, W.frozen? ⟨b, o, none⟩ = false
def B8 (W : World) (b : Nat) (c0 c1 c2 c3 c4 c5 c6 c7 : Value) : Prop := (W.cell? ⟨b, 0, none⟩ = some c0 ∧ W.cell? ⟨b, 1, none⟩ = some c1 ∧ W.cell? ⟨b, 2, none⟩ = some c2 ∧ W.cell? ⟨b, 3, none⟩ = some c3 ∧ W.cell? ⟨b, 4, none⟩ = some c4 ∧ W.cell? ⟨b, 5, none⟩ = some c5 ∧ W.cell? ⟨b, 6, none⟩ = some c6 ∧ W.cell? ⟨b, 7, none⟩ = some c7) ∧ b < W.heap.size ∧ ∀ o, W.frozen? ⟨b, o, none⟩ = false
section
variable {W W' : World} {b r o : Nat} {c0 c1 c2 c3 c4 c5 c6 c7 : Value}
theorem B3.low (h : B3 W b c0 c1 c2) (l : Low W W') : B3 W' b c0 c1 c2 := by
  obtain ⟨⟨e0, e1, e2⟩, hb, hf⟩ := h
  exact ⟨⟨l.keep e0, l.keep e1, l.keep e2⟩, Nat.lt_of_lt_of_le hb l.size, fun o => (l.frozen (p := ⟨b, o, none⟩) hb).trans (hf o)⟩
theorem B8.low (h : B8 W b c0 c1 c2 c3 c4 c5 c6 c7) (l : Low W W') : B8 W' b c0 c1 c2 c3 c4 c5 c6 c7 := by
  obtain ⟨⟨e0, e1, e2, e3, e4, e5, e6, e7⟩, hb, hf⟩ := h
  exact ⟨⟨l.keep e0, l.keep e1, l.keep e2, l.keep e3, l.keep e4, l.keep e5, l.keep e6, l.keep e7⟩, Nat.lt_of_lt_of_le hb l.size, fun o => (l.frozen (p := ⟨b, o, none⟩) hb).trans (hf o)⟩
theorem B3.kept {g : Nat} (h : B3 W b c0 c1 c2) (l : KeptBut W W' (some g)) (hg : b ≠ g) : B3 W' b c0 c1 c2 := by
  obtain ⟨⟨e0, e1, e2⟩, hb, hf⟩ := h
  have q : some b ≠ some g := by simpa using hg
  exact ⟨⟨l.cellAt e0 q, l.cellAt e1 q, l.cellAt e2 q⟩, Nat.lt_of_lt_of_le hb l.2.2.1, fun o => l.frozenAt (hf o) hb q⟩
theorem B8.kept {g : Nat} (h : B8 W b c0 c1 c2 c3 c4 c5 c6 c7) (l : KeptBut W W' (some g)) (hg : b ≠ g) : B8 W' b c0 c1 c2 c3 c4 c5 c6 c7 := by
  obtain ⟨⟨e0, e1, e2, e3, e4, e5, e6, e7⟩, hb, hf⟩ := h
  have q : some b ≠ some g := by simpa using hg
  exact ⟨⟨l.cellAt e0 q, l.cellAt e1 q, l.cellAt e2 q, l.cellAt e3 q, l.cellAt e4 q, l.cellAt e5 q, l.cellAt e6 q, l.cellAt e7 q⟩, Nat.lt_of_lt_of_le hb l.2.2.1, fun o => l.frozenAt (hf o) hb q⟩
theorem B3.put (h : B3 W b c0 c1 c2) (d0 d1 d2 : Value) : B3 (((W.setCell ⟨b, 0, none⟩ d0).setCell ⟨b, 1, none⟩ d1).setCell ⟨b, 2, none⟩ d2) b d0 d1 d2 := by
  obtain ⟨⟨e0, e1, e2⟩, hb, hf⟩ := h
  refine ⟨⟨?_, ?_, ?_⟩, by simpa using hb, fun o => by simp [go_sem, hf]⟩ <;> simp [go_sem, e0, e1, e2]
theorem B3.put2 (h : B3 W b c0 c1 c2) (d : Value) : B3 (W.setCell ⟨b, 2, none⟩ d) b c0 c1 d := by
  obtain ⟨⟨e0, e1, e2⟩, hb, hf⟩ := h
  refine ⟨⟨?_, ?_, ?_⟩, by simpa using hb, fun o => by simp [go_sem, hf]⟩ <;> simp [go_sem, e0, e1, e2]
theorem B8.put0 (h : B8 W b c0 c1 c2 c3 c4 c5 c6 c7) (d : Value) : B8 (W.setCell ⟨b, 0, none⟩ d) b d c1 c2 c3 c4 c5 c6 c7 := by
  obtain ⟨⟨e0, e1, e2, e3, e4, e5, e6, e7⟩, hb, hf⟩ := h
  refine ⟨⟨?_, ?_, ?_, ?_, ?_, ?_, ?_, ?_⟩, by simpa using hb, fun o => by simp [go_sem, hf]⟩ <;> simp [go_sem, e0, e1, e2, e3, e4, e5, e6, e7]
theorem B8.put1 (h : B8 W b c0 c1 c2 c3 c4 c5 c6 c7) (d : Value) : B8 (W.setCell ⟨b, 1, none⟩ d) b c0 d c2 c3 c4 c5 c6 c7 := by
  obtain ⟨⟨e0, e1, e2, e3, e4, e5, e6, e7⟩, hb, hf⟩ := h
  refine ⟨⟨?_, ?_, ?_, ?_, ?_, ?_, ?_, ?_⟩, by simpa using hb, fun o => by simp [go_sem, hf]⟩ <;> simp [go_sem, e0, e1, e2, e3, e4, e5, e6, e7]
theorem B8.put2 (h : B8 W b c0 c1 c2 c3 c4 c5 c6 c7) (d : Value) : B8 (W.setCell ⟨b, 2, none⟩ d) b c0 c1 d c3 c4 c5 c6 c7 := by
  obtain ⟨⟨e0, e1, e2, e3, e4, e5, e6, e7⟩, hb, hf⟩ := h
  refine ⟨⟨?_, ?_, ?_, ?_, ?_, ?_, ?_, ?_⟩, by simpa using hb, fun o => by simp [go_sem, hf]⟩ <;> simp [go_sem, e0, e1, e2, e3, e4, e5, e6, e7]
theorem B8.put3 (h : B8 W b c0 c1 c2 c3 c4 c5 c6 c7) (d : Value) : B8 (W.setCell ⟨b, 3, none⟩ d) b c0 c1 c2 d c4 c5 c6 c7 := by
  obtain ⟨⟨e0, e1, e2, e3, e4, e5, e6, e7⟩, hb, hf⟩ := h
  refine ⟨⟨?_, ?_, ?_, ?_, ?_, ?_, ?_, ?_⟩, by simpa using hb, fun o => by simp [go_sem, hf]⟩ <;> simp [go_sem, e0, e1, e2, e3, e4, e5, e6, e7]
theorem B8.put4 (h : B8 W b c0 c1 c2 c3 c4 c5 c6 c7) (d : Value) : B8 (W.setCell ⟨b, 4, none⟩ d) b c0 c1 c2 c3 d c5 c6 c7 := by
  obtain ⟨⟨e0, e1, e2, e3, e4, e5, e6, e7⟩, hb, hf⟩ := h
  refine ⟨⟨?_, ?_, ?_, ?_, ?_, ?_, ?_, ?_⟩, by simpa using hb, fun o => by simp [go_sem, hf]⟩ <;> simp [go_sem, e0, e1, e2, e3, e4, e5, e6, e7]
theorem B8.put5 (h : B8 W b c0 c1 c2 c3 c4 c5 c6 c7) (d : Value) : B8 (W.setCell ⟨b, 5, none⟩ d) b c0 c1 c2 c3 c4 d c6 c7 := by
  obtain ⟨⟨e0, e1, e2, e3, e4, e5, e6, e7⟩, hb, hf⟩ := h
  refine ⟨⟨?_, ?_, ?_, ?_, ?_, ?_, ?_, ?_⟩, by simpa using hb, fun o => by simp [go_sem, hf]⟩ <;> simp [go_sem, e0, e1, e2, e3, e4, e5, e6, e7]
theorem B8.put6 (h : B8 W b c0 c1 c2 c3 c4 c5 c6 c7) (d : Value) : B8 (W.setCell ⟨b, 6, none⟩ d) b c0 c1 c2 c3 c4 c5 d c7 := by
  obtain ⟨⟨e0, e1, e2, e3, e4, e5, e6, e7⟩, hb, hf⟩ := h
  refine ⟨⟨?_, ?_, ?_, ?_, ?_, ?_, ?_, ?_⟩, by simpa using hb, fun o => by simp [go_sem, hf]⟩ <;> simp [go_sem, e0, e1, e2, e3, e4, e5, e6, e7]
theorem B8.put7 (h : B8 W b c0 c1 c2 c3 c4 c5 c6 c7) (d : Value) : B8 (W.setCell ⟨b, 7, none⟩ d) b c0 c1 c2 c3 c4 c5 c6 d := by
  obtain ⟨⟨e0, e1, e2, e3, e4, e5, e6, e7⟩, hb, hf⟩ := h
  refine ⟨⟨?_, ?_, ?_, ?_, ?_, ?_, ?_, ?_⟩, by simpa using hb, fun o => by simp [go_sem, hf]⟩ <;> simp [go_sem, e0, e1, e2, e3, e4, e5, e6, e7]
end
theorem kept3 (w : World) (r : Nat) (c0 c1 c2 : Value) : KeptBut w (((w.setCell ⟨r, 0, none⟩ c0).setCell ⟨r, 1, none⟩ c1).setCell ⟨r, 2, none⟩ c2) (some r) := ((kept_setCell w r 0 c0).trans (kept_setCell _ r 1 c1)).trans (kept_setCell _ r 2 c2)
/-- Where get stands: its reader, what it answers, its value. -/
structure GS (w W : World) (r0 r1 r2 v0 v1 v2 v3 v4 v5 v6 v7 : Value) : Prop where
  r : B3 W w.heap.size r0 r1 r2
  qr : B3 W (w.heap.size + 1) (.slice none 0 0) (.int .i64 0) (.bool false)
  qv : B8 W (w.heap.size + 2) (.int .i64 0) (.bool false) (.int .i64 0) (.string ⟨#[]⟩) (.string ⟨#[]⟩) (.string ⟨#[]⟩) (.slice none 0 0) (.slice none 0 0)
  v : B8 W (w.heap.size + 3) v0 v1 v2 v3 v4 v5 v6 v7
  low : Low w W
section
variable {w W W' : World} {r0 r1 r2 v0 v1 v2 v3 v4 v5 v6 v7 : Value}
theorem GS.to (h : GS w W r0 r1 r2 v0 v1 v2 v3 v4 v5 v6 v7) (l : Low W W') : GS w W' r0 r1 r2 v0 v1 v2 v3 v4 v5 v6 v7 := ⟨h.r.low l, h.qr.low l, h.qv.low l, h.v.low l, h.low.trans l⟩
theorem GS.putR (h : GS w W r0 r1 r2 v0 v1 v2 v3 v4 v5 v6 v7) (d0 d1 d2 : Value) : GS w (((W.setCell ⟨w.heap.size, 0, none⟩ d0).setCell ⟨w.heap.size, 1, none⟩ d1).setCell ⟨w.heap.size, 2, none⟩ d2) d0 d1 d2 v0 v1 v2 v3 v4 v5 v6 v7 :=
  ⟨h.r.put _ _ _, h.qr.kept (kept3 _ _ _ _ _) (by omega), h.qv.kept (kept3 _ _ _ _ _) (by omega), h.v.kept (kept3 _ _ _ _ _) (by omega), h.low.kept (kept3 _ _ _ _ _) fun g hg => by simp at hg; omega⟩
theorem GS.putR2 (h : GS w W r0 r1 r2 v0 v1 v2 v3 v4 v5 v6 v7) (d : Value) : GS w (W.setCell ⟨w.heap.size, 2, none⟩ d) r0 r1 d v0 v1 v2 v3 v4 v5 v6 v7 :=
  ⟨h.r.put2 _, h.qr.kept (kept_setCell _ _ _ _) (by omega), h.qv.kept (kept_setCell _ _ _ _) (by omega), h.v.kept (kept_setCell _ _ _ _) (by omega), h.low.kept (kept_setCell _ _ _ _) fun g hg => by simp at hg; omega⟩
theorem GS.putV0 (h : GS w W r0 r1 r2 v0 v1 v2 v3 v4 v5 v6 v7) (d : Value) : GS w (W.setCell ⟨w.heap.size + 3, 0, none⟩ d) r0 r1 r2 d v1 v2 v3 v4 v5 v6 v7 :=
  ⟨h.r.kept (kept_setCell _ _ _ _) (by omega), h.qr.kept (kept_setCell _ _ _ _) (by omega), h.qv.kept (kept_setCell _ _ _ _) (by omega), h.v.put0 _, h.low.kept (kept_setCell _ _ _ _) fun g hg => by simp at hg; omega⟩
theorem GS.putV1 (h : GS w W r0 r1 r2 v0 v1 v2 v3 v4 v5 v6 v7) (d : Value) : GS w (W.setCell ⟨w.heap.size + 3, 1, none⟩ d) r0 r1 r2 v0 d v2 v3 v4 v5 v6 v7 :=
  ⟨h.r.kept (kept_setCell _ _ _ _) (by omega), h.qr.kept (kept_setCell _ _ _ _) (by omega), h.qv.kept (kept_setCell _ _ _ _) (by omega), h.v.put1 _, h.low.kept (kept_setCell _ _ _ _) fun g hg => by simp at hg; omega⟩
theorem GS.putV2 (h : GS w W r0 r1 r2 v0 v1 v2 v3 v4 v5 v6 v7) (d : Value) : GS w (W.setCell ⟨w.heap.size + 3, 2, none⟩ d) r0 r1 r2 v0 v1 d v3 v4 v5 v6 v7 :=
  ⟨h.r.kept (kept_setCell _ _ _ _) (by omega), h.qr.kept (kept_setCell _ _ _ _) (by omega), h.qv.kept (kept_setCell _ _ _ _) (by omega), h.v.put2 _, h.low.kept (kept_setCell _ _ _ _) fun g hg => by simp at hg; omega⟩
theorem GS.putV3 (h : GS w W r0 r1 r2 v0 v1 v2 v3 v4 v5 v6 v7) (d : Value) : GS w (W.setCell ⟨w.heap.size + 3, 3, none⟩ d) r0 r1 r2 v0 v1 v2 d v4 v5 v6 v7 :=
  ⟨h.r.kept (kept_setCell _ _ _ _) (by omega), h.qr.kept (kept_setCell _ _ _ _) (by omega), h.qv.kept (kept_setCell _ _ _ _) (by omega), h.v.put3 _, h.low.kept (kept_setCell _ _ _ _) fun g hg => by simp at hg; omega⟩
theorem GS.putV4 (h : GS w W r0 r1 r2 v0 v1 v2 v3 v4 v5 v6 v7) (d : Value) : GS w (W.setCell ⟨w.heap.size + 3, 4, none⟩ d) r0 r1 r2 v0 v1 v2 v3 d v5 v6 v7 :=
  ⟨h.r.kept (kept_setCell _ _ _ _) (by omega), h.qr.kept (kept_setCell _ _ _ _) (by omega), h.qv.kept (kept_setCell _ _ _ _) (by omega), h.v.put4 _, h.low.kept (kept_setCell _ _ _ _) fun g hg => by simp at hg; omega⟩
theorem GS.putV5 (h : GS w W r0 r1 r2 v0 v1 v2 v3 v4 v5 v6 v7) (d : Value) : GS w (W.setCell ⟨w.heap.size + 3, 5, none⟩ d) r0 r1 r2 v0 v1 v2 v3 v4 d v6 v7 :=
  ⟨h.r.kept (kept_setCell _ _ _ _) (by omega), h.qr.kept (kept_setCell _ _ _ _) (by omega), h.qv.kept (kept_setCell _ _ _ _) (by omega), h.v.put5 _, h.low.kept (kept_setCell _ _ _ _) fun g hg => by simp at hg; omega⟩
theorem GS.putV6 (h : GS w W r0 r1 r2 v0 v1 v2 v3 v4 v5 v6 v7) (d : Value) : GS w (W.setCell ⟨w.heap.size + 3, 6, none⟩ d) r0 r1 r2 v0 v1 v2 v3 v4 v5 d v7 :=
  ⟨h.r.kept (kept_setCell _ _ _ _) (by omega), h.qr.kept (kept_setCell _ _ _ _) (by omega), h.qv.kept (kept_setCell _ _ _ _) (by omega), h.v.put6 _, h.low.kept (kept_setCell _ _ _ _) fun g hg => by simp at hg; omega⟩
theorem GS.putV7 (h : GS w W r0 r1 r2 v0 v1 v2 v3 v4 v5 v6 v7) (d : Value) : GS w (W.setCell ⟨w.heap.size + 3, 7, none⟩ d) r0 r1 r2 v0 v1 v2 v3 v4 v5 v6 d :=
  ⟨h.r.kept (kept_setCell _ _ _ _) (by omega), h.qr.kept (kept_setCell _ _ _ _) (by omega), h.qv.kept (kept_setCell _ _ _ _) (by omega), h.v.put7 _, h.low.kept (kept_setCell _ _ _ _) fun g hg => by simp at hg; omega⟩
theorem gs_start (w : World) (a b c : Value) : GS w ((((w.alloc (.cells #[a, b, c] 56)).alloc (.cells #[.slice none 0 0, .int .i64 0, .bool false] 56)).alloc (.cells #[.int .i64 0, .bool false, .int .i64 0, .string ⟨#[]⟩, .string ⟨#[]⟩, .string ⟨#[]⟩, .slice none 0 0, .slice none 0 0] 29)).alloc (.cells #[.int .i64 0, .bool false, .int .i64 0, .string ⟨#[]⟩, .string ⟨#[]⟩, .string ⟨#[]⟩, .slice none 0 0, .slice none 0 0] 29)) a b c (.int .i64 0) (.bool false) (.int .i64 0) (.string ⟨#[]⟩) (.string ⟨#[]⟩) (.string ⟨#[]⟩) (.slice none 0 0) (.slice none 0 0) := by
  have L : ∀ W : World, ∀ o : Obj, Low W (W.alloc o) := fun W o => Low.alloc (Low.refl W) o
  have n3 : ∀ (W : World) (x y z : Value), B3 (W.alloc (.cells #[x, y, z] 56)) W.heap.size x y z := fun W x y z => by
    obtain ⟨h1, h2⟩ := box3_low (Low.refl (W.alloc (.cells #[x, y, z] 56))) _ rfl
    exact ⟨h1, by simp, h2⟩
  have n8 : ∀ (W : World), B8 (W.alloc (.cells #[.int .i64 0, .bool false, .int .i64 0, .string ⟨#[]⟩, .string ⟨#[]⟩, .string ⟨#[]⟩, .slice none 0 0, .slice none 0 0] 29)) W.heap.size (.int .i64 0) (.bool false) (.int .i64 0) (.string ⟨#[]⟩) (.string ⟨#[]⟩) (.string ⟨#[]⟩) (.slice none 0 0) (.slice none 0 0) := fun W => by
    obtain ⟨h1, h2⟩ := kept_new (rb := W.heap.size + 1) (KeptBut.refl (W.alloc (.cells #[.int .i64 0, .bool false, .int .i64 0, .string ⟨#[]⟩, .string ⟨#[]⟩, .string ⟨#[]⟩, .slice none 0 0, .slice none 0 0] 29)) _) (by omega)
    exact ⟨h1, by simp, h2⟩
  refine ⟨(n3 w a b c).low (((L _ _).trans (L _ _)).trans (L _ _)), ?_, ?_, ?_, (((L _ _).trans (L _ _)).trans (L _ _)).trans (L _ _)⟩
  · have h := (n3 (w.alloc (.cells #[a, b, c] 56)) (.slice none 0 0) (.int .i64 0) (.bool false)).low ((L _ (.cells #[.int .i64 0, .bool false, .int .i64 0, .string ⟨#[]⟩, .string ⟨#[]⟩, .string ⟨#[]⟩, .slice none 0 0, .slice none 0 0] 29)).trans (L _ (.cells #[.int .i64 0, .bool false, .int .i64 0, .string ⟨#[]⟩, .string ⟨#[]⟩, .string ⟨#[]⟩, .slice none 0 0, .slice none 0 0] 29)))
    simpa using h
  · have h := (n8 ((w.alloc (.cells #[a, b, c] 56)).alloc (.cells #[.slice none 0 0, .int .i64 0, .bool false] 56))).low (L _ (.cells #[.int .i64 0, .bool false, .int .i64 0, .string ⟨#[]⟩, .string ⟨#[]⟩, .string ⟨#[]⟩, .slice none 0 0, .slice none 0 0] 29))
    simpa using h
  · have h := n8 (((w.alloc (.cells #[a, b, c] 56)).alloc (.cells #[.slice none 0 0, .int .i64 0, .bool false] 56)).alloc (.cells #[.int .i64 0, .bool false, .int .i64 0, .string ⟨#[]⟩, .string ⟨#[]⟩, .string ⟨#[]⟩, .slice none 0 0, .slice none 0 0] 29))
    simpa using h
end
theorem low_set {w W : World} {r o : Nat} {v : Value} (h : Low w W) (hr : w.heap.size ≤ r) : Low w (W.setCell ⟨r, o, none⟩ v) := h.kept (kept_setCell W r o v) fun g hg => by simp only [Option.some.injEq] at hg; omega
theorem low_set0 {w W : World} {o : Nat} {v : Value} (h : Low w W) : Low w (W.setCell ⟨w.heap.size, o, none⟩ v) := low_set h (by omega)
theorem low_set1 {w W : World} {o : Nat} {v : Value} (h : Low w W) : Low w (W.setCell ⟨w.heap.size + 1, o, none⟩ v) := low_set h (by omega)
theorem low_set2 {w W : World} {o : Nat} {v : Value} (h : Low w W) : Low w (W.setCell ⟨w.heap.size + 1 + 1, o, none⟩ v) := low_set h (by omega)
theorem low_set3 {w W : World} {o : Nat} {v : Value} (h : Low w W) : Low w (W.setCell ⟨w.heap.size + 1 + 1 + 1, o, none⟩ v) := low_set h (by omega)
theorem low_drew {w W : World} (h : Low w W) : Low w W.drew := h.trans (Gr.drew (Gr.refl W)).low
/-- The values that may stand so deep. -/
def Dp (deep : Nat) (c : V) : Prop := deep + dpt c ≤ 51
def GeP (ao : Option Addr) (n cap : Nat) (bs : List UInt8) (deep : Nat) (l : List UInt8) (sh : Bool) (w : World) (e : Ending) (w' : World) : Prop :=
  ∃ (x : V) (ai : Option Addr) (ci : Nat) (an : Option Addr) (cn : Nat) (p' : Nat) (l' : List UInt8) (sh' : Bool),
    e = .returned (.tuple #[.agg #[.slice ao n cap, .int .i64 p', .bool sh'], .agg #[.int .i64 x.h.k, .bool x.h.b, .int .i64 x.h.n, .string x.h.s, .string x.h.t, .string x.h.i, .slice ai x.l.length ci, .slice an x.ns.length cn]]) ∧
    GrP bs l' sh' p' ∧ Rep (fun b => w.heap.size ≤ b) w' x (.slice ai x.l.length ci) (.slice an x.ns.length cn) ∧ Low w w' ∧ VQ (Dp deep) l sh x l' sh'
theorem dpt_pos (v : V) : 1 ≤ dpt v := by rw [dpt_v]; omega
end Go.Proofs.Ytbhlgajdoegboaa
namespace Go.Proofs.Ytbhlgajdoegboaa
open Go.RowKit
def NxP (ao : Option Addr) (n cap : Nat) (bs : List UInt8) (k : Nat) (l : List UInt8) (sh : Bool) (W : World) (e : Ending) (w' : World) : Prop :=
  ∃ (p' : Nat) (m : Int) (s' : Bool) (l' : List UInt8), e = .returned (.tuple #[.agg #[.slice ao n cap, .int .i64 p', .bool s'], .int .i64 m]) ∧ Hid (m = ((ofB (tkB k l) : Nat) : Int)) ∧ Hid (l' = tkR k l ∧ s' = tkS k l sh) ∧ Hid (p' ≤ n ∧ l' = lf bs p' s') ∧ Low W w'
def WoP (ao : Option Addr) (n cap : Nat) (bs : List UInt8) (l : List UInt8) (sh : Bool) (W : World) (e : Ending) (w' : World) : Prop :=
  ∃ (p' : Nat) (s : ByteArray) (s' : Bool) (l' : List UInt8), e = .returned (.tuple #[.agg #[.slice ao n cap, .int .i64 p', .bool s'], .string s]) ∧ Hid (s = ⟨(txB l).toArray⟩) ∧ Hid (l' = txR l ∧ s' = txS l sh) ∧ Hid (p' ≤ n ∧ l' = lf bs p' s') ∧ Low W w'
/-- The bytes that are read. -/
def RdC (ao : Option Addr) (n cap : Nat) (bs : List UInt8) (B : Nat) (w : World) : Prop := BytesAt B w bs ao cap ∧ B ≤ w.heap.size ∧ bs.length = n
theorem RdC.low {ao : Option Addr} {n cap : Nat} {bs : List UInt8} {B : Nat} {w W : World} (h : RdC ao n cap bs B w) (l : Low w W) : RdC ao n cap bs B W := ⟨h.1.to fun b hb => l.2.2.2 b (Nat.lt_of_lt_of_le hb h.2.1), Nat.le_trans h.2.1 l.size, h.2.2⟩
theorem nx {ao : Option Addr} {n cap : Nat} {bs : List UInt8} {B : Nat} {w : World} (E : RdC ao n cap bs B w) (W : World) (hW : Low w W) (p : Nat) (s : Bool) (l : List UInt8) (hp : p ≤ n ∧ l = lf bs p s) (k : Nat) (hk : 0 < k ∧ k ≤ 4) (m : Int) (hm : m = (k : Int)) :
    Calls Try.prog 50 #[.agg #[.slice ao n cap, .int .i64 p, .bool s], .int .i64 m] W (NxP ao n cap bs k l s W) := by
  have E2 := E.low hW
  refine (next_c bs n E2.2.2 p hp.1 s k hk.1 hk.2 m hm B W ao cap E2.1 l hp.2).mono fun e w' ⟨⟨p', ⟨h1, h2⟩, he⟩, hl⟩ => ?_
  exact ⟨p', _, _, _, he, Lib.hid rfl, Lib.hid ⟨rfl, rfl⟩, Lib.hid ⟨by rw [← E2.2.2]; exact h1, h2⟩, hl⟩
theorem wo {ao : Option Addr} {n cap : Nat} {bs : List UInt8} {B : Nat} {w : World} (E : RdC ao n cap bs B w) (W : World) (hW : Low w W) (p : Nat) (s : Bool) (l : List UInt8) (hp : p ≤ n ∧ l = lf bs p s) :
    Calls Try.prog 51 #[.agg #[.slice ao n cap, .int .i64 p, .bool s]] W (WoP ao n cap bs l s W) := by
  have E2 := E.low hW
  refine (word_c bs n E2.2.2 p hp.1 s B W ao cap E2.1 E2.2.1 l hp.2).mono fun e w' ⟨⟨p', t, ⟨h1, h2⟩, ht, he⟩, hl⟩ => ?_
  exact ⟨p', t, _, _, he, Lib.hid ht, Lib.hid ⟨rfl, rfl⟩, Lib.hid ⟨by rw [← E2.2.2]; exact h1, h2⟩, hl⟩
set_option maxHeartbeats 8000000 in
set_option maxRecDepth 100000 in
theorem get_1 (bs : List UInt8) (n : Nat) (p : Nat) (sh : Bool) (B : Nat) (w : World) (ao : Option Addr) (cap : Nat) (h : RdC ao n cap bs B w) (l : List UInt8) (hp : p ≤ n ∧ l = lf bs p sh) (hlen : l.length ≤ 65536) (deep : Nat) (hd : deep ≤ 50) (h1 : ofB (tkB 1 l) = 1) :
    Calls Try.prog 29 #[.agg #[.slice ao n cap, .int .i64 p, .bool sh], .int .i64 deep] w (GeP ao n cap bs deep l sh w) := by
  have E := Lib.hid h
  have HP := Lib.hid hp
  have HLEN := Lib.hid hlen
  have HN := h.2.2
  have HNN := Lib.hid HN
  have zd : ¬ (50 : Int) < (deep : Int) := by omega
  have H1 := Lib.hid h1
  clear h1 hd
  clear h hp hlen HN
  go_enter Try.func29, Try.ntmps29
  go_wp2_with (first
    | ((fail_if_success (have := G1)); go_at_call 50; (with_reducible refine (nx E.out _ ?hL p sh l HP.out 1 (by decide) 1 rfl).mono ?_); (case hL => exact (gs_start w _ _ _).low); rintro e w1 ⟨p1, m1, s1, l1, rfl, hm1, hl1, hp1, L1⟩; obtain rfl : m1 = 1 := (by rw [hm1.out, H1.out]; rfl); have G1 := Lib.hid ((gs_start w (.slice ao n cap) (.int .i64 p) (.bool sh)).to L1); obtain ⟨⟨⟨a0, a1, a2⟩, -, fa⟩, ⟨⟨b0, b1, b2⟩, -, fb⟩, ⟨⟨x0, x1, x2, x3, x4, x5, x6, x7⟩, -, fx⟩, ⟨⟨y0, y1, y2, y3, y4, y5, y6, y7⟩, hsz, fy⟩, -⟩ := G1.out; clear L1)
    | ((fail_if_success (have := G2)); go_at_call 50; (with_reducible refine (nx E.out _ ?hL p1 s1 l1 hp1.out 1 (by decide) 1 rfl).mono ?_); (case hL => exact ((G1.out.putR _ _ _).putV0 _).low); rintro e w2 ⟨p2, m2, s2, l2, rfl, hm2, hl2, hp2, L2⟩; have G2 := Lib.hid (((G1.out.putR _ _ _).putV0 _).to L2); clear a0 a1 a2 fa b0 b1 b2 fb x0 x1 x2 x3 x4 x5 x6 x7 fx y0 y1 y2 y3 y4 y5 y6 y7 fy hsz; obtain ⟨⟨⟨a0, a1, a2⟩, -, fa⟩, ⟨⟨b0, b1, b2⟩, -, fb⟩, ⟨⟨x0, x1, x2, x3, x4, x5, x6, x7⟩, -, fx⟩, ⟨⟨y0, y1, y2, y3, y4, y5, y6, y7⟩, hsz, fy⟩, -⟩ := G2.out; clear L2))
  go_region
  all_goals
    go_wp2_with fail
    refine bodyPost_ret (v := .tuple #[.agg #[.slice ao n cap, .int .i64 p2, .bool s2], .agg #[.int .i64 1, .bool (m2 == 1), .int .i64 0, .string ⟨#[]⟩, .string ⟨#[]⟩, .string ⟨#[]⟩, .slice none 0 0, .slice none 0 0]]) (by simp [results, Try.results29, go_sem, World.cell?_setCell_same', b0, b1, b2, x0, x1, x2, x3, x4, x5, x6, x7]; try rfl) rfl ?_
    refine ⟨tV (m2 == 1), none, 0, none, 0, p2, l2, s2, rfl, ⟨by rw [HNN.out]; exact hp2.out.1, hp2.out.2⟩, rep_flat _ _ _ ⟨Nat.zero_le _, Nat.zero_le _, Nat.zero_le _⟩, ?_, ?_⟩
    · repeat (first | with_reducible exact (G2.out).low | with_reducible refine low_drew ?_ | with_reducible refine low_set2 ?_ | with_reducible refine low_set1 ?_ | with_reducible refine low_set3 ?_ | with_reducible refine low_set0 ?_)
    · have q := vq_1 (Dp deep) (sh := sh) H1.out
      have e : (m2 == 1) = (ofB (tkB 1 (tkR 1 l)) == 1) := by rw [hm2.out, hl1.out.1, Bool.eq_iff_iff]; simp; omega
      rw [e, hl2.out.1, hl2.out.2, hl1.out.1, hl1.out.2]
      exact q
set_option maxHeartbeats 8000000 in
set_option maxRecDepth 100000 in
theorem get_3 (bs : List UInt8) (n : Nat) (p : Nat) (sh : Bool) (B : Nat) (w : World) (ao : Option Addr) (cap : Nat) (h : RdC ao n cap bs B w) (l : List UInt8) (hp : p ≤ n ∧ l = lf bs p sh) (hlen : l.length ≤ 65536) (deep : Nat) (hd : deep ≤ 50) (h1 : ofB (tkB 1 l) = 3) :
    Calls Try.prog 29 #[.agg #[.slice ao n cap, .int .i64 p, .bool sh], .int .i64 deep] w (GeP ao n cap bs deep l sh w) := by
  have E := Lib.hid h
  have HP := Lib.hid hp
  have HLEN := Lib.hid hlen
  have HN := h.2.2
  have HNN := Lib.hid HN
  have zd : ¬ (50 : Int) < (deep : Int) := by omega
  have H1 := Lib.hid h1
  clear h1 hd
  clear h hp hlen HN
  go_enter Try.func29, Try.ntmps29
  go_wp2_with (first
    | ((fail_if_success (have := G1)); go_at_call 50; (with_reducible refine (nx E.out _ ?hL p sh l HP.out 1 (by decide) 1 rfl).mono ?_); (case hL => exact (gs_start w _ _ _).low); rintro e w1 ⟨p1, m1, s1, l1, rfl, hm1, hl1, hp1, L1⟩; obtain rfl : m1 = 3 := (by rw [hm1.out, H1.out]; rfl); have G1 := Lib.hid ((gs_start w (.slice ao n cap) (.int .i64 p) (.bool sh)).to L1); obtain ⟨⟨⟨a0, a1, a2⟩, -, fa⟩, ⟨⟨b0, b1, b2⟩, -, fb⟩, ⟨⟨x0, x1, x2, x3, x4, x5, x6, x7⟩, -, fx⟩, ⟨⟨y0, y1, y2, y3, y4, y5, y6, y7⟩, hsz, fy⟩, -⟩ := G1.out; clear L1)
    | ((fail_if_success (have := G2)); go_at_call 51; (with_reducible refine (wo E.out _ ?hL p1 s1 l1 hp1.out).mono ?_); (case hL => exact ((G1.out.putR _ _ _).putV0 _).low); rintro e w2 ⟨p2, t2, s2, l2, rfl, ht2, hl2, hp2, L2⟩; have G2 := Lib.hid (((G1.out.putR _ _ _).putV0 _).to L2); clear a0 a1 a2 fa b0 b1 b2 fb x0 x1 x2 x3 x4 x5 x6 x7 fx y0 y1 y2 y3 y4 y5 y6 y7 fy hsz; obtain ⟨⟨⟨a0, a1, a2⟩, -, fa⟩, ⟨⟨b0, b1, b2⟩, -, fb⟩, ⟨⟨x0, x1, x2, x3, x4, x5, x6, x7⟩, -, fx⟩, ⟨⟨y0, y1, y2, y3, y4, y5, y6, y7⟩, hsz, fy⟩, -⟩ := G2.out; clear L2))
  go_region
  all_goals
    go_wp2_with fail
    refine bodyPost_ret (v := .tuple #[.agg #[.slice ao n cap, .int .i64 p2, .bool s2], .agg #[.int .i64 3, .bool false, .int .i64 0, .string t2, .string ⟨#[]⟩, .string ⟨#[]⟩, .slice none 0 0, .slice none 0 0]]) (by simp [results, Try.results29, go_sem, World.cell?_setCell_same', b0, b1, b2, x0, x1, x2, x3, x4, x5, x6, x7]; try rfl) rfl ?_
    have hsz2 : t2.size ≤ 9223372036854775807 := by
      have q := tx_len (tkR 1 l)
      have q2 := tkR_len 1 l
      have q3 : t2.size = (txB l1).length := by rw [ht2.out]; rfl
      rw [hl1.out.1] at q3
      have := HLEN.out
      omega
    refine ⟨xV t2, none, 0, none, 0, p2, l2, s2, rfl, ⟨by rw [HNN.out]; exact hp2.out.1, hp2.out.2⟩, rep_flat _ _ _ ⟨hsz2, Nat.zero_le _, Nat.zero_le _⟩, ?_, ?_⟩
    · repeat (first | with_reducible exact (G2.out).low | with_reducible refine low_drew ?_ | with_reducible refine low_set2 ?_ | with_reducible refine low_set1 ?_ | with_reducible refine low_set3 ?_ | with_reducible refine low_set0 ?_)
    · have q := vq_3 (Dp deep) (sh := sh) HLEN.out H1.out
      rw [hl2.out.1, hl2.out.2, ht2.out, hl1.out.1, hl1.out.2]
      exact q
set_option maxHeartbeats 8000000 in
set_option maxRecDepth 100000 in
theorem get_4 (bs : List UInt8) (n : Nat) (p : Nat) (sh : Bool) (B : Nat) (w : World) (ao : Option Addr) (cap : Nat) (h : RdC ao n cap bs B w) (l : List UInt8) (hp : p ≤ n ∧ l = lf bs p sh) (hlen : l.length ≤ 65536) (deep : Nat) (hd : deep ≤ 50) (h1 : ofB (tkB 1 l) = 4) :
    Calls Try.prog 29 #[.agg #[.slice ao n cap, .int .i64 p, .bool sh], .int .i64 deep] w (GeP ao n cap bs deep l sh w) := by
  have E := Lib.hid h
  have HP := Lib.hid hp
  have HLEN := Lib.hid hlen
  have HN := h.2.2
  have HNN := Lib.hid HN
  have zd : ¬ (50 : Int) < (deep : Int) := by omega
  have H1 := Lib.hid h1
  clear h1 hd
  clear h hp hlen HN
  go_enter Try.func29, Try.ntmps29
  go_wp2_with (first
    | ((fail_if_success (have := G1)); go_at_call 50; (with_reducible refine (nx E.out _ ?hL p sh l HP.out 1 (by decide) 1 rfl).mono ?_); (case hL => exact (gs_start w _ _ _).low); rintro e w1 ⟨p1, m1, s1, l1, rfl, hm1, hl1, hp1, L1⟩; obtain rfl : m1 = 4 := (by rw [hm1.out, H1.out]; rfl); have G1 := Lib.hid ((gs_start w (.slice ao n cap) (.int .i64 p) (.bool sh)).to L1); obtain ⟨⟨⟨a0, a1, a2⟩, -, fa⟩, ⟨⟨b0, b1, b2⟩, -, fb⟩, ⟨⟨x0, x1, x2, x3, x4, x5, x6, x7⟩, -, fx⟩, ⟨⟨y0, y1, y2, y3, y4, y5, y6, y7⟩, hsz, fy⟩, -⟩ := G1.out; clear L1)
    | ((fail_if_success (have := G2)); go_at_call 51; (with_reducible refine (wo E.out _ ?hL p1 s1 l1 hp1.out).mono ?_); (case hL => exact ((G1.out.putR _ _ _).putV0 _).low); rintro e w2 ⟨p2, t2, s2, l2, rfl, ht2, hl2, hp2, L2⟩; have G2 := Lib.hid (((G1.out.putR _ _ _).putV0 _).to L2); clear a0 a1 a2 fa b0 b1 b2 fb x0 x1 x2 x3 x4 x5 x6 x7 fx y0 y1 y2 y3 y4 y5 y6 y7 fy hsz; obtain ⟨⟨⟨a0, a1, a2⟩, -, fa⟩, ⟨⟨b0, b1, b2⟩, -, fb⟩, ⟨⟨x0, x1, x2, x3, x4, x5, x6, x7⟩, -, fx⟩, ⟨⟨y0, y1, y2, y3, y4, y5, y6, y7⟩, hsz, fy⟩, -⟩ := G2.out; clear L2)
    | ((fail_if_success (have := G3)); go_at_call 51; (with_reducible refine (wo E.out _ ?hL p2 s2 l2 hp2.out).mono ?_); (case hL => exact ((G2.out.putR _ _ _).putV4 _).low); rintro e w3 ⟨p3, t3, s3, l3, rfl, ht3, hl3, hp3, L3⟩; have G3 := Lib.hid (((G2.out.putR _ _ _).putV4 _).to L3); clear a0 a1 a2 fa b0 b1 b2 fb x0 x1 x2 x3 x4 x5 x6 x7 fx y0 y1 y2 y3 y4 y5 y6 y7 fy hsz; obtain ⟨⟨⟨a0, a1, a2⟩, -, fa⟩, ⟨⟨b0, b1, b2⟩, -, fb⟩, ⟨⟨x0, x1, x2, x3, x4, x5, x6, x7⟩, -, fx⟩, ⟨⟨y0, y1, y2, y3, y4, y5, y6, y7⟩, hsz, fy⟩, -⟩ := G3.out; clear L3))
  go_region
  all_goals
    go_wp2_with fail
    refine bodyPost_ret (v := .tuple #[.agg #[.slice ao n cap, .int .i64 p3, .bool s3], .agg #[.int .i64 4, .bool false, .int .i64 0, .string ⟨#[]⟩, .string t2, .string t3, .slice none 0 0, .slice none 0 0]]) (by simp [results, Try.results29, go_sem, World.cell?_setCell_same', b0, b1, b2, x0, x1, x2, x3, x4, x5, x6, x7]; try rfl) rfl ?_
    have hsz2 : t2.size ≤ 9223372036854775807 ∧ t3.size ≤ 9223372036854775807 := by
      have q := tx_len (tkR 1 l)
      have q2 := tkR_len 1 l
      have q3 : t2.size = (txB l1).length := by rw [ht2.out]; rfl
      have q4 : t3.size = (txB l2).length := by rw [ht3.out]; rfl
      have q5 := tx_len (txR (tkR 1 l))
      rw [hl2.out.1, hl1.out.1] at q4
      rw [hl1.out.1] at q3
      have := HLEN.out
      omega
    refine ⟨.mk { hd0 with k := 4, t := t2, i := t3 } [] [], none, 0, none, 0, p3, l3, s3, rfl, ⟨by rw [HNN.out]; exact hp3.out.1, hp3.out.2⟩, rep_flat _ _ _ ⟨Nat.zero_le _, hsz2.1, hsz2.2⟩, ?_, ?_⟩
    · repeat (first | with_reducible exact (G3.out).low | with_reducible refine low_drew ?_ | with_reducible refine low_set2 ?_ | with_reducible refine low_set1 ?_ | with_reducible refine low_set3 ?_ | with_reducible refine low_set0 ?_)
    · have q := vq_4 (Dp deep) (sh := sh) HLEN.out H1.out t2 t3 (by rw [ht2.out, hl1.out.1]) (by rw [ht3.out, hl2.out.1, hl1.out.1])
      rw [hl3.out.1, hl3.out.2, hl2.out.1, hl2.out.2, hl1.out.1, hl1.out.2]
      exact q
theorem lt32 (l : List UInt8) {m : Int} (h : m = ((ofB (tkB 4 l) : Nat) : Int)) : 0 ≤ m ∧ m < 4294967296 := by
  have q := ofB_lt (tkB 4 l)
  have q2 : (tkB 4 l).length ≤ 4 := by unfold tkB; split <;> simp <;> omega
  have q3 : 256 ^ (tkB 4 l).length ≤ 256 ^ 4 := Nat.pow_le_pow_right (by decide) q2
  have q4 : (256 : Nat) ^ 4 = 4294967296 := by decide
  omega
set_option maxHeartbeats 8000000 in
set_option maxRecDepth 100000 in
theorem get_2 (bs : List UInt8) (n : Nat) (p : Nat) (sh : Bool) (B : Nat) (w : World) (ao : Option Addr) (cap : Nat) (h : RdC ao n cap bs B w) (l : List UInt8) (hp : p ≤ n ∧ l = lf bs p sh) (hlen : l.length ≤ 65536) (deep : Nat) (hd : deep ≤ 50) (h1 : ofB (tkB 1 l) = 2) :
    Calls Try.prog 29 #[.agg #[.slice ao n cap, .int .i64 p, .bool sh], .int .i64 deep] w (GeP ao n cap bs deep l sh w) := by
  have E := Lib.hid h
  have HP := Lib.hid hp
  have HLEN := Lib.hid hlen
  have HN := h.2.2
  have HNN := Lib.hid HN
  have zd : ¬ (50 : Int) < (deep : Int) := by omega
  have H1 := Lib.hid h1
  clear h1 hd
  clear h hp hlen HN
  go_enter Try.func29, Try.ntmps29
  go_wp2_with (first
    | ((fail_if_success (have := G1)); go_at_call 50; (with_reducible refine (nx E.out _ ?hL p sh l HP.out 1 (by decide) 1 rfl).mono ?_); (case hL => exact (gs_start w _ _ _).low); rintro e w1 ⟨p1, m1, s1, l1, rfl, hm1, hl1, hp1, L1⟩; obtain rfl : m1 = 2 := (by rw [hm1.out, H1.out]; rfl); have G1 := Lib.hid ((gs_start w (.slice ao n cap) (.int .i64 p) (.bool sh)).to L1); obtain ⟨⟨⟨a0, a1, a2⟩, -, fa⟩, ⟨⟨b0, b1, b2⟩, -, fb⟩, ⟨⟨x0, x1, x2, x3, x4, x5, x6, x7⟩, -, fx⟩, ⟨⟨y0, y1, y2, y3, y4, y5, y6, y7⟩, hsz, fy⟩, -⟩ := G1.out; clear L1)
    | ((fail_if_success (have := G2)); go_at_call 50; (with_reducible refine (nx E.out _ ?hL p1 s1 l1 hp1.out 4 (by decide) 4 rfl).mono ?_); (case hL => exact ((G1.out.putR _ _ _).putV0 _).low); rintro e w2 ⟨p2, m2, s2, l2, rfl, hm2, hl2, hp2, L2⟩; have G2 := Lib.hid (((G1.out.putR _ _ _).putV0 _).to L2); clear a0 a1 a2 fa b0 b1 b2 fb x0 x1 x2 x3 x4 x5 x6 x7 fx y0 y1 y2 y3 y4 y5 y6 y7 fy hsz; obtain ⟨⟨⟨a0, a1, a2⟩, -, fa⟩, ⟨⟨b0, b1, b2⟩, -, fb⟩, ⟨⟨x0, x1, x2, x3, x4, x5, x6, x7⟩, -, fx⟩, ⟨⟨y0, y1, y2, y3, y4, y5, y6, y7⟩, hsz, fy⟩, -⟩ := G2.out; clear L2)
    | ((fail_if_success (have := G3)); go_at_call 50; (with_reducible refine (nx E.out _ ?hL p2 s2 l2 hp2.out 4 (by decide) 4 rfl).mono ?_); (case hL => exact (G2.out.putR _ _ _).low); rintro e w3 ⟨p3, m3, s3, l3, rfl, hm3, hl3, hp3, L3⟩; have G3 := Lib.hid ((G2.out.putR _ _ _).to L3); clear a0 a1 a2 fa b0 b1 b2 fb x0 x1 x2 x3 x4 x5 x6 x7 fx y0 y1 y2 y3 y4 y5 y6 y7 fy hsz; obtain ⟨⟨⟨a0, a1, a2⟩, -, fa⟩, ⟨⟨b0, b1, b2⟩, -, fb⟩, ⟨⟨x0, x1, x2, x3, x4, x5, x6, x7⟩, -, fx⟩, ⟨⟨y0, y1, y2, y3, y4, y5, y6, y7⟩, hsz, fy⟩, -⟩ := G3.out; clear L3; obtain ⟨bd2, bd2'⟩ := lt32 l1 hm2.out; obtain ⟨bd3, bd3'⟩ := lt32 l2 hm3.out; have u2 : IntKind.u64.wrap m2 = m2 := (by rw [IntKind.wrap_u64]; omega); have u3 : IntKind.u64.wrap m3 = m3 := (by rw [IntKind.wrap_u64]; omega); have u4 : IntKind.u64.wrap (m2 * 4294967296) = m2 * 4294967296 := (by rw [IntKind.wrap_u64]; omega); have u5 : IntKind.u64.wrap (m2 * 4294967296 + m3) = m2 * 4294967296 + m3 := (by rw [IntKind.wrap_u64]; omega)))
  go_region
  all_goals
    go_wp2_with fail
    refine bodyPost_ret (v := .tuple #[.agg #[.slice ao n cap, .int .i64 p3, .bool s3], .agg #[.int .i64 2, .bool false, .int .i64 (wrap64 (m2 * 4294967296 + m3)), .string ⟨#[]⟩, .string ⟨#[]⟩, .string ⟨#[]⟩, .slice none 0 0, .slice none 0 0]]) (by simp [results, Try.results29, go_sem, World.cell?_setCell_same', b0, b1, b2, x0, x1, x2, x3, x4, x5, x6, x7]; try rfl) rfl ?_
    refine ⟨.mk { hd0 with k := 2, n := wrap64 (m2 * 4294967296 + m3) } [] [], none, 0, none, 0, p3, l3, s3, rfl, ⟨by rw [HNN.out]; exact hp3.out.1, hp3.out.2⟩, rep_flat _ _ _ ⟨Nat.zero_le _, Nat.zero_le _, Nat.zero_le _⟩, ?_, ?_⟩
    · repeat (first | with_reducible exact (G3.out).low | with_reducible refine low_drew ?_ | with_reducible refine low_set2 ?_ | with_reducible refine low_set1 ?_ | with_reducible refine low_set3 ?_ | with_reducible refine low_set0 ?_)
    · have q := vq_2 (Dp deep) (sh := sh) H1.out (z := wrap64 (m2 * 4294967296 + m3)) (by rw [hm2.out, hm3.out, hl2.out.1, hl1.out.1]; try (congr 1 <;> simp))
      rw [hl3.out.1, hl3.out.2, hl2.out.1, hl2.out.2, hl1.out.1, hl1.out.2]
      exact q
set_option maxHeartbeats 8000000 in
set_option maxRecDepth 100000 in
theorem get_bad_d (bs : List UInt8) (n : Nat) (p : Nat) (sh : Bool) (B : Nat) (w : World) (ao : Option Addr) (cap : Nat) (h : RdC ao n cap bs B w) (l : List UInt8) (hp : p ≤ n ∧ l = lf bs p sh) (hlen : l.length ≤ 65536) (deep : Nat) (hd : 50 < deep) :
    Calls Try.prog 29 #[.agg #[.slice ao n cap, .int .i64 p, .bool sh], .int .i64 deep] w (GeP ao n cap bs deep l sh w) := by
  have E := Lib.hid h
  have HP := Lib.hid hp
  have HLEN := Lib.hid hlen
  have HN := h.2.2
  have HNN := Lib.hid HN
  have zd : (50 : Int) < (deep : Int) := by omega
  have HD := Lib.hid hd
  clear hd
  clear h hp hlen HN
  go_enter Try.func29, Try.ntmps29
  go_wp2_with (first
    | ((fail_if_success (have := G1)); go_at_call 50; (with_reducible refine (nx E.out _ ?hL p sh l HP.out 1 (by decide) 1 rfl).mono ?_); (case hL => exact (gs_start w _ _ _).low); rintro e w1 ⟨p1, m1, s1, l1, rfl, hm1, hl1, hp1, L1⟩; have G1 := Lib.hid ((gs_start w (.slice ao n cap) (.int .i64 p) (.bool sh)).to L1); obtain ⟨⟨⟨a0, a1, a2⟩, -, fa⟩, ⟨⟨b0, b1, b2⟩, -, fb⟩, ⟨⟨x0, x1, x2, x3, x4, x5, x6, x7⟩, -, fx⟩, ⟨⟨y0, y1, y2, y3, y4, y5, y6, y7⟩, hsz, fy⟩, -⟩ := G1.out; clear L1))
  obtain ⟨WT, hWT⟩ : ∃ W, W = (((((w1.setCell ⟨w.heap.size, 0, none⟩ (.slice ao n cap)).setCell ⟨w.heap.size, 1, none⟩ (.int .i64 p1)).setCell ⟨w.heap.size, 2, none⟩ (.bool s1)).setCell ⟨w.heap.size + 1 + 1 + 1, 0, none⟩ (.int .i64 m1)).setCell ⟨w.heap.size, 2, none⟩ (.bool true)) := ⟨_, rfl⟩
  rw [← hWT]
  have GT : Hid (GS w WT (.slice ao n cap) (.int .i64 p1) (.bool true) (.int .i64 m1) (.bool false) (.int .i64 0) (.string ⟨#[]⟩) (.string ⟨#[]⟩) (.string ⟨#[]⟩) (.slice none 0 0) (.slice none 0 0)) := Lib.hid (by rw [hWT]; exact ((G1.out.putR _ _ _).putV0 _).putR2 _)
  clear hWT
  clear a0 a1 a2 fa b0 b1 b2 fb x0 x1 x2 x3 x4 x5 x6 x7 fx y0 y1 y2 y3 y4 y5 y6 y7 fy hsz
  obtain ⟨⟨⟨a0, a1, a2⟩, -, fa⟩, ⟨⟨b0, b1, b2⟩, -, fb⟩, ⟨⟨x0, x1, x2, x3, x4, x5, x6, x7⟩, -, fx⟩, ⟨⟨y0, y1, y2, y3, y4, y5, y6, y7⟩, hsz, fy⟩, -⟩ := GT.out
  go_region
  all_goals
    go_wp2_with fail
    refine bodyPost_ret (v := .tuple #[.agg #[.slice ao n cap, .int .i64 p1, .bool true], .agg #[.int .i64 m1, .bool false, .int .i64 0, .string ⟨#[]⟩, .string ⟨#[]⟩, .string ⟨#[]⟩, .slice none 0 0, .slice none 0 0]]) (by simp [results, Try.results29, go_sem, World.cell?_setCell_same', b0, b1, b2, x0, x1, x2, x3, x4, x5, x6, x7]; try rfl) rfl ?_
    refine ⟨.mk { hd0 with k := m1 } [] [], none, 0, none, 0, p1, [], true, rfl, ⟨by rw [HNN.out]; exact hp1.out.1, rfl⟩, rep_flat _ _ _ ⟨Nat.zero_le _, Nat.zero_le _, Nat.zero_le _⟩, ?_, ?_⟩
    · repeat (first | with_reducible exact (GT.out).low | with_reducible refine low_drew ?_ | with_reducible refine low_set2 ?_ | with_reducible refine low_set1 ?_ | with_reducible refine low_set3 ?_ | with_reducible refine low_set0 ?_)
    · exact vq_bad (Dp deep) (m := m1) hm1.out (.inr fun c hc _ => by have := dpt_pos c; have := HD.out; unfold Dp at hc; omega)
set_option maxHeartbeats 8000000 in
set_option maxRecDepth 100000 in
theorem get_bad_0 (bs : List UInt8) (n : Nat) (p : Nat) (sh : Bool) (B : Nat) (w : World) (ao : Option Addr) (cap : Nat) (h : RdC ao n cap bs B w) (l : List UInt8) (hp : p ≤ n ∧ l = lf bs p sh) (hlen : l.length ≤ 65536) (deep : Nat) (hd : deep ≤ 50) (h1 : ofB (tkB 1 l) = 0) :
    Calls Try.prog 29 #[.agg #[.slice ao n cap, .int .i64 p, .bool sh], .int .i64 deep] w (GeP ao n cap bs deep l sh w) := by
  have E := Lib.hid h
  have HP := Lib.hid hp
  have HLEN := Lib.hid hlen
  have HN := h.2.2
  have HNN := Lib.hid HN
  have zd : ¬ (50 : Int) < (deep : Int) := by omega
  have H1 := Lib.hid h1
  clear h1 hd
  clear h hp hlen HN
  go_enter Try.func29, Try.ntmps29
  go_wp2_with (first
    | ((fail_if_success (have := G1)); go_at_call 50; (with_reducible refine (nx E.out _ ?hL p sh l HP.out 1 (by decide) 1 rfl).mono ?_); (case hL => exact (gs_start w _ _ _).low); rintro e w1 ⟨p1, m1, s1, l1, rfl, hm1, hl1, hp1, L1⟩; obtain rfl : m1 = 0 := (by rw [hm1.out, H1.out]; rfl); have G1 := Lib.hid ((gs_start w (.slice ao n cap) (.int .i64 p) (.bool sh)).to L1); obtain ⟨⟨⟨a0, a1, a2⟩, -, fa⟩, ⟨⟨b0, b1, b2⟩, -, fb⟩, ⟨⟨x0, x1, x2, x3, x4, x5, x6, x7⟩, -, fx⟩, ⟨⟨y0, y1, y2, y3, y4, y5, y6, y7⟩, hsz, fy⟩, -⟩ := G1.out; clear L1))
  obtain ⟨WT, hWT⟩ : ∃ W, W = (((((w1.setCell ⟨w.heap.size, 0, none⟩ (.slice ao n cap)).setCell ⟨w.heap.size, 1, none⟩ (.int .i64 p1)).setCell ⟨w.heap.size, 2, none⟩ (.bool s1)).setCell ⟨w.heap.size + 1 + 1 + 1, 0, none⟩ (.int .i64 0)).setCell ⟨w.heap.size, 2, none⟩ (.bool true)) := ⟨_, rfl⟩
  rw [← hWT]
  have GT : Hid (GS w WT (.slice ao n cap) (.int .i64 p1) (.bool true) (.int .i64 0) (.bool false) (.int .i64 0) (.string ⟨#[]⟩) (.string ⟨#[]⟩) (.string ⟨#[]⟩) (.slice none 0 0) (.slice none 0 0)) := Lib.hid (by rw [hWT]; exact ((G1.out.putR _ _ _).putV0 _).putR2 _)
  clear hWT
  clear a0 a1 a2 fa b0 b1 b2 fb x0 x1 x2 x3 x4 x5 x6 x7 fx y0 y1 y2 y3 y4 y5 y6 y7 fy hsz
  obtain ⟨⟨⟨a0, a1, a2⟩, -, fa⟩, ⟨⟨b0, b1, b2⟩, -, fb⟩, ⟨⟨x0, x1, x2, x3, x4, x5, x6, x7⟩, -, fx⟩, ⟨⟨y0, y1, y2, y3, y4, y5, y6, y7⟩, hsz, fy⟩, -⟩ := GT.out
  go_region
  all_goals
    go_wp2_with fail
    refine bodyPost_ret (v := .tuple #[.agg #[.slice ao n cap, .int .i64 p1, .bool true], .agg #[.int .i64 0, .bool false, .int .i64 0, .string ⟨#[]⟩, .string ⟨#[]⟩, .string ⟨#[]⟩, .slice none 0 0, .slice none 0 0]]) (by simp [results, Try.results29, go_sem, World.cell?_setCell_same', b0, b1, b2, x0, x1, x2, x3, x4, x5, x6, x7]; try rfl) rfl ?_
    refine ⟨.mk { hd0 with k := 0 } [] [], none, 0, none, 0, p1, [], true, rfl, ⟨by rw [HNN.out]; exact hp1.out.1, rfl⟩, rep_flat _ _ _ ⟨Nat.zero_le _, Nat.zero_le _, Nat.zero_le _⟩, ?_, ?_⟩
    · repeat (first | with_reducible exact (GT.out).low | with_reducible refine low_drew ?_ | with_reducible refine low_set2 ?_ | with_reducible refine low_set1 ?_ | with_reducible refine low_set3 ?_ | with_reducible refine low_set0 ?_)
    · exact vq_bad (Dp deep) (m := 0) (by rw [H1.out]; rfl) (.inl (.inl (by decide)))
set_option maxHeartbeats 8000000 in
set_option maxRecDepth 100000 in
theorem get_bad_6 (bs : List UInt8) (n : Nat) (p : Nat) (sh : Bool) (B : Nat) (w : World) (ao : Option Addr) (cap : Nat) (h : RdC ao n cap bs B w) (l : List UInt8) (hp : p ≤ n ∧ l = lf bs p sh) (hlen : l.length ≤ 65536) (deep : Nat) (hd : deep ≤ 50) (h1 : 6 < ofB (tkB 1 l)) :
    Calls Try.prog 29 #[.agg #[.slice ao n cap, .int .i64 p, .bool sh], .int .i64 deep] w (GeP ao n cap bs deep l sh w) := by
  have E := Lib.hid h
  have HP := Lib.hid hp
  have HLEN := Lib.hid hlen
  have HN := h.2.2
  have HNN := Lib.hid HN
  have zd : ¬ (50 : Int) < (deep : Int) := by omega
  have H1 := Lib.hid h1
  clear h1 hd
  clear h hp hlen HN
  go_enter Try.func29, Try.ntmps29
  go_wp2_with (first
    | ((fail_if_success (have := G1)); go_at_call 50; (with_reducible refine (nx E.out _ ?hL p sh l HP.out 1 (by decide) 1 rfl).mono ?_); (case hL => exact (gs_start w _ _ _).low); rintro e w1 ⟨p1, m1, s1, l1, rfl, hm1, hl1, hp1, L1⟩; have G1 := Lib.hid ((gs_start w (.slice ao n cap) (.int .i64 p) (.bool sh)).to L1); obtain ⟨⟨⟨a0, a1, a2⟩, -, fa⟩, ⟨⟨b0, b1, b2⟩, -, fb⟩, ⟨⟨x0, x1, x2, x3, x4, x5, x6, x7⟩, -, fx⟩, ⟨⟨y0, y1, y2, y3, y4, y5, y6, y7⟩, hsz, fy⟩, -⟩ := G1.out; clear L1; have z6 : 6 < m1 := (by rw [hm1.out]; have := H1.out; omega); have z1 : ¬ m1 < 1 := (by omega); have z7 : 1 ≤ m1 := (by omega)))
  obtain ⟨WT, hWT⟩ : ∃ W, W = (((((w1.setCell ⟨w.heap.size, 0, none⟩ (.slice ao n cap)).setCell ⟨w.heap.size, 1, none⟩ (.int .i64 p1)).setCell ⟨w.heap.size, 2, none⟩ (.bool s1)).setCell ⟨w.heap.size + 1 + 1 + 1, 0, none⟩ (.int .i64 m1)).setCell ⟨w.heap.size, 2, none⟩ (.bool true)) := ⟨_, rfl⟩
  rw [← hWT]
  have GT : Hid (GS w WT (.slice ao n cap) (.int .i64 p1) (.bool true) (.int .i64 m1) (.bool false) (.int .i64 0) (.string ⟨#[]⟩) (.string ⟨#[]⟩) (.string ⟨#[]⟩) (.slice none 0 0) (.slice none 0 0)) := Lib.hid (by rw [hWT]; exact ((G1.out.putR _ _ _).putV0 _).putR2 _)
  clear hWT
  clear a0 a1 a2 fa b0 b1 b2 fb x0 x1 x2 x3 x4 x5 x6 x7 fx y0 y1 y2 y3 y4 y5 y6 y7 fy hsz
  obtain ⟨⟨⟨a0, a1, a2⟩, -, fa⟩, ⟨⟨b0, b1, b2⟩, -, fb⟩, ⟨⟨x0, x1, x2, x3, x4, x5, x6, x7⟩, -, fx⟩, ⟨⟨y0, y1, y2, y3, y4, y5, y6, y7⟩, hsz, fy⟩, -⟩ := GT.out
  go_region
  all_goals
    go_wp2_with fail
    refine bodyPost_ret (v := .tuple #[.agg #[.slice ao n cap, .int .i64 p1, .bool true], .agg #[.int .i64 m1, .bool false, .int .i64 0, .string ⟨#[]⟩, .string ⟨#[]⟩, .string ⟨#[]⟩, .slice none 0 0, .slice none 0 0]]) (by simp [results, Try.results29, go_sem, World.cell?_setCell_same', b0, b1, b2, x0, x1, x2, x3, x4, x5, x6, x7]; try rfl) rfl ?_
    refine ⟨.mk { hd0 with k := m1 } [] [], none, 0, none, 0, p1, [], true, rfl, ⟨by rw [HNN.out]; exact hp1.out.1, rfl⟩, rep_flat _ _ _ ⟨Nat.zero_le _, Nat.zero_le _, Nat.zero_le _⟩, ?_, ?_⟩
    · repeat (first | with_reducible exact (GT.out).low | with_reducible refine low_drew ?_ | with_reducible refine low_set2 ?_ | with_reducible refine low_set1 ?_ | with_reducible refine low_set3 ?_ | with_reducible refine low_set0 ?_)
    · exact vq_bad (Dp deep) (m := m1) hm1.out (.inl (.inr (by rw [hm1.out]; have := H1.out; omega)))
end Go.Proofs.Ytbhlgajdoegboaa
namespace Go.Proofs.Ytbhlgajdoegboaa
open Go.RowKit Go.Sort
theorem B3.blk {W W' : World} {b : Nat} {c0 c1 c2 : Value} (h : B3 W b c0 c1 c2) (e : W'.heap[b]? = W.heap[b]?) (hz : W.heap.size ≤ W'.heap.size) : B3 W' b c0 c1 c2 := by
  obtain ⟨⟨e0, e1, e2⟩, hb, hf⟩ := h
  exact ⟨⟨cell_to e0 fun _ => e, cell_to e1 fun _ => e, cell_to e2 fun _ => e⟩, Nat.lt_of_lt_of_le hb hz, fun o => by rw [World.frozen?_of_block (w := W) (w' := W') (a := ⟨b, o, none⟩) e]; exact hf o⟩
theorem B8.blk {W W' : World} {b : Nat} {c0 c1 c2 c3 c4 c5 c6 c7 : Value} (h : B8 W b c0 c1 c2 c3 c4 c5 c6 c7) (e : W'.heap[b]? = W.heap[b]?) (hz : W.heap.size ≤ W'.heap.size) : B8 W' b c0 c1 c2 c3 c4 c5 c6 c7 := by
  obtain ⟨⟨e0, e1, e2, e3, e4, e5, e6, e7⟩, hb, hf⟩ := h
  exact ⟨⟨cell_to e0 fun _ => e, cell_to e1 fun _ => e, cell_to e2 fun _ => e, cell_to e3 fun _ => e, cell_to e4 fun _ => e, cell_to e5 fun _ => e, cell_to e6 fun _ => e, cell_to e7 fun _ => e⟩, Nat.lt_of_lt_of_le hb hz, fun o => by rw [World.frozen?_of_block (w := W) (w' := W') (a := ⟨b, o, none⟩) e]; exact hf o⟩
theorem GS.bel {w W W' : World} {r0 r1 r2 v0 v1 v2 v3 v4 v5 v6 v7 : Value} (h : GS w W r0 r1 r2 v0 v1 v2 v3 v4 v5 v6 v7) (l : RowKit.Below (w.heap.size + 4) W W') : GS w W' r0 r1 r2 v0 v1 v2 v3 v4 v5 v6 v7 :=
  ⟨h.r.blk (l.block _ (by omega)) l.size, h.qr.blk (l.block _ (by omega)) l.size, h.qv.blk (l.block _ (by omega)) l.size, h.v.blk (l.block _ (by omega)) l.size,
    l.os.trans h.low.1, l.output.trans h.low.2.1, Nat.le_trans h.low.2.2.1 l.size, fun i hi => (l.block i (by omega)).trans (h.low.2.2.2 i hi)⟩
theorem GS.keptO {w W W' : World} {r0 r1 r2 v0 v1 v2 v3 v4 v5 v6 v7 : Value} {g : Nat} (h : GS w W r0 r1 r2 v0 v1 v2 v3 v4 v5 v6 v7) (l : KeptBut W W' (some g)) (hg : w.heap.size + 4 ≤ g) : GS w W' r0 r1 r2 v0 v1 v2 v3 v4 v5 v6 v7 :=
  ⟨h.r.kept l (by omega), h.qr.kept l (by omega), h.qv.kept l (by omega), h.v.kept l (by omega), h.low.kept l fun x hx => by simp only [Option.some.injEq] at hx; omega⟩
theorem b8_new (W : World) (nb : Nat) (hnb : W.heap.size = nb) : B8 (W.alloc (.cells #[.int .i64 0, .bool false, .int .i64 0, .string ⟨#[]⟩, .string ⟨#[]⟩, .string ⟨#[]⟩, .slice none 0 0, .slice none 0 0] 29)) nb (.int .i64 0) (.bool false) (.int .i64 0) (.string ⟨#[]⟩) (.string ⟨#[]⟩) (.string ⟨#[]⟩) (.slice none 0 0) (.slice none 0 0) := by
  subst hnb
  obtain ⟨h1, h2⟩ := kept_new (rb := W.heap.size + 1) (KeptBut.refl (W.alloc (.cells #[.int .i64 0, .bool false, .int .i64 0, .string ⟨#[]⟩, .string ⟨#[]⟩, .string ⟨#[]⟩, .slice none 0 0, .slice none 0 0] 29)) _) (by omega)
  exact ⟨h1, by simp, h2⟩
/-- Where the reading of items stands. -/
structure GLt (w W : World) (ao : Option Addr) (n cap p : Nat) (s : Bool) (k : Int) (a b : Value) (xs : List El) (ys : List ByteArray) : Prop where
  gs : GS w W (.slice ao n cap) (.int .i64 p) (.bool s) (.int .i64 k) (.bool false) (.int .i64 0) (.string ⟨#[]⟩) (.string ⟨#[]⟩) (.string ⟨#[]⟩) a b
  its : OwnV (w.heap.size + 4) W a xs
  nms : OwnR 9 1 encN (w.heap.size + 4) W b ys
  reps : ∀ q ∈ xs, ElOk (fun g => w.heap.size + 4 ≤ g ∧ some g ≠ a.ownBlock ∧ some g ≠ b.ownBlock) W q
theorem GLt.aB {w W : World} {ao : Option Addr} {n cap p : Nat} {s : Bool} {k : Int} {a b : Value} {xs : List El} {ys : List ByteArray} (h : GLt w W ao n cap p s k a b xs ys) : ∀ g, a.ownBlock = some g → w.heap.size + 4 ≤ g ∧ g < W.heap.size := World.ownsRow.lt h.its
theorem GLt.bB {w W : World} {ao : Option Addr} {n cap p : Nat} {s : Bool} {k : Int} {a b : Value} {xs : List El} {ys : List ByteArray} (h : GLt w W ao n cap p s k a b xs ys) : ∀ g, b.ownBlock = some g → w.heap.size + 4 ≤ g ∧ g < W.heap.size := World.ownsRow.lt h.nms
theorem GLt.size {w W : World} {ao : Option Addr} {n cap p : Nat} {s : Bool} {k : Int} {a b : Value} {xs : List El} {ys : List ByteArray} (h : GLt w W ao n cap p s k a b xs ys) : w.heap.size + 4 ≤ W.heap.size := h.gs.v.2.1
/-- The reader turned, and what is new. -/
theorem GLt.kr {w W : World} {ao : Option Addr} {n cap p : Nat} {s : Bool} {k : Int} {a b : Value} {xs : List El} {ys : List ByteArray} {W' : World} {p' : Nat} {s' : Bool} (h : GLt w W ao n cap p s k a b xs ys) (K : KeptBut W W' (some w.heap.size)) (G : GS w W' (.slice ao n cap) (.int .i64 p') (.bool s') (.int .i64 k) (.bool false) (.int .i64 0) (.string ⟨#[]⟩) (.string ⟨#[]⟩) (.string ⟨#[]⟩) a b) : GLt w W' ao n cap p' s' k a b xs ys := by
  have old : ∀ g, w.heap.size + 4 ≤ g → g < W.heap.size → W'.heap[g]? = W.heap[g]? := fun g h1 h2 => K.2.2.2 g h2 (by simp; omega)
  exact ⟨G, OwnR.to h.its fun g hg => old g (h.aB g hg).1 (h.aB g hg).2, OwnR.to h.nms fun g hg => old g (h.bB g hg).1 (h.bB g hg).2, fun q hq => Rep.to (fun g hg hlt => ⟨hg, old g hg.1 hlt⟩) _ (h.reps q hq)⟩
theorem GLt.to {w W : World} {ao : Option Addr} {n cap p : Nat} {s : Bool} {k : Int} {a b : Value} {xs : List El} {ys : List ByteArray} {W' : World} (h : GLt w W ao n cap p s k a b xs ys) (l : Low W W') : GLt w W' ao n cap p s k a b xs ys := h.kr (KeptBut.of_low l) (h.gs.to l)
theorem GLt.putN {w W : World} {ao : Option Addr} {n cap p : Nat} {s : Bool} {k : Int} {a b : Value} {xs : List El} {ys : List ByteArray} {w2 : World} {b2 : Value} {ys2 : List ByteArray} (h : GLt w W ao n cap p s k a b xs ys) (h2 : OwnR 9 1 encN (w.heap.size + 4) w2 b2 ys2) (bl : RowKit.Below (w.heap.size + 4) W w2)
    (k2 : ∀ x, x < W.heap.size → some x ≠ b.ownBlock → w2.heap[x]? = W.heap[x]?) (n2 : b2.ownBlock = b.ownBlock ∨ ∀ g, b2.ownBlock = some g → W.heap.size ≤ g) : GLt w (w2.setCell ⟨w.heap.size + 3, 7, none⟩ b2) ao n cap p s k a b2 xs ys2 := by
  have KS := kept_setCell w2 (w.heap.size + 3) 7 b2
  have both : ∀ g, w.heap.size + 4 ≤ g → g < W.heap.size → some g ≠ b.ownBlock → (w2.setCell ⟨w.heap.size + 3, 7, none⟩ b2).heap[g]? = W.heap[g]? := fun g h0 h1 h2 =>
    (KS.2.2.2 g (Nat.lt_of_lt_of_le h1 bl.size) (by simp; omega)).trans (k2 g h1 h2)
  refine ⟨(h.gs.bel bl).putV7 _, OwnR.to h.its fun g hg => both g (h.aB g hg).1 (h.aB g hg).2 (OwnR.apart h.its h.nms (by decide) hg), OwnR.to h2 fun g hg => KS.2.2.2 g (World.ownsRow.lt h2 g hg).2 (by simp; have := (World.ownsRow.lt h2 g hg).1; omega), fun q hq => ?_⟩
  refine Rep.to (fun g hg hlt => ⟨⟨hg.1, hg.2.1, fun e => ?_⟩, both g hg.1 hlt hg.2.2⟩) _ (h.reps q hq)
  rcases n2 with m | m
  · rw [m] at e; exact hg.2.2 e
  · have := m g e.symm; omega
theorem GLt.putI {w W : World} {ao : Option Addr} {n cap p : Nat} {s : Bool} {k : Int} {a b : Value} {xs : List El} {ys : List ByteArray} {w2 : World} {a2 : Value} {q0 : El} (h : GLt w W ao n cap p s k a b xs ys) (h2 : OwnV (w.heap.size + 4) w2 a2 (xs ++ [q0])) (bl : RowKit.Below (w.heap.size + 4) W w2)
    (k2 : ∀ x, x < W.heap.size → some x ≠ a.ownBlock → w2.heap[x]? = W.heap[x]?) (n2 : a2.ownBlock = a.ownBlock ∨ ∀ g, a2.ownBlock = some g → W.heap.size ≤ g)
    (hp : ElOk (fun g => w.heap.size + 4 ≤ g ∧ some g ≠ a.ownBlock ∧ some g ≠ b.ownBlock) W q0) : GLt w (w2.setCell ⟨w.heap.size + 3, 6, none⟩ a2) ao n cap p s k a2 b (xs ++ [q0]) ys := by
  have KS := kept_setCell w2 (w.heap.size + 3) 6 a2
  have both : ∀ g, w.heap.size + 4 ≤ g → g < W.heap.size → some g ≠ a.ownBlock → (w2.setCell ⟨w.heap.size + 3, 6, none⟩ a2).heap[g]? = W.heap[g]? := fun g h0 h1 h2 =>
    (KS.2.2.2 g (Nat.lt_of_lt_of_le h1 bl.size) (by simp; omega)).trans (k2 g h1 h2)
  refine ⟨(h.gs.bel bl).putV6 _, OwnR.to h2 fun g hg => KS.2.2.2 g (World.ownsRow.lt h2 g hg).2 (by simp; have := (World.ownsRow.lt h2 g hg).1; omega), OwnR.to h.nms fun g hg => both g (h.bB g hg).1 (h.bB g hg).2 (OwnR.apart h.nms h.its (by decide) hg), fun q hq => ?_⟩
  have all : ElOk (fun g => w.heap.size + 4 ≤ g ∧ some g ≠ a.ownBlock ∧ some g ≠ b.ownBlock) W q := by
    rcases List.mem_append.1 hq with hq | hq
    · exact h.reps q hq
    · simp at hq; subst hq; exact hp
  refine Rep.to (fun g hg hlt => ⟨⟨hg.1, fun e => ?_, hg.2.2⟩, both g hg.1 hlt hg.2.1⟩) _ all
  rcases n2 with m | m
  · rw [m] at e; exact hg.2.1 e
  · have := m g e.symm; omega
theorem GLt.rep {w W : World} {ao : Option Addr} {n cap p : Nat} {s : Bool} {k : Int} {a b : Value} {xs : List El} {ys : List ByteArray} (h : GLt w W ao n cap p s k a b xs ys) (hy : ∀ y ∈ ys, y.size ≤ 65536) : Rep (fun g => w.heap.size + 4 ≤ g) W (.mk { hd0 with k := k } (xs.map (·.v)) ys) a b := by
  refine rep_v.2 ⟨⟨Nat.zero_le _, Nat.zero_le _, Nat.zero_le _⟩, ?_, ?_⟩
  · show NamesAt _ W ys b
    obtain ⟨bo, bcap, hb, h1, h2, h3⟩ := OwnR.shape h.nms
    refine ⟨bo, bcap, hb, by omega, fun x hx => by have := hy x hx; omega, ?_⟩
    rcases h3 with h0 | ⟨g, h3, h4, -⟩
    · exact .inl h0
    · refine .inr ⟨g, 0, h3, h4, fun j hj => ?_⟩
      have hn := h.nms
      rw [hb, h3] at hn
      have := OwnR.cell encN_len hn j 0 hj (by decide)
      rw [Nat.mul_one, Nat.add_zero] at this
      rw [Nat.zero_add, this]
      rfl
  · show RowAt _ W (xs.map (·.v)) a
    exact ownV_row h.its h.reps (fun g hg => hg.1) fun g hg => (h.aB g hg).1
theorem elOk_low {A : Nat → Prop} {w w' : World} {p : El} (h : ElOk A w p) (l : Low w w') : ElOk A w' p := Rep.low h l
/-- What lies behind the boxes stays. -/
def Hib (w W W' : World) : Prop := ∀ g, w.heap.size + 4 ≤ g → W'.heap[g]? = W.heap[g]?
theorem hib_refl (w W : World) : Hib w W W := fun _ _ => rfl
theorem hib_drew {w W W' : World} (h : Hib w W W') : Hib w W W'.drew := h
theorem hib_set {w W W' : World} {r o : Nat} {v : Value} (h : Hib w W W') (hr : r < w.heap.size + 4) : Hib w W (W'.setCell ⟨r, o, none⟩ v) := fun g hg => (heap_setCell_other W' ⟨r, o, none⟩ g v (by simp; omega)).trans (h g hg)
theorem hib_set1 {w W W' : World} {o : Nat} {v : Value} (h : Hib w W W') : Hib w W (W'.setCell ⟨w.heap.size + 1, o, none⟩ v) := hib_set h (by omega)
theorem hib_set2 {w W W' : World} {o : Nat} {v : Value} (h : Hib w W W') : Hib w W (W'.setCell ⟨w.heap.size + 1 + 1, o, none⟩ v) := hib_set h (by omega)
/-- .. behind the reading of one item: its box is filled, the reader turned. -/
theorem GLt.item {w W : World} {ao : Option Addr} {n cap p : Nat} {s : Bool} {k : Int} {a b : Value} {xs : List El} {ys : List ByteArray} {w2 : World} {p' : Nat} {s' : Bool} {x : V} {ai an : Option Addr} {ci cn : Nat} {nb : Nat} (h : GLt w W ao n cap p s k a b xs ys) (hnb : W.heap.size = nb) (l : Low (W.alloc (.cells #[.int .i64 0, .bool false, .int .i64 0, .string ⟨#[]⟩, .string ⟨#[]⟩, .string ⟨#[]⟩, .slice none 0 0, .slice none 0 0] 29)) w2) (hr : Rep (fun g => (W.alloc (.cells #[.int .i64 0, .bool false, .int .i64 0, .string ⟨#[]⟩, .string ⟨#[]⟩, .string ⟨#[]⟩, .slice none 0 0, .slice none 0 0] 29)).heap.size ≤ g) w2 x (.slice ai x.l.length ci) (.slice an x.ns.length cn)) :
    GLt w (((((((((((w2.setCell ⟨w.heap.size, 0, none⟩ (.slice ao n cap)).setCell ⟨w.heap.size, 1, none⟩ (.int .i64 p')).setCell ⟨w.heap.size, 2, none⟩ (.bool s')).setCell ⟨nb, 0, none⟩ (.int .i64 x.h.k)).setCell ⟨nb, 1, none⟩ (.bool x.h.b)).setCell ⟨nb, 2, none⟩ (.int .i64 x.h.n)).setCell ⟨nb, 3, none⟩ (.string x.h.s)).setCell ⟨nb, 4, none⟩ (.string x.h.t)).setCell ⟨nb, 5, none⟩ (.string x.h.i)).setCell ⟨nb, 6, none⟩ (.slice ai x.l.length ci)).setCell ⟨nb, 7, none⟩ (.slice an x.ns.length cn)) ao n cap p' s' k a b xs ys ∧
    ElOk (fun g => w.heap.size + 4 ≤ g ∧ some g ≠ a.ownBlock ∧ some g ≠ b.ownBlock) (((((((((((w2.setCell ⟨w.heap.size, 0, none⟩ (.slice ao n cap)).setCell ⟨w.heap.size, 1, none⟩ (.int .i64 p')).setCell ⟨w.heap.size, 2, none⟩ (.bool s')).setCell ⟨nb, 0, none⟩ (.int .i64 x.h.k)).setCell ⟨nb, 1, none⟩ (.bool x.h.b)).setCell ⟨nb, 2, none⟩ (.int .i64 x.h.n)).setCell ⟨nb, 3, none⟩ (.string x.h.s)).setCell ⟨nb, 4, none⟩ (.string x.h.t)).setCell ⟨nb, 5, none⟩ (.string x.h.i)).setCell ⟨nb, 6, none⟩ (.slice ai x.l.length ci)).setCell ⟨nb, 7, none⟩ (.slice an x.ns.length cn)) ⟨x, ai, ci, an, cn⟩ := by
  subst hnb
  have LW : Low W w2 := (Low.alloc (Low.refl W) _).trans l
  have K3 := kept3 w2 w.heap.size (.slice ao n cap) (.int .i64 p') (.bool s')
  have hs := h.size
  have K8 := kept8 (((w2.setCell ⟨w.heap.size, 0, none⟩ (.slice ao n cap)).setCell ⟨w.heap.size, 1, none⟩ (.int .i64 p')).setCell ⟨w.heap.size, 2, none⟩ (.bool s')) W.heap.size (.int .i64 x.h.k) (.bool x.h.b) (.int .i64 x.h.n) (.string x.h.s) (.string x.h.t) (.string x.h.i) (.slice ai x.l.length ci) (.slice an x.ns.length cn)
  refine ⟨h.kr (((KeptBut.of_low LW).trans K3).more K8 fun g hg => by simp only [Option.some.injEq] at hg; omega) (((h.gs.to LW).putR _ _ _).keptO K8 hs), ?_⟩
  refine Rep.to (fun g hg hlt => ?_) _ hr
  simp only [World.size_alloc] at hg
  refine ⟨⟨by omega, fun e => by have := (h.aB g e.symm).2; omega, fun e => by have := (h.bB g e.symm).2; omega⟩, (K8.2.2.2 g (Nat.lt_of_lt_of_le hlt K3.2.2.1) (by simp; omega)).trans (K3.2.2.2 g hlt (by simp; omega))⟩
set_option maxHeartbeats 4000000 in
set_option maxRecDepth 100000 in
theorem get_6 (bs : List UInt8) (n : Nat) (p : Nat) (sh : Bool) (B : Nat) (w : World) (ao : Option Addr) (cap : Nat) (h : RdC ao n cap bs B w) (l : List UInt8) (hp : p ≤ n ∧ l = lf bs p sh) (hlen : l.length ≤ 65536) (deep : Nat) (hd : deep ≤ 50) (h1 : ofB (tkB 1 l) = 6)
    (ih : ∀ W, RdC ao n cap bs B W → ∀ p s l, (p ≤ n ∧ l = lf bs p s) → l.length ≤ 65536 → Calls Try.prog 29 #[.agg #[.slice ao n cap, .int .i64 p, .bool s], .int .i64 ((deep : Int) + 1)] W (GeP ao n cap bs (deep + 1) l s W)) :
    Calls Try.prog 29 #[.agg #[.slice ao n cap, .int .i64 p, .bool sh], .int .i64 deep] w (GeP ao n cap bs deep l sh w) := by
  have E := Lib.hid h
  have HP := Lib.hid hp
  have HLEN := Lib.hid hlen
  have HN := h.2.2
  have HNN := Lib.hid HN
  have IH := Lib.hid ih
  have zd : ¬ (50 : Int) < (deep : Int) := by omega
  have H1 := Lib.hid h1
  have H1K : Hid (((ofB (tkB 1 l) : Nat) : Int) = 6) := Lib.hid (by rw [h1]; rfl)
  clear h hp hlen HN h1 hd ih
  go_enter Try.func29, Try.ntmps29
  go_wp2_with (first
    | ((fail_if_success (have := G1)); go_at_call 50; (with_reducible refine (nx E.out _ ?hL p sh l HP.out 1 (by decide) 1 rfl).mono ?_); (case hL => exact (gs_start w _ _ _).low); rintro e w1 ⟨p1, m1, s1, l1, rfl, hm1, hl1, hp1, L1⟩; obtain rfl : m1 = 6 := (by rw [hm1.out, H1.out]; rfl); have G1 := Lib.hid ((gs_start w (.slice ao n cap) (.int .i64 p) (.bool sh)).to L1); obtain ⟨⟨⟨a0, a1, a2⟩, -, fa⟩, ⟨⟨b0, b1, b2⟩, -, fb⟩, ⟨⟨x0, x1, x2, x3, x4, x5, x6, x7⟩, -, fx⟩, ⟨⟨y0, y1, y2, y3, y4, y5, y6, y7⟩, hsz, fy⟩, -⟩ := G1.out; clear L1)
    | ((fail_if_success (have := G2)); go_at_call 50; (with_reducible refine (nx E.out _ ?hL p1 s1 l1 hp1.out 4 (by decide) 4 rfl).mono ?_); (case hL => exact ((G1.out.putR _ _ _).putV0 _).low); rintro e w2 ⟨p2, m2, s2, l2, rfl, hm2, hl2, hp2, L2⟩; have G2 := Lib.hid (((G1.out.putR _ _ _).putV0 _).to L2); clear a0 a1 a2 fa b0 b1 b2 fb x0 x1 x2 x3 x4 x5 x6 x7 fx y0 y1 y2 y3 y4 y5 y6 y7 fy hsz; obtain ⟨⟨⟨a0, a1, a2⟩, -, fa⟩, ⟨⟨b0, b1, b2⟩, -, fb⟩, ⟨⟨x0, x1, x2, x3, x4, x5, x6, x7⟩, -, fx⟩, ⟨⟨y0, y1, y2, y3, y4, y5, y6, y7⟩, hsz, fy⟩, -⟩ := G2.out; clear L2))
  obtain ⟨bd2, bd2'⟩ := lt32 l1 hm2.out
  have ST0 : Hid (GLt w (((w2.setCell ⟨w.heap.size, 0, none⟩ (.slice ao n cap)).setCell ⟨w.heap.size, 1, none⟩ (.int .i64 p2)).setCell ⟨w.heap.size, 2, none⟩ (.bool s2)) ao n cap p2 s2 6 (.slice none 0 0) (.slice none 0 0) [] []) := Lib.hid ⟨G2.out.putR _ _ _, OwnR.nil _ _ _ _ _, OwnR.nil _ _ _ _ _, by simp⟩
  clear a0 a1 a2 fa b0 b1 b2 fb x0 x1 x2 x3 x4 x5 x6 x7 fx y0 y1 y2 y3 y4 y5 y6 y7 fy hsz
  go_loopg [11] (m2.toNat) (fun gk vi wr => ∃ (i : Nat) (xs : List El) (ys : List ByteArray) (a b : Value) (p3 : Nat) (s3 : Bool) (li : List UInt8), vi = .int .i64 (i : Int) ∧ (i : Int) ≤ m2 ∧ m2.toNat - i ≤ gk ∧ Hid (GLt w wr ao n cap p3 s3 6 a b xs ys) ∧ Hid (p3 ≤ n ∧ li = lf bs p3 s3) ∧ Hid (ISp (Dp (deep + 1)) ((6 : Int) == 6) l2 s2 i xs ys li s3))
  case atStart => exact ⟨0, [], [], _, _, p2, s2, l2, rfl, bd2, Nat.le_refl _, ST0, hp2, Lib.hid (ISp.start _ _ _ _)⟩
  case round =>
    obtain ⟨i, xs, ys, a, b, p3, s3, li, rfl, hi, hg, HS, HP3, HSP⟩ := hrel
    have HXL := Lib.hid HSP.out.xl
    have hll : l2.length ≤ l1.length ∧ l1.length ≤ l.length := by rw [hl2.out.1, hl1.out.1]; exact ⟨tkR_len _ _, tkR_len _ _⟩
    have HLL := Lib.hid hll
    have HIL := Lib.hid (show i + li.length ≤ 65537 by have q := HSP.out.few; have q2 := HLEN.out; have q3 := HLL.out; split at q <;> omega)
    clear hll
    by_cases hlt : (i : Int) < m2
    · cases s3 with
      | true =>
        have HI := Lib.hid (show i ≤ ofB (tkB 4 l1) by have := hm2.out; omega)
        have HE := Lib.hid (show true = false → i = ofB (tkB 4 l1) from fun e => by simp at e)
        obtain ⟨⟨⟨a0, a1, a2⟩, -, fa⟩, ⟨⟨b0, b1, b2⟩, -, fb⟩, ⟨⟨x0, x1, x2, x3, x4, x5, x6, x7⟩, -, fx⟩, ⟨⟨y0, y1, y2, y3, y4, y5, y6, y7⟩, hsz, fy⟩, -⟩ := HS.out.gs
        go_wp2_with fail
        clear a0 a1 a2 fa b0 b1 b2 fb x0 x1 x2 x3 x4 x5 x6 x7 fx y0 y1 y2 y3 y4 y5 y6 y7 fy hsz
        obtain ⟨ai, ca, ha, -⟩ := OwnR.shape HS.out.its
        obtain ⟨bi, cb, hb, -⟩ := OwnR.shape HS.out.nms
        have FIN := Lib.hid (vq_items (D := Dp deep) (D' := Dp (deep + 1)) (fun c hc h56 x hx => by
          unfold Dp at hc ⊢
          have h1 := dpt_v c
          have h2 : dpt x ≤ dptL c.nest := (dptL_le (n := dptL c.nest)).1 (Nat.le_refl _) x (by unfold V.nest; rw [if_pos h56]; exact hx)
          omega) (.inr rfl) HLEN.out H1K.out (by have q := HSP.out; rw [hl2.out.1, hl2.out.2, hl1.out.1, hl1.out.2] at q; exact q) (by have := HI.out; rw [hl1.out.1] at this; exact this) (by have := HE.out; rw [hl1.out.1] at this; exact this))
        rw [HXL.out] at ha
        subst ha
        obtain ⟨ny, hny⟩ : ∃ q, q = ys.length := ⟨_, rfl⟩
        rw [← hny] at hb
        subst hb
        have HNY := Lib.hid hny
        clear hny
        obtain ⟨⟨⟨a0, a1, a2⟩, -, fa⟩, ⟨⟨b0, b1, b2⟩, -, fb⟩, ⟨⟨x0, x1, x2, x3, x4, x5, x6, x7⟩, -, fx⟩, ⟨⟨y0, y1, y2, y3, y4, y5, y6, y7⟩, hsz, fy⟩, -⟩ := HS.out.gs
        go_region
        all_goals
          go_wp2_with fail
          refine bodyPost_ret (v := .tuple #[.agg #[.slice ao n cap, .int .i64 p3, .bool true], .agg #[.int .i64 6, .bool false, .int .i64 0, .string ⟨#[]⟩, .string ⟨#[]⟩, .string ⟨#[]⟩, .slice ai i ca, .slice bi ny cb]]) (by simp [results, Try.results29, go_sem, World.cell?_setCell_same', b0, b1, b2, x0, x1, x2, x3, x4, x5, x6, x7]; try rfl) rfl ?_
          refine ⟨.mk { hd0 with k := 6 } (xs.map (·.v)) ys, ai, ca, bi, cb, p3, li, true, ?_, ⟨by rw [HNN.out]; exact HP3.out.1, HP3.out.2⟩, ?_, ?_, FIN.out⟩
          · show _ = Ending.returned (.tuple #[.agg #[.slice ao n cap, .int .i64 p3, .bool true], .agg #[.int .i64 6, .bool false, .int .i64 0, .string ⟨#[]⟩, .string ⟨#[]⟩, .string ⟨#[]⟩, .slice ai (xs.map (·.v)).length ca, .slice bi ys.length cb]])
            rw [List.length_map, HXL.out, ← HNY.out]
          · show Rep _ _ _ (.slice ai (xs.map (·.v)).length ca) (.slice bi ys.length cb)
            rw [List.length_map, HXL.out, ← HNY.out]
            refine Rep.to (fun g hg hlt => ⟨Nat.le_trans (Nat.le_add_right _ _) hg, (show Hib w wr _ from ?_) g hg⟩) _ (HS.out.rep HSP.out.sz)
            repeat (first | with_reducible exact hib_refl _ _ | with_reducible refine hib_drew ?_ | with_reducible refine hib_set2 ?_ | with_reducible refine hib_set1 ?_)
          · repeat (first | with_reducible exact HS.out.gs.low | with_reducible refine low_drew ?_ | with_reducible refine low_set2 ?_ | with_reducible refine low_set1 ?_)
      | false =>
        have HFW := Lib.hid (show (txR li).length ≤ 65536 by have q := HSP.out.few; have q2 := HLEN.out; have q3 := HLL.out; have q4 := (tx_cost li).2; rw [if_neg (by decide)] at q; omega)
        have HYL := Lib.hid (show ys.length ≤ i by have q := HSP.out.yl; split at q <;> omega)
        obtain ⟨⟨⟨a0, a1, a2⟩, -, fa⟩, ⟨⟨b0, b1, b2⟩, -, fb⟩, ⟨⟨x0, x1, x2, x3, x4, x5, x6, x7⟩, -, fx⟩, ⟨⟨y0, y1, y2, y3, y4, y5, y6, y7⟩, hsz, fy⟩, -⟩ := HS.out.gs
        go_wp2_with (first
          | (go_at_call 51; (with_reducible refine (wo E.out _ ?hL p3 false li HP3.out).mono ?_); (case hL => exact HS.out.gs.low); rintro e w4 ⟨p4, t4, s4, l4, rfl, ht4, hl4, hp4, L4⟩; have HS4 := Lib.hid (HS.out.kr ((KeptBut.of_low L4).trans (kept3 w4 w.heap.size (.slice ao n cap) (.int .i64 p4) (.bool s4))) ((HS.out.gs.to L4).putR _ _ _)); have HSA4 := Lib.hid (HS4.out.to (Low.alloc (Low.refl _) (.cells #[.string t4] 9))); have GG := Lib.hid (HS.out.gs.to L4); clear a0 a1 a2 fa b0 b1 b2 fb x0 x1 x2 x3 x4 x5 x6 x7 fx y0 y1 y2 y3 y4 y5 y6 y7 fy hsz; obtain ⟨⟨⟨a0, a1, a2⟩, -, fa⟩, ⟨⟨b0, b1, b2⟩, -, fb⟩, ⟨⟨x0, x1, x2, x3, x4, x5, x6, x7⟩, -, fx⟩, ⟨⟨y0, y1, y2, y3, y4, y5, y6, y7⟩, hsz, fy⟩, -⟩ := GG.out; clear L4)
          | (at_builtin; refine appR rfl _ _ _ rfl Try.underlying22 n_info rfl (by decide) (by decide) encN_len encN_one (w.heap.size + 4) b ys rfl HSA4.out.nms t4 ⟨w4.heap.size, 0, none⟩ 1 rfl (fun j u hj => newcell_at _ _ _ _ _ rfl hj) (by have := HYL.out; have := HIL.out; omega) HSA4.out.size ?_; intro b7 w7 h2 bl k2 n2; have S7 := GLt.putN HSA4.out h2 bl k2 n2; have G7 := Lib.hid (HSA4.out.gs.bel bl); obtain ⟨ao7, cp7, hv7, -, -, -⟩ := OwnR.shape h2; obtain ⟨nn7, hnn7⟩ : ∃ q, q = (ys ++ [t4]).length := ⟨_, rfl⟩; rw [← hnn7] at hv7; clear hnn7; subst hv7; have HS7 := Lib.hid S7; clear h2 bl k2 n2 S7; clear a0 a1 a2 fa b0 b1 b2 fb x0 x1 x2 x3 x4 x5 x6 x7 fx y0 y1 y2 y3 y4 y5 y6 y7 fy hsz; obtain ⟨⟨⟨a0, a1, a2⟩, -, fa⟩, ⟨⟨b0, b1, b2⟩, -, fb⟩, ⟨⟨x0, x1, x2, x3, x4, x5, x6, x7⟩, -, fx⟩, ⟨⟨y0, y1, y2, y3, y4, y5, y6, y7⟩, hsz, fy⟩, -⟩ := G7.out; have hszr : w.heap.size < w7.heap.size := (by omega)))
        obtain ⟨WN, hWN⟩ : ∃ W, W = w7.setCell ⟨w.heap.size + 1 + 1 + 1, 7, none⟩ (.slice ao7 nn7 cp7) := ⟨_, rfl⟩
        rw [← hWN]
        have HSN : Hid (GLt w WN ao n cap p4 s4 6 a (.slice ao7 nn7 cp7) xs (ys ++ [t4])) := Lib.hid (by rw [hWN]; exact HS7.out)
        have hnbx : WN.heap.size = w7.heap.size := by rw [hWN]; simp
        have HNB := Lib.hid hnbx
        clear a0 a1 a2 fa b0 b1 b2 fb x0 x1 x2 x3 x4 x5 x6 x7 fx y0 y1 y2 y3 y4 y5 y6 y7 fy hsz
        clear hWN HS7 hnbx hszr
        have hszn : w.heap.size + 3 < w7.heap.size := by have q1 := HSN.out.size; have q2 := HNB.out; omega
        obtain ⟨⟨⟨a0, a1, a2⟩, -, fa⟩, ⟨⟨b0, b1, b2⟩, -, fb⟩, ⟨⟨x0, x1, x2, x3, x4, x5, x6, x7⟩, -, fx⟩, ⟨⟨y0, y1, y2, y3, y4, y5, y6, y7⟩, hsz, fy⟩, -⟩ := HSN.out.gs
        have HFX := Lib.hid (show l4.length ≤ 65536 by rw [hl4.out.1]; exact HFW.out)
        clear HFW
        have HFW := HFX
        clear HFX
        go_wp2_with (first
          | (go_at_call 29; (with_reducible refine (IH.out _ (E.out.low ((HSN.out.to (Low.alloc (Low.refl WN) (.cells #[.int .i64 0, .bool false, .int .i64 0, .string ⟨#[]⟩, .string ⟨#[]⟩, .string ⟨#[]⟩, .slice none 0 0, .slice none 0 0] 29))).gs.low)) p4 s4 _ hp4.out (by have := HFW.out; omega)).mono ?_); rintro e w5 ⟨x, ai, ci, an, cn, p5, l5, s5, rfl, ⟨gp1, gp2⟩, hr5, L5, q5⟩; obtain ⟨SI, EI⟩ := GLt.item (p' := p5) (s' := s5) HSN.out HNB.out L5 hr5; have HSI := Lib.hid (SI.to (Low.alloc (Low.refl _) (.cells #[.int .i64 x.h.k, .bool x.h.b, .int .i64 x.h.n, .string x.h.s, .string x.h.t, .string x.h.i, .slice ai x.l.length ci, .slice an x.ns.length cn] 29))); have HEI := Lib.hid (elOk_low EI (Low.alloc (Low.refl _) (.cells #[.int .i64 x.h.k, .bool x.h.b, .int .i64 x.h.n, .string x.h.s, .string x.h.t, .string x.h.i, .slice ai x.l.length ci, .slice an x.ns.length cn] 29))); have HQ5 := Lib.hid q5; have HP5 : Hid (p5 ≤ n ∧ l5 = lf bs p5 s5) := Lib.hid ⟨by rw [← HNN.out]; exact gp1, gp2⟩; have GG := Lib.hid (HSN.out.gs.to ((Low.alloc (Low.refl WN) (.cells #[.int .i64 0, .bool false, .int .i64 0, .string ⟨#[]⟩, .string ⟨#[]⟩, .string ⟨#[]⟩, .slice none 0 0, .slice none 0 0] 29)).trans L5)); obtain ⟨⟨z0, z1, z2, z3, z4, z5, z6, z7⟩, hszx, fz⟩ := (b8_new WN _ HNB.out).low L5; obtain ⟨⟨⟨a0, a1, a2⟩, -, fa⟩, ⟨⟨b0, b1, b2⟩, -, fb⟩, ⟨⟨x0, x1, x2, x3, x4, x5, x6, x7⟩, -, fx⟩, ⟨⟨y0, y1, y2, y3, y4, y5, y6, y7⟩, hsz, fy⟩, -⟩ := GG.out; clear SI EI q5 gp1 gp2 hr5 L5)
          | (at_builtin; refine appR rfl _ _ _ rfl Try.underlying27 v_info rfl (by decide) (by decide) encV_len encV_one (w.heap.size + 4) a xs rfl HSI.out.its ⟨x, ai, ci, an, cn⟩ ⟨w5.heap.size, 0, none⟩ 1 rfl (fun j u hj => newcell_at _ _ _ _ _ rfl hj) (by have := HXL.out; have := HIL.out; omega) HSI.out.size ?_; intro a6 w6 h2 bl k2 n2; have h9 : OwnV (w.heap.size + 4) w6 a6 (xs ++ [⟨x, ai, ci, an, cn⟩]) := h2; have S6 := GLt.putI HSI.out h9 bl k2 n2 HEI.out; have G6 := Lib.hid (HSI.out.gs.bel bl); obtain ⟨ao6, cp6, hv6, -, -, -⟩ := OwnR.shape h2; obtain ⟨nn6, hnn6⟩ : ∃ q, q = (xs ++ [(⟨x, ai, ci, an, cn⟩ : El)]).length := ⟨_, rfl⟩; rw [← hnn6] at hv6; clear hnn6; subst hv6; have HS6 := Lib.hid S6; clear h2 h9 bl k2 n2 S6 z0 z1 z2 z3 z4 z5 z6 z7 hszx fz; clear a0 a1 a2 fa b0 b1 b2 fb x0 x1 x2 x3 x4 x5 x6 x7 fx y0 y1 y2 y3 y4 y5 y6 y7 fy hsz; obtain ⟨⟨⟨a0, a1, a2⟩, -, fa⟩, ⟨⟨b0, b1, b2⟩, -, fb⟩, ⟨⟨x0, x1, x2, x3, x4, x5, x6, x7⟩, -, fx⟩, ⟨⟨y0, y1, y2, y3, y4, y5, y6, y7⟩, hsz, fy⟩, -⟩ := G6.out))
        all_goals
          go_roundg (m2.toNat - (i + 1))
          case measure => omega
          case rel => exact ⟨i + 1, xs ++ [⟨x, ai, ci, an, cn⟩], ys ++ [t4], .slice ao6 nn6 cp6, .slice ao7 nn7 cp7, p5, s5, l5, by go_num, by omega, by omega, HS6, HP5, Lib.hid (ISp.stepR HSP.out (by have q2 := HLEN.out; have q3 := HLL.out; omega) ht4.out (by have q := HQ5.out; rw [hl4.out.1, hl4.out.2] at q; exact q))⟩
    · have hie : (i : Int) = m2 := by omega
      have HI := Lib.hid (show i ≤ ofB (tkB 4 l1) by have := hm2.out; omega)
      have HE := Lib.hid (show s3 = false → i = ofB (tkB 4 l1) from fun _ => by have := hm2.out; omega)
      clear hie
      obtain ⟨⟨⟨a0, a1, a2⟩, -, fa⟩, ⟨⟨b0, b1, b2⟩, -, fb⟩, ⟨⟨x0, x1, x2, x3, x4, x5, x6, x7⟩, -, fx⟩, ⟨⟨y0, y1, y2, y3, y4, y5, y6, y7⟩, hsz, fy⟩, -⟩ := HS.out.gs
      go_wp2_with fail
      clear a0 a1 a2 fa b0 b1 b2 fb x0 x1 x2 x3 x4 x5 x6 x7 fx y0 y1 y2 y3 y4 y5 y6 y7 fy hsz
      obtain ⟨ai, ca, ha, -⟩ := OwnR.shape HS.out.its
      obtain ⟨bi, cb, hb, -⟩ := OwnR.shape HS.out.nms
      have FIN := Lib.hid (vq_items (D := Dp deep) (D' := Dp (deep + 1)) (fun c hc h56 x hx => by
        unfold Dp at hc ⊢
        have h1 := dpt_v c
        have h2 : dpt x ≤ dptL c.nest := (dptL_le (n := dptL c.nest)).1 (Nat.le_refl _) x (by unfold V.nest; rw [if_pos h56]; exact hx)
        omega) (.inr rfl) HLEN.out H1K.out (by have q := HSP.out; rw [hl2.out.1, hl2.out.2, hl1.out.1, hl1.out.2] at q; exact q) (by have := HI.out; rw [hl1.out.1] at this; exact this) (by have := HE.out; rw [hl1.out.1] at this; exact this))
      rw [HXL.out] at ha
      subst ha
      obtain ⟨ny, hny⟩ : ∃ q, q = ys.length := ⟨_, rfl⟩
      rw [← hny] at hb
      subst hb
      have HNY := Lib.hid hny
      clear hny
      obtain ⟨⟨⟨a0, a1, a2⟩, -, fa⟩, ⟨⟨b0, b1, b2⟩, -, fb⟩, ⟨⟨x0, x1, x2, x3, x4, x5, x6, x7⟩, -, fx⟩, ⟨⟨y0, y1, y2, y3, y4, y5, y6, y7⟩, hsz, fy⟩, -⟩ := HS.out.gs
      go_region
      all_goals
        go_wp2_with fail
        refine bodyPost_ret (v := .tuple #[.agg #[.slice ao n cap, .int .i64 p3, .bool s3], .agg #[.int .i64 6, .bool false, .int .i64 0, .string ⟨#[]⟩, .string ⟨#[]⟩, .string ⟨#[]⟩, .slice ai i ca, .slice bi ny cb]]) (by simp [results, Try.results29, go_sem, World.cell?_setCell_same', b0, b1, b2, x0, x1, x2, x3, x4, x5, x6, x7]; try rfl) rfl ?_
        refine ⟨.mk { hd0 with k := 6 } (xs.map (·.v)) ys, ai, ca, bi, cb, p3, li, s3, ?_, ⟨by rw [HNN.out]; exact HP3.out.1, HP3.out.2⟩, ?_, ?_, FIN.out⟩
        · show _ = Ending.returned (.tuple #[.agg #[.slice ao n cap, .int .i64 p3, .bool s3], .agg #[.int .i64 6, .bool false, .int .i64 0, .string ⟨#[]⟩, .string ⟨#[]⟩, .string ⟨#[]⟩, .slice ai (xs.map (·.v)).length ca, .slice bi ys.length cb]])
          rw [List.length_map, HXL.out, ← HNY.out]
        · show Rep _ _ _ (.slice ai (xs.map (·.v)).length ca) (.slice bi ys.length cb)
          rw [List.length_map, HXL.out, ← HNY.out]
          refine Rep.to (fun g hg hlt => ⟨Nat.le_trans (Nat.le_add_right _ _) hg, (show Hib w wr _ from ?_) g hg⟩) _ (HS.out.rep HSP.out.sz)
          repeat (first | with_reducible exact hib_refl _ _ | with_reducible refine hib_drew ?_ | with_reducible refine hib_set2 ?_ | with_reducible refine hib_set1 ?_)
        · repeat (first | with_reducible exact HS.out.gs.low | with_reducible refine low_drew ?_ | with_reducible refine low_set2 ?_ | with_reducible refine low_set1 ?_)
set_option maxHeartbeats 4000000 in
set_option maxRecDepth 100000 in
theorem get_5 (bs : List UInt8) (n : Nat) (p : Nat) (sh : Bool) (B : Nat) (w : World) (ao : Option Addr) (cap : Nat) (h : RdC ao n cap bs B w) (l : List UInt8) (hp : p ≤ n ∧ l = lf bs p sh) (hlen : l.length ≤ 65536) (deep : Nat) (hd : deep ≤ 50) (h1 : ofB (tkB 1 l) = 5)
    (ih : ∀ W, RdC ao n cap bs B W → ∀ p s l, (p ≤ n ∧ l = lf bs p s) → l.length ≤ 65536 → Calls Try.prog 29 #[.agg #[.slice ao n cap, .int .i64 p, .bool s], .int .i64 ((deep : Int) + 1)] W (GeP ao n cap bs (deep + 1) l s W)) :
    Calls Try.prog 29 #[.agg #[.slice ao n cap, .int .i64 p, .bool sh], .int .i64 deep] w (GeP ao n cap bs deep l sh w) := by
  have E := Lib.hid h
  have HP := Lib.hid hp
  have HLEN := Lib.hid hlen
  have HN := h.2.2
  have HNN := Lib.hid HN
  have IH := Lib.hid ih
  have zd : ¬ (50 : Int) < (deep : Int) := by omega
  have H1 := Lib.hid h1
  have H1K : Hid (((ofB (tkB 1 l) : Nat) : Int) = 5) := Lib.hid (by rw [h1]; rfl)
  clear h hp hlen HN h1 hd ih
  go_enter Try.func29, Try.ntmps29
  go_wp2_with (first
    | ((fail_if_success (have := G1)); go_at_call 50; (with_reducible refine (nx E.out _ ?hL p sh l HP.out 1 (by decide) 1 rfl).mono ?_); (case hL => exact (gs_start w _ _ _).low); rintro e w1 ⟨p1, m1, s1, l1, rfl, hm1, hl1, hp1, L1⟩; obtain rfl : m1 = 5 := (by rw [hm1.out, H1.out]; rfl); have G1 := Lib.hid ((gs_start w (.slice ao n cap) (.int .i64 p) (.bool sh)).to L1); obtain ⟨⟨⟨a0, a1, a2⟩, -, fa⟩, ⟨⟨b0, b1, b2⟩, -, fb⟩, ⟨⟨x0, x1, x2, x3, x4, x5, x6, x7⟩, -, fx⟩, ⟨⟨y0, y1, y2, y3, y4, y5, y6, y7⟩, hsz, fy⟩, -⟩ := G1.out; clear L1)
    | ((fail_if_success (have := G2)); go_at_call 50; (with_reducible refine (nx E.out _ ?hL p1 s1 l1 hp1.out 4 (by decide) 4 rfl).mono ?_); (case hL => exact ((G1.out.putR _ _ _).putV0 _).low); rintro e w2 ⟨p2, m2, s2, l2, rfl, hm2, hl2, hp2, L2⟩; have G2 := Lib.hid (((G1.out.putR _ _ _).putV0 _).to L2); clear a0 a1 a2 fa b0 b1 b2 fb x0 x1 x2 x3 x4 x5 x6 x7 fx y0 y1 y2 y3 y4 y5 y6 y7 fy hsz; obtain ⟨⟨⟨a0, a1, a2⟩, -, fa⟩, ⟨⟨b0, b1, b2⟩, -, fb⟩, ⟨⟨x0, x1, x2, x3, x4, x5, x6, x7⟩, -, fx⟩, ⟨⟨y0, y1, y2, y3, y4, y5, y6, y7⟩, hsz, fy⟩, -⟩ := G2.out; clear L2))
  obtain ⟨bd2, bd2'⟩ := lt32 l1 hm2.out
  have ST0 : Hid (GLt w (((w2.setCell ⟨w.heap.size, 0, none⟩ (.slice ao n cap)).setCell ⟨w.heap.size, 1, none⟩ (.int .i64 p2)).setCell ⟨w.heap.size, 2, none⟩ (.bool s2)) ao n cap p2 s2 5 (.slice none 0 0) (.slice none 0 0) [] []) := Lib.hid ⟨G2.out.putR _ _ _, OwnR.nil _ _ _ _ _, OwnR.nil _ _ _ _ _, by simp⟩
  clear a0 a1 a2 fa b0 b1 b2 fb x0 x1 x2 x3 x4 x5 x6 x7 fx y0 y1 y2 y3 y4 y5 y6 y7 fy hsz
  go_loopg [11] (m2.toNat) (fun gk vi wr => ∃ (i : Nat) (xs : List El) (ys : List ByteArray) (a b : Value) (p3 : Nat) (s3 : Bool) (li : List UInt8), vi = .int .i64 (i : Int) ∧ (i : Int) ≤ m2 ∧ m2.toNat - i ≤ gk ∧ Hid (GLt w wr ao n cap p3 s3 5 a b xs ys) ∧ Hid (p3 ≤ n ∧ li = lf bs p3 s3) ∧ Hid (ISp (Dp (deep + 1)) ((5 : Int) == 6) l2 s2 i xs ys li s3))
  case atStart => exact ⟨0, [], [], _, _, p2, s2, l2, rfl, bd2, Nat.le_refl _, ST0, hp2, Lib.hid (ISp.start _ _ _ _)⟩
  case round =>
    obtain ⟨i, xs, ys, a, b, p3, s3, li, rfl, hi, hg, HS, HP3, HSP⟩ := hrel
    have HXL := Lib.hid HSP.out.xl
    have hll : l2.length ≤ l1.length ∧ l1.length ≤ l.length := by rw [hl2.out.1, hl1.out.1]; exact ⟨tkR_len _ _, tkR_len _ _⟩
    have HLL := Lib.hid hll
    have HIL := Lib.hid (show i + li.length ≤ 65537 by have q := HSP.out.few; have q2 := HLEN.out; have q3 := HLL.out; split at q <;> omega)
    clear hll
    by_cases hlt : (i : Int) < m2
    · cases s3 with
      | true =>
        have HI := Lib.hid (show i ≤ ofB (tkB 4 l1) by have := hm2.out; omega)
        have HE := Lib.hid (show true = false → i = ofB (tkB 4 l1) from fun e => by simp at e)
        obtain ⟨⟨⟨a0, a1, a2⟩, -, fa⟩, ⟨⟨b0, b1, b2⟩, -, fb⟩, ⟨⟨x0, x1, x2, x3, x4, x5, x6, x7⟩, -, fx⟩, ⟨⟨y0, y1, y2, y3, y4, y5, y6, y7⟩, hsz, fy⟩, -⟩ := HS.out.gs
        go_wp2_with fail
        clear a0 a1 a2 fa b0 b1 b2 fb x0 x1 x2 x3 x4 x5 x6 x7 fx y0 y1 y2 y3 y4 y5 y6 y7 fy hsz
        obtain ⟨ai, ca, ha, -⟩ := OwnR.shape HS.out.its
        obtain ⟨bi, cb, hb, -⟩ := OwnR.shape HS.out.nms
        have FIN := Lib.hid (vq_items (D := Dp deep) (D' := Dp (deep + 1)) (fun c hc h56 x hx => by
          unfold Dp at hc ⊢
          have h1 := dpt_v c
          have h2 : dpt x ≤ dptL c.nest := (dptL_le (n := dptL c.nest)).1 (Nat.le_refl _) x (by unfold V.nest; rw [if_pos h56]; exact hx)
          omega) (.inl rfl) HLEN.out H1K.out (by have q := HSP.out; rw [hl2.out.1, hl2.out.2, hl1.out.1, hl1.out.2] at q; exact q) (by have := HI.out; rw [hl1.out.1] at this; exact this) (by have := HE.out; rw [hl1.out.1] at this; exact this))
        rw [HXL.out] at ha
        subst ha
        obtain ⟨ny, hny⟩ : ∃ q, q = ys.length := ⟨_, rfl⟩
        rw [← hny] at hb
        subst hb
        have HNY := Lib.hid hny
        clear hny
        obtain ⟨⟨⟨a0, a1, a2⟩, -, fa⟩, ⟨⟨b0, b1, b2⟩, -, fb⟩, ⟨⟨x0, x1, x2, x3, x4, x5, x6, x7⟩, -, fx⟩, ⟨⟨y0, y1, y2, y3, y4, y5, y6, y7⟩, hsz, fy⟩, -⟩ := HS.out.gs
        go_region
        all_goals
          go_wp2_with fail
          refine bodyPost_ret (v := .tuple #[.agg #[.slice ao n cap, .int .i64 p3, .bool true], .agg #[.int .i64 5, .bool false, .int .i64 0, .string ⟨#[]⟩, .string ⟨#[]⟩, .string ⟨#[]⟩, .slice ai i ca, .slice bi ny cb]]) (by simp [results, Try.results29, go_sem, World.cell?_setCell_same', b0, b1, b2, x0, x1, x2, x3, x4, x5, x6, x7]; try rfl) rfl ?_
          refine ⟨.mk { hd0 with k := 5 } (xs.map (·.v)) ys, ai, ca, bi, cb, p3, li, true, ?_, ⟨by rw [HNN.out]; exact HP3.out.1, HP3.out.2⟩, ?_, ?_, FIN.out⟩
          · show _ = Ending.returned (.tuple #[.agg #[.slice ao n cap, .int .i64 p3, .bool true], .agg #[.int .i64 5, .bool false, .int .i64 0, .string ⟨#[]⟩, .string ⟨#[]⟩, .string ⟨#[]⟩, .slice ai (xs.map (·.v)).length ca, .slice bi ys.length cb]])
            rw [List.length_map, HXL.out, ← HNY.out]
          · show Rep _ _ _ (.slice ai (xs.map (·.v)).length ca) (.slice bi ys.length cb)
            rw [List.length_map, HXL.out, ← HNY.out]
            refine Rep.to (fun g hg hlt => ⟨Nat.le_trans (Nat.le_add_right _ _) hg, (show Hib w wr _ from ?_) g hg⟩) _ (HS.out.rep HSP.out.sz)
            repeat (first | with_reducible exact hib_refl _ _ | with_reducible refine hib_drew ?_ | with_reducible refine hib_set2 ?_ | with_reducible refine hib_set1 ?_)
          · repeat (first | with_reducible exact HS.out.gs.low | with_reducible refine low_drew ?_ | with_reducible refine low_set2 ?_ | with_reducible refine low_set1 ?_)
      | false =>
        have HFW := Lib.hid (show li.length ≤ 65536 by have q := HSP.out.few; have q2 := HLEN.out; have q3 := HLL.out; rw [if_neg (by decide)] at q; omega)
        have YS : ys = [] := List.eq_nil_of_length_eq_zero (by have := HSP.out.yl; simpa using this)
        have HYS := Lib.hid YS
        clear YS
        obtain ⟨⟨⟨a0, a1, a2⟩, -, fa⟩, ⟨⟨b0, b1, b2⟩, -, fb⟩, ⟨⟨x0, x1, x2, x3, x4, x5, x6, x7⟩, -, fx⟩, ⟨⟨y0, y1, y2, y3, y4, y5, y6, y7⟩, hsz, fy⟩, -⟩ := HS.out.gs
        have qb := (HS.out.to (Low.alloc (Low.refl wr) (.cells #[.int .i64 0, .bool false, .int .i64 0, .string ⟨#[]⟩, .string ⟨#[]⟩, .string ⟨#[]⟩, .slice none 0 0, .slice none 0 0] 29))).gs
        obtain ⟨⟨⟨c0, c1, c2⟩, -, -⟩, -, -, ⟨⟨e0, -, -, -, -, -, e6, e7⟩, -, -⟩, -⟩ := qb
        go_wp2_with (first
          | (go_at_call 29; (with_reducible refine (IH.out _ (E.out.low ((HS.out.to (Low.alloc (Low.refl wr) (.cells #[.int .i64 0, .bool false, .int .i64 0, .string ⟨#[]⟩, .string ⟨#[]⟩, .string ⟨#[]⟩, .slice none 0 0, .slice none 0 0] 29))).gs.low)) p3 false _ HP3.out (by have := HFW.out; omega)).mono ?_); rintro e w5 ⟨x, ai, ci, an, cn, p5, l5, s5, rfl, ⟨gp1, gp2⟩, hr5, L5, q5⟩; obtain ⟨SI, EI⟩ := GLt.item (p' := p5) (s' := s5) HS.out rfl L5 hr5; have HSI := Lib.hid (SI.to (Low.alloc (Low.refl _) (.cells #[.int .i64 x.h.k, .bool x.h.b, .int .i64 x.h.n, .string x.h.s, .string x.h.t, .string x.h.i, .slice ai x.l.length ci, .slice an x.ns.length cn] 29))); have HEI := Lib.hid (elOk_low EI (Low.alloc (Low.refl _) (.cells #[.int .i64 x.h.k, .bool x.h.b, .int .i64 x.h.n, .string x.h.s, .string x.h.t, .string x.h.i, .slice ai x.l.length ci, .slice an x.ns.length cn] 29))); have HQ5 := Lib.hid q5; have HP5 : Hid (p5 ≤ n ∧ l5 = lf bs p5 s5) := Lib.hid ⟨by rw [← HNN.out]; exact gp1, gp2⟩; have GG := Lib.hid (HS.out.gs.to ((Low.alloc (Low.refl wr) (.cells #[.int .i64 0, .bool false, .int .i64 0, .string ⟨#[]⟩, .string ⟨#[]⟩, .string ⟨#[]⟩, .slice none 0 0, .slice none 0 0] 29)).trans L5)); obtain ⟨⟨z0, z1, z2, z3, z4, z5, z6, z7⟩, hszx, fz⟩ := (b8_new wr _ rfl).low L5; obtain ⟨⟨⟨a0, a1, a2⟩, -, fa⟩, ⟨⟨b0, b1, b2⟩, -, fb⟩, ⟨⟨x0, x1, x2, x3, x4, x5, x6, x7⟩, -, fx⟩, ⟨⟨y0, y1, y2, y3, y4, y5, y6, y7⟩, hsz, fy⟩, -⟩ := GG.out; clear SI EI q5 gp1 gp2 hr5 L5)
          | (at_builtin; refine appR rfl _ _ _ rfl Try.underlying27 v_info rfl (by decide) (by decide) encV_len encV_one (w.heap.size + 4) a xs rfl HSI.out.its ⟨x, ai, ci, an, cn⟩ ⟨w5.heap.size, 0, none⟩ 1 rfl (fun j u hj => newcell_at _ _ _ _ _ rfl hj) (by have := HXL.out; have := HIL.out; omega) HSI.out.size ?_; intro a6 w6 h2 bl k2 n2; have h9 : OwnV (w.heap.size + 4) w6 a6 (xs ++ [⟨x, ai, ci, an, cn⟩]) := h2; have S6 := GLt.putI HSI.out h9 bl k2 n2 HEI.out; have G6 := Lib.hid (HSI.out.gs.bel bl); obtain ⟨ao6, cp6, hv6, -, -, -⟩ := OwnR.shape h2; obtain ⟨nn6, hnn6⟩ : ∃ q, q = (xs ++ [(⟨x, ai, ci, an, cn⟩ : El)]).length := ⟨_, rfl⟩; rw [← hnn6] at hv6; clear hnn6; subst hv6; have HS6 := Lib.hid S6; clear h2 h9 bl k2 n2 S6 z0 z1 z2 z3 z4 z5 z6 z7 hszx fz; clear a0 a1 a2 fa b0 b1 b2 fb x0 x1 x2 x3 x4 x5 x6 x7 fx y0 y1 y2 y3 y4 y5 y6 y7 fy hsz; obtain ⟨⟨⟨a0, a1, a2⟩, -, fa⟩, ⟨⟨b0, b1, b2⟩, -, fb⟩, ⟨⟨x0, x1, x2, x3, x4, x5, x6, x7⟩, -, fx⟩, ⟨⟨y0, y1, y2, y3, y4, y5, y6, y7⟩, hsz, fy⟩, -⟩ := G6.out))
        all_goals
          go_roundg (m2.toNat - (i + 1))
          case measure => omega
          case rel => exact ⟨i + 1, xs ++ [⟨x, ai, ci, an, cn⟩], ys, .slice ao6 nn6 cp6, b, p5, s5, l5, by go_num, by omega, by omega, HS6, HP5, Lib.hid (by have S5 := HSP.out; rw [HYS.out] at S5 ⊢; exact ISp.stepS S5 HQ5.out)⟩
    · have hie : (i : Int) = m2 := by omega
      have HI := Lib.hid (show i ≤ ofB (tkB 4 l1) by have := hm2.out; omega)
      have HE := Lib.hid (show s3 = false → i = ofB (tkB 4 l1) from fun _ => by have := hm2.out; omega)
      clear hie
      obtain ⟨⟨⟨a0, a1, a2⟩, -, fa⟩, ⟨⟨b0, b1, b2⟩, -, fb⟩, ⟨⟨x0, x1, x2, x3, x4, x5, x6, x7⟩, -, fx⟩, ⟨⟨y0, y1, y2, y3, y4, y5, y6, y7⟩, hsz, fy⟩, -⟩ := HS.out.gs
      go_wp2_with fail
      clear a0 a1 a2 fa b0 b1 b2 fb x0 x1 x2 x3 x4 x5 x6 x7 fx y0 y1 y2 y3 y4 y5 y6 y7 fy hsz
      obtain ⟨ai, ca, ha, -⟩ := OwnR.shape HS.out.its
      obtain ⟨bi, cb, hb, -⟩ := OwnR.shape HS.out.nms
      have FIN := Lib.hid (vq_items (D := Dp deep) (D' := Dp (deep + 1)) (fun c hc h56 x hx => by
        unfold Dp at hc ⊢
        have h1 := dpt_v c
        have h2 : dpt x ≤ dptL c.nest := (dptL_le (n := dptL c.nest)).1 (Nat.le_refl _) x (by unfold V.nest; rw [if_pos h56]; exact hx)
        omega) (.inl rfl) HLEN.out H1K.out (by have q := HSP.out; rw [hl2.out.1, hl2.out.2, hl1.out.1, hl1.out.2] at q; exact q) (by have := HI.out; rw [hl1.out.1] at this; exact this) (by have := HE.out; rw [hl1.out.1] at this; exact this))
      rw [HXL.out] at ha
      subst ha
      obtain ⟨ny, hny⟩ : ∃ q, q = ys.length := ⟨_, rfl⟩
      rw [← hny] at hb
      subst hb
      have HNY := Lib.hid hny
      clear hny
      obtain ⟨⟨⟨a0, a1, a2⟩, -, fa⟩, ⟨⟨b0, b1, b2⟩, -, fb⟩, ⟨⟨x0, x1, x2, x3, x4, x5, x6, x7⟩, -, fx⟩, ⟨⟨y0, y1, y2, y3, y4, y5, y6, y7⟩, hsz, fy⟩, -⟩ := HS.out.gs
      go_region
      all_goals
        go_wp2_with fail
        refine bodyPost_ret (v := .tuple #[.agg #[.slice ao n cap, .int .i64 p3, .bool s3], .agg #[.int .i64 5, .bool false, .int .i64 0, .string ⟨#[]⟩, .string ⟨#[]⟩, .string ⟨#[]⟩, .slice ai i ca, .slice bi ny cb]]) (by simp [results, Try.results29, go_sem, World.cell?_setCell_same', b0, b1, b2, x0, x1, x2, x3, x4, x5, x6, x7]; try rfl) rfl ?_
        refine ⟨.mk { hd0 with k := 5 } (xs.map (·.v)) ys, ai, ca, bi, cb, p3, li, s3, ?_, ⟨by rw [HNN.out]; exact HP3.out.1, HP3.out.2⟩, ?_, ?_, FIN.out⟩
        · show _ = Ending.returned (.tuple #[.agg #[.slice ao n cap, .int .i64 p3, .bool s3], .agg #[.int .i64 5, .bool false, .int .i64 0, .string ⟨#[]⟩, .string ⟨#[]⟩, .string ⟨#[]⟩, .slice ai (xs.map (·.v)).length ca, .slice bi ys.length cb]])
          rw [List.length_map, HXL.out, ← HNY.out]
        · show Rep _ _ _ (.slice ai (xs.map (·.v)).length ca) (.slice bi ys.length cb)
          rw [List.length_map, HXL.out, ← HNY.out]
          refine Rep.to (fun g hg hlt => ⟨Nat.le_trans (Nat.le_add_right _ _) hg, (show Hib w wr _ from ?_) g hg⟩) _ (HS.out.rep HSP.out.sz)
          repeat (first | with_reducible exact hib_refl _ _ | with_reducible refine hib_drew ?_ | with_reducible refine hib_set2 ?_ | with_reducible refine hib_set1 ?_)
        · repeat (first | with_reducible exact HS.out.gs.low | with_reducible refine low_drew ?_ | with_reducible refine low_set2 ?_ | with_reducible refine low_set1 ?_)
end Go.Proofs.Ytbhlgajdoegboaa
