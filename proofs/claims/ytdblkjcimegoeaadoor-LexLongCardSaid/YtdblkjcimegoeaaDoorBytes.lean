/- Rows of bytes that a call makes itself: made, gone on with, told as a text. No condition. -/
import Derived.Test.YtdblkjcimegoeaaDoorLow
import Derived.Deep.RegionLaw
namespace Go.Proofs.YtdblkjcimegoeaaDoor
open Go.RowKit
def byV (c : UInt8) : Value := .int .u8 (c.toNat : Int)
/-- The slice holds just these bytes, in a block of the call's own. -/
def Own (B : Nat) (w : World) (v : Value) (l : List UInt8) : Prop := w.ownsRow B 5 1 v l.length (l.map byV)
theorem u8_info : (Tryd.prog.info? 5).map (fun i => (i.zero, i.size, i.bytes)) = some (some (.int .u8 0), 1, 1) := by kernel_rfl
theorem Own.alloc {B : Nat} {w : World} {v : Value} {l : List UInt8} (h : Own B w v l) (o : Obj) : Own B (w.alloc o) v l := World.ownsRow.alloc h o
theorem Own.nil (B : Nat) (w : World) : Own B w (.slice none 0 0) [] := World.ownsRow_nil _ _ _ _
theorem Own.drewN {B : Nat} {w : World} {v : Value} {l : List UInt8} (h : Own B w v l) (n : Nat) : Own B (w.drewN n) v l := h
theorem Own.drew {B : Nat} {w : World} {v : Value} {l : List UInt8} (h : Own B w v l) : Own B w.drew v l := h
theorem own_make {ops : Array Oper} {rest : List Oper} {o : Oper} {a : Act} {w : World} {Q : Exit → Act → World → Prop} (hgd : o.guard = none) (s x : Operand) (hop : o.op = Op.makeSlice 32 s x)
    (B n : Nat) (C : Int) (hs : a.eval s = .int .i64 0) (hx : a.eval x = .int .i64 C) (hC : C = (n : Int)) (hn : n ≤ 140737488355328) (hb : B ≤ w.heap.size)
    (h : ∀ v' w', Own B w' v' [] → Below B w w' → wpList Tryd.prog ops Q rest (a.put o.dst v') w') : wpList Tryd.prog ops Q (o :: rest) a w := by
  obtain ⟨i0, hi, hz0, hz1, hz2⟩ := info_parts u8_info
  exact wpList_make_own w hgd s x 32 hop B 5 i0 (.int .u8 0) 1 Tryd.underlying32 hi hz0 hz1 .i64 .i64 C n hs hx hC (by rw [hz2]; omega) (by unfold maxLen; omega) hb
    fun w' h1 h2 => h _ w' h1 ((Below.refl _ _).grown h2 hb (by simp))
theorem own_app {ops : Array Oper} {rest : List Oper} {o : Oper} {a : Act} {w : World} {Q : Exit → Act → World → Prop} (hgd : o.guard = none) (s x : Operand) (t : TypeId)
    (ho : o.op = .call { callee := .builtin .append, args := #[s, x], argTypes := #[t, t] }) (ht : Tryd.prog.underlying t = some (.slice 5))
    (B : Nat) (v : Value) (l news : List UInt8) (hs : a.eval s = v) (hown : Own B w v l) (ad : Addr) (m c : Nat) (hm : news.length = m) (hx : a.eval x = .slice (some ad) m c)
    (hnews : ∀ j (hj : j < news.length), w.cell? (ad.add j) = some (byV news[j])) (hlen : l.length + m ≤ 140737488355328) (hb : B ≤ w.heap.size)
    (h : ∀ v' w', Own B w' v' (l ++ news) → Below B w w' → wpList Tryd.prog ops Q rest (a.put o.dst v') w') : wpList Tryd.prog ops Q (o :: rest) a w := by
  subst hm
  obtain ⟨i0, hi, hz0, hz1, hz2⟩ := info_parts u8_info
  refine wpList_append_own w hgd s x t ho B 5 i0 (.int .u8 0) 1 1 ht hi hz0 hz1 hz2 rfl (by decide) v l.length (l.map byV) hs hown ad news.length c (news.map byV) hx (by simp) (fun j u hj => ?_) (fun u hu => ?_)
    (by unfold maxLen; omega) (by omega) hb fun v' w' h1 h2 _ => h v' w' ?_ ((Below.refl _ _).grown h2 hb fun k hk => (World.ownsRow.lt hown k hk).1)
  · rw [List.getElem?_map] at hj
    rcases Nat.lt_or_ge j news.length with hlt | hge
    · rw [List.getElem?_eq_getElem hlt] at hj
      rw [hnews j hlt]; exact hj
    · rw [List.getElem?_eq_none hge] at hj; simp at hj
  · simp at hu; obtain ⟨c, _, rfl⟩ := hu; rfl
  · unfold Own; rw [List.map_append, List.length_append]; exact h1
theorem own_step {ops : Array Oper} {o : Oper} {a : Act} {w : World} {K : Act → World → Prop} {Q : Exit → Act → World → Prop} {E : Prop} (hgd : o.guard = none) (s x : Operand) (t : TypeId)
    (ho : o.op = .call { callee := .builtin .append, args := #[s, x], argTypes := #[t, t] }) (ht : Tryd.prog.underlying t = some (.slice 5))
    (B : Nat) (v : Value) (l news : List UInt8) (hs : a.eval s = v) (hown : Own B w v l) (ad : Addr) (m c : Nat) (hm : news.length = m) (hx : a.eval x = .slice (some ad) m c)
    (hnews : ∀ j (hj : j < news.length), w.cell? (ad.add j) = some (byV news[j])) (hlen : l.length + m ≤ 140737488355328) (hb : B ≤ w.heap.size)
    (h : ∀ v' w', Own B w' v' (l ++ news) → Below B w w' → K (a.put o.dst v') w') : if Region.wanted o (yielded ops a.tmps) = true then Oper.wp Tryd.prog o a w K Q else E := by
  have hw : Region.wanted o (yielded ops a.tmps) = true := by simp [Region.wanted, hgd]
  rw [if_pos hw]
  subst hm
  obtain ⟨i0, hi, hz0, hz1, hz2⟩ := info_parts u8_info
  refine wp_append_own w s x t ho B 5 i0 (.int .u8 0) 1 1 ht hi hz0 hz1 hz2 rfl (by decide) v l.length (l.map byV) hs hown ad news.length c (news.map byV) hx (by simp) (fun j u hj => ?_) (fun u hu => ?_)
    (by unfold maxLen; omega) (by omega) hb fun v' w' h1 h2 _ => h v' w' ?_ ((Below.refl _ _).grown h2 hb fun k hk => (World.ownsRow.lt hown k hk).1)
  · rw [List.getElem?_map] at hj
    rcases Nat.lt_or_ge j news.length with hlt | hge
    · rw [List.getElem?_eq_getElem hlt] at hj
      rw [hnews j hlt]; exact hj
    · rw [List.getElem?_eq_none hge] at hj; simp at hj
  · simp at hu; obtain ⟨c, _, rfl⟩ := hu; rfl
  · unfold Own; rw [List.map_append, List.length_append]; exact h1
theorem own_conv {B : Nat} {w : World} {v : Value} {l : List UInt8} (h : Own B w v l) : (convert 32 9 v).run Tryd.prog w = .ok (.string ⟨l.toArray⟩) w := by
  have hc := fun g hg => World.ownsRow.cells h (g := g) hg
  rcases h.2 with ⟨rfl, hn⟩ | ⟨g, cap, cur, rfl, _⟩
  · have : l = [] := List.eq_nil_of_length_eq_zero hn
    subst this
    exact run_convert_bytes_nil (P := Tryd.prog) w 32 5 Tryd.underlying32 Tryd.underlying5 0 0 9 Tryd.underlying9
  · refine run_convert_bytes_back w _ _ 5 _ cap l Tryd.underlying32 Tryd.underlying5 Tryd.underlying9 fun j hj => ?_
    exact hc g rfl j _ (by rw [List.getElem?_map, List.getElem?_eq_getElem hj]; rfl)
theorem cell_one (w : World) (u : Value) (t : TypeId) : (w.alloc (.cells #[u] t)).cell? ⟨w.heap.size, 0, none⟩ = some u := by
  rw [World.cell?_alloc_mark]; rfl
theorem cells_new (w : World) (l : List UInt8) (C : Array Value) (t : TypeId) (hC : C = (l.map byV).toArray) :
    ∀ j (hj : j < l.length), (w.alloc (.cells C t)).cell? ((⟨w.heap.size, 0, none⟩ : Addr).add j) = some (byV l[j]) := by
  intro j hj
  have e : (⟨w.heap.size, 0, none⟩ : Addr).add j = ⟨w.heap.size, j, none⟩ := by simp [Addr.add]; omega
  rw [e, World.cell?_alloc_mark, hC]
  simp [hj]
end Go.Proofs.YtdblkjcimegoeaaDoor
