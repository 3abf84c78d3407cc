/- codec.reader's items, from what its value answers. Condition: no more than 65536 bytes. -/
import Derived.Test.YtbhlgajdoegboaaItPs
namespace Go.Proofs.Ytbhlgajdoegboaa
open Go.RowKit Go.Sort
theorem ISm.fresh' {rb xb : Nat} {k : Int} {W0 W w1 : World} {a b : Value} {xs : List El} {ys : List ByteArray} (_ : ISm rb xb k W0 w1 a b xs ys) {x : V} {ai an : Option Addr} {ci cn : Nat} (hp : Rep (fun g => W.heap.size ≤ g) w1 x (.slice ai x.l.length ci) (.slice an x.ns.length cn)) (h : ISm rb xb k W0 W a b xs ys) : ElOk (fun g => W0.heap.size ≤ g ∧ some g ≠ a.ownBlock ∧ some g ≠ b.ownBlock) w1 ⟨x, ai, ci, an, cn⟩ := h.fresh (p := ⟨x, ai, ci, an, cn⟩) hp
theorem bx_lt {k : Int} {w : World} {r : Nat} {a b : Value} (h : BxAt k w r a b) : r < w.heap.size := h.1.1
theorem own_put8 {B g cap n : Nat} {w : World} {xs : List El} {p0 p : El} (hn : n = xs.length) (h : OwnV B w (.slice (some ⟨g, 0, none⟩) (n + 1) cap) (xs ++ [p0])) :
    OwnV B ((((((((w.setCell ⟨g, n * 8, none⟩ (.int .i64 p.v.h.k)).setCell ⟨g, n * 8 + 1, none⟩ (.bool p.v.h.b)).setCell ⟨g, n * 8 + 2, none⟩ (.int .i64 p.v.h.n)).setCell ⟨g, n * 8 + 3, none⟩ (.string p.v.h.s)).setCell ⟨g, n * 8 + 4, none⟩ (.string p.v.h.t)).setCell ⟨g, n * 8 + 5, none⟩ (.string p.v.h.i)).setCell ⟨g, n * 8 + 6, none⟩ p.it).setCell ⟨g, n * 8 + 7, none⟩ p.nm) (.slice (some ⟨g, 0, none⟩) (n + 1) cap) (xs ++ [p]) := by
  subst hn
  have hl : (xs ++ [p0]).length = xs.length + 1 := by simp
  have hl2 : (xs ++ [p]).length = xs.length + 1 := by simp
  unfold OwnV OwnR at h ⊢
  rw [hl] at h
  rw [hl2]
  have h8 := (((((((h.stored (xs.length * 8) (.int .i64 p.v.h.k)).1.stored (xs.length * 8 + 1) (.bool p.v.h.b)).1.stored (xs.length * 8 + 2) (.int .i64 p.v.h.n)).1.stored (xs.length * 8 + 3) (.string p.v.h.s)).1.stored (xs.length * 8 + 4) (.string p.v.h.t)).1.stored (xs.length * 8 + 5) (.string p.v.h.i)).1.stored (xs.length * 8 + 6) p.it).1.stored (xs.length * 8 + 7) p.nm |>.1
  have hx : (xs.flatMap encV).length = xs.length * 8 := flat_len encV_len xs
  have e : ∀ q : El, (xs ++ [q]).flatMap encV = xs.flatMap encV ++ encV q := fun q => by simp
  rw [e, List.set_append_right _ _ (by omega), List.set_append_right _ _ (by omega), List.set_append_right _ _ (by omega), List.set_append_right _ _ (by omega), List.set_append_right _ _ (by omega), List.set_append_right _ _ (by omega), List.set_append_right _ _ (by omega), List.set_append_right _ _ (by omega), hx, show xs.length * 8 - xs.length * 8 = 0 by omega,
    show xs.length * 8 + 1 - xs.length * 8 = 1 by omega, show xs.length * 8 + 2 - xs.length * 8 = 2 by omega, show xs.length * 8 + 3 - xs.length * 8 = 3 by omega, show xs.length * 8 + 4 - xs.length * 8 = 4 by omega, show xs.length * 8 + 5 - xs.length * 8 = 5 by omega, show xs.length * 8 + 6 - xs.length * 8 = 6 by omega, show xs.length * 8 + 7 - xs.length * 8 = 7 by omega] at h8
  rw [e]
  exact h8
theorem kept_put8 (w : World) (g n : Nat) (c0 c1 c2 c3 c4 c5 c6 c7 : Value) : KeptBut w ((((((((w.setCell ⟨g, n, none⟩ c0).setCell ⟨g, n + 1, none⟩ c1).setCell ⟨g, n + 2, none⟩ c2).setCell ⟨g, n + 3, none⟩ c3).setCell ⟨g, n + 4, none⟩ c4).setCell ⟨g, n + 5, none⟩ c5).setCell ⟨g, n + 6, none⟩ c6).setCell ⟨g, n + 7, none⟩ c7) (some g) :=
  (((((((kept_setCell w g n c0).trans (kept_setCell _ g (n + 1) c1)).trans (kept_setCell _ g (n + 2) c2)).trans (kept_setCell _ g (n + 3) c3)).trans (kept_setCell _ g (n + 4) c4)).trans (kept_setCell _ g (n + 5) c5)).trans (kept_setCell _ g (n + 6) c6)).trans (kept_setCell _ g (n + 7) c7)

def elZero : El := ⟨.mk hd0 [] [], none, 0, none, 0⟩
theorem enc_zero : encV elZero = [.int .i64 0, .bool false, .int .i64 0, .string ⟨#[]⟩, .string ⟨#[]⟩, .string ⟨#[]⟩, .slice none 0 0, .slice none 0 0] := rfl
theorem own_last {B n : Nat} {w : World} {v : Value} {xs : List El} (hn : xs.length = n) (h : OwnV B w v (xs ++ [elZero])) : ∃ g cap, v = .slice (some ⟨g, 0, none⟩) (n + 1) cap ∧ (B ≤ g ∧ g < w.heap.size) ∧
    (w.cell? ⟨g, n * 8, none⟩ = some (.int .i64 0) ∧ w.cell? ⟨g, n * 8 + 1, none⟩ = some (.bool false) ∧ w.cell? ⟨g, n * 8 + 2, none⟩ = some (.int .i64 0) ∧ w.cell? ⟨g, n * 8 + 3, none⟩ = some (.string ⟨#[]⟩) ∧ w.cell? ⟨g, n * 8 + 4, none⟩ = some (.string ⟨#[]⟩) ∧ w.cell? ⟨g, n * 8 + 5, none⟩ = some (.string ⟨#[]⟩) ∧ w.cell? ⟨g, n * 8 + 6, none⟩ = some (.slice none 0 0) ∧ w.cell? ⟨g, n * 8 + 7, none⟩ = some (.slice none 0 0)) ∧ ∀ o, w.frozen? ⟨g, o, none⟩ = false := by
  subst hn
  have hl : (xs ++ [elZero]).length = xs.length + 1 := by simp
  obtain ⟨ao, cap, rfl, -, -, h0⟩ := OwnR.shape h
  rw [hl] at h ⊢
  rcases h0 with h0 | ⟨g, rfl, h1, h2⟩
  · simp at h0
  have hc : ∀ c (hc : c < 8), w.cell? ⟨g, xs.length * 8 + c, none⟩ = some ((encV elZero)[c]'hc) := fun c hc => by
    have := OwnR.cell encV_len h xs.length c (by simp) hc
    rw [this]
    simp only [List.getElem_append_right (Nat.le_refl _), Nat.sub_self, List.getElem_cons_zero]
    exact List.getElem?_eq_getElem hc
  exact ⟨g, cap, rfl, ⟨h1, h2⟩, ⟨hc 0 (by decide), hc 1 (by decide), hc 2 (by decide), hc 3 (by decide), hc 4 (by decide), hc 5 (by decide), hc 6 (by decide), hc 7 (by decide)⟩, fun o => OwnR.frozen h o⟩
theorem below_put8 (B : Nat) (w : World) (g n : Nat) (hg : B ≤ g) (c0 c1 c2 c3 c4 c5 c6 c7 : Value) : RowKit.Below B w ((((((((w.setCell ⟨g, n, none⟩ c0).setCell ⟨g, n + 1, none⟩ c1).setCell ⟨g, n + 2, none⟩ c2).setCell ⟨g, n + 3, none⟩ c3).setCell ⟨g, n + 4, none⟩ c4).setCell ⟨g, n + 5, none⟩ c5).setCell ⟨g, n + 6, none⟩ c6).setCell ⟨g, n + 7, none⟩ c7) :=
  ((((((((RowKit.Below.refl B w).setCell (p := ⟨g, n, none⟩) hg c0).setCell (p := ⟨g, n + 1, none⟩) hg c1).setCell (p := ⟨g, n + 2, none⟩) hg c2).setCell (p := ⟨g, n + 3, none⟩) hg c3).setCell (p := ⟨g, n + 4, none⟩) hg c4).setCell (p := ⟨g, n + 5, none⟩) hg c5).setCell (p := ⟨g, n + 6, none⟩) hg c6).setCell (p := ⟨g, n + 7, none⟩) hg c7
theorem rep_zero (A : Nat → Prop) (w : World) : ElOk A w elZero := rep_flat A w hd0 ⟨Nat.zero_le _, Nat.zero_le _, Nat.zero_le _⟩
theorem ISt.putI8 {B rb xb n g cap : Nat} {k : Int} {W0 W w2 : World} {a b : Value} {xs : List El} {p : El} {ys : List ByteArray} {li : List UInt8} {shi : Bool} (h : ISt B rb xb k W0 W a b xs ys li shi) (h2 : OwnV W0.heap.size w2 (.slice (some ⟨g, 0, none⟩) (n + 1) cap) (xs ++ [elZero])) (bl : RowKit.Below W0.heap.size W w2)
    (k2 : ∀ x, x < W.heap.size → some x ≠ a.ownBlock → w2.heap[x]? = W.heap[x]?) (n2 : (Value.slice (some ⟨g, 0, none⟩) (n + 1) cap).ownBlock = a.ownBlock ∨ ∀ y, (Value.slice (some ⟨g, 0, none⟩) (n + 1) cap).ownBlock = some y → W.heap.size ≤ y)
    (hp : ElOk (fun g => W0.heap.size ≤ g ∧ some g ≠ a.ownBlock ∧ some g ≠ b.ownBlock) W p) (hn : n = xs.length) :
    ISt B rb xb k W0 (((((((((w2.setCell ⟨g, n * 8, none⟩ (.int .i64 p.v.h.k)).setCell ⟨g, n * 8 + 1, none⟩ (.bool p.v.h.b)).setCell ⟨g, n * 8 + 2, none⟩ (.int .i64 p.v.h.n)).setCell ⟨g, n * 8 + 3, none⟩ (.string p.v.h.s)).setCell ⟨g, n * 8 + 4, none⟩ (.string p.v.h.t)).setCell ⟨g, n * 8 + 5, none⟩ (.string p.v.h.i)).setCell ⟨g, n * 8 + 6, none⟩ (.slice p.ai p.v.l.length p.ci)).setCell ⟨g, n * 8 + 7, none⟩ (.slice p.an p.v.ns.length p.cn)).setCell ⟨xb, 6, none⟩ (.slice (some ⟨g, 0, none⟩) (n + 1) cap)) (.slice (some ⟨g, 0, none⟩) (n + 1) cap) b (xs ++ [p]) ys li shi := by
  have hg : W0.heap.size ≤ g := (World.ownsRow.lt h2 g rfl).1
  have h3 := own_put8 (p := p) hn h2
  refine (h.putI h3 (bl.trans (below_put8 _ _ _ _ hg _ _ _ _ _ _ _ _)) (fun x hx hxa => ?_) n2 hp).2
  refine ((kept_put8 w2 g (n * 8) _ _ _ _ _ _ _ _).2.2.2 x (Nat.lt_of_lt_of_le hx bl.size) ?_).trans (k2 x hx hxa)
  intro e
  simp only [Option.some.injEq] at e
  subst e
  rcases n2 with n2 | n2
  · exact hxa n2
  · exact absurd (n2 x rfl) (by omega)
theorem setCell_comm (w : World) (a b o o' : Nat) (u v : Value) (h : a ≠ b) : (w.setCell ⟨a, o, none⟩ u).setCell ⟨b, o', none⟩ v = (w.setCell ⟨b, o', none⟩ v).setCell ⟨a, o, none⟩ u := by
  simp only [World.setCell]
  congr 1
  apply Array.ext_getElem?
  intro i
  simp only [Array.getElem?_modify]
  by_cases h1 : a = i
  · have h2 : ¬ b = i := fun e => h (h1.trans e.symm)
    simp [h1, h2]
  · simp [h1]
theorem ISt.putI8b {B rb xb n g cap : Nat} {k : Int} {W0 W w2 : World} {a b : Value} {xs : List El} {p : El} {ys : List ByteArray} {li : List UInt8} {shi : Bool} (h : ISt B rb xb k W0 W a b xs ys li shi) (h2 : OwnV W0.heap.size w2 (.slice (some ⟨g, 0, none⟩) (n + 1) cap) (xs ++ [elZero])) (bl : RowKit.Below W0.heap.size W w2)
    (k2 : ∀ x, x < W.heap.size → some x ≠ a.ownBlock → w2.heap[x]? = W.heap[x]?) (n2 : (Value.slice (some ⟨g, 0, none⟩) (n + 1) cap).ownBlock = a.ownBlock ∨ ∀ y, (Value.slice (some ⟨g, 0, none⟩) (n + 1) cap).ownBlock = some y → W.heap.size ≤ y)
    (hp : ElOk (fun g => W0.heap.size ≤ g ∧ some g ≠ a.ownBlock ∧ some g ≠ b.ownBlock) W p) (hn : n = xs.length) :
    ISt B rb xb k W0 (((((((((w2.setCell ⟨xb, 6, none⟩ (.slice (some ⟨g, 0, none⟩) (n + 1) cap)).setCell ⟨g, n * 8, none⟩ (.int .i64 p.v.h.k)).setCell ⟨g, n * 8 + 1, none⟩ (.bool p.v.h.b)).setCell ⟨g, n * 8 + 2, none⟩ (.int .i64 p.v.h.n)).setCell ⟨g, n * 8 + 3, none⟩ (.string p.v.h.s)).setCell ⟨g, n * 8 + 4, none⟩ (.string p.v.h.t)).setCell ⟨g, n * 8 + 5, none⟩ (.string p.v.h.i)).setCell ⟨g, n * 8 + 6, none⟩ (.slice p.ai p.v.l.length p.ci)).setCell ⟨g, n * 8 + 7, none⟩ (.slice p.an p.v.ns.length p.cn)) (.slice (some ⟨g, 0, none⟩) (n + 1) cap) b (xs ++ [p]) ys li shi := by
  have hg : W0.heap.size ≤ g := (World.ownsRow.lt h2 g rfl).1
  have hne : xb ≠ g := by have := h.m.xbl; omega
  have h9 := h.putI8 h2 bl k2 n2 hp hn
  repeat rw [setCell_comm _ xb g 6 _ _ _ hne]
  exact h9
theorem ISt.box2 {B rb xb : Nat} {k : Int} {W0 W w2 : World} {a b : Value} {xs : List El} {ys : List ByteArray} {li : List UInt8} {shi : Bool} (h : ISt B rb xb k W0 W a b xs ys li shi) (bl : RowKit.Below W0.heap.size W w2)
    (k2 : ∀ x, x < W.heap.size → some x ≠ a.ownBlock → w2.heap[x]? = W.heap[x]?) : BxAt k w2 xb a b :=
  h.m.box.to bl.size (k2 xb h.m.box.1.1 fun e => by have := (h.m.aB xb e.symm).1; have := h.m.xbl; omega)
theorem ElOk.low {A : Nat → Prop} {w w' : World} {p : El} (h : ElOk A w p) (l : Low w w') : ElOk A w' p := Rep.low h l
/-- What the reading of an item answers. -/
def ItC (B rb xb : Nat) (k : Int) (w W : World) (a b : Value) (xs : List El) (ys : List ByteArray) (li : List UInt8) (shi : Bool) (e : Ending) (w3 : World) : Prop :=
  ∃ (p : El) (l' : List UInt8) (sh' : Bool), e = .returned (.agg #[.int .i64 p.v.h.k, .bool p.v.h.b, .int .i64 p.v.h.n, .string p.v.h.s, .string p.v.h.t, .string p.v.h.i, .slice p.ai p.v.l.length p.ci, .slice p.an p.v.ns.length p.cn]) ∧
    ISt B rb xb k w w3 a b xs ys l' sh' ∧ ElOk (fun g => w.heap.size ≤ g ∧ some g ≠ a.ownBlock ∧ some g ≠ b.ownBlock) w3 p ∧ VQ Any li shi p.v l' sh' ∧ KeptBut W w3 (some rb)
theorem item_c {B rb xb : Nat} {k : Int} {w wr : World} {a b : Value} {xs : List El} {ys : List ByteArray} {li : List UInt8} {shi : Bool} {N : Nat} (hli : li.length ≤ N)
    (ih : ∀ l' sh' W, l'.length ≤ N → RdAt B W rb l' sh' → B ≤ W.heap.size → Calls Try.prog 27 #[.pointer (some ⟨rb, 0, none⟩)] W (VP2 B rb l' sh' W))
    (ST : ISt B rb xb k w wr a b xs ys li shi) (W : World) (hW : Low wr W) : Calls Try.prog 27 #[.pointer (some ⟨rb, 0, none⟩)] W (ItC B rb xb k w W a b xs ys li shi) := by
  have S1 := ST.low hW
  refine (ih li shi W hli S1.rd (by have := S1.hB; have := S1.m.xbl; have := S1.m.size; omega)).mono fun e w3 ⟨x, ai, ci, an, cn, l', sh', he, hr, T, q⟩ => ?_
  exact ⟨⟨x, ai, ci, an, cn⟩, l', sh', he, S1.took T, (S1.m.kept' T.2).fresh' hr S1.m, q, T.2⟩
def TxC (B rb xb : Nat) (k : Int) (w W : World) (a b : Value) (xs : List El) (ys : List ByteArray) (li : List UInt8) (shi : Bool) (e : Ending) (w3 : World) : Prop :=
  ∃ s : ByteArray, e = .returned (.string s) ∧ s = ⟨(txB li).toArray⟩ ∧ ISt B rb xb k w w3 a b xs ys (txR li) (txS li shi) ∧ KeptBut W w3 (some rb)
theorem name_c {B rb xb : Nat} {k : Int} {w wr : World} {a b : Value} {xs : List El} {ys : List ByteArray} {li : List UInt8} {shi : Bool}
    (ST : ISt B rb xb k w wr a b xs ys li shi) (W : World) (hW : Low wr W) : Calls Try.prog 48 #[.pointer (some ⟨rb, 0, none⟩)] W (TxC B rb xb k w W a b xs ys li shi) := by
  have S1 := ST.low hW
  exact (text_c B rb li shi W S1.rd).mono fun e w3 ⟨⟨s, he, hs⟩, T⟩ => ⟨s, he, hs, S1.took T, T.2⟩
theorem newcell_kept {wr w3 : World} {rb : Nat} {C : Array Value} {t : TypeId} {cs : List Value} (hC : C = cs.toArray) (K : KeptBut (wr.alloc (.cells C t)).drew w3 (some rb)) (hrb : rb < wr.heap.size) {j : Nat} {u : Value} (hj : cs[j]? = some u) : w3.cell? ((⟨wr.heap.size, 0, none⟩ : Addr).add j) = some u := by
  have h1 := newcell_at wr C t wr.heap.size cs hC hj rfl
  rw [Addr.add_lit] at h1 ⊢
  exact K.cellAt (w := (wr.alloc (.cells C t)).drew) h1 (by simp; omega)
set_option maxHeartbeats 8000000 in
set_option maxRecDepth 100000 in
theorem items_c (B rb xb : Nat) (k : Int) (hk : k = 5 ∨ k = 6) (l : List UInt8) (sh : Bool) (w : World) (h : RdAt B w rb l sh) (hx : BxAt k w xb (.slice none 0 0) (.slice none 0 0)) (hne : xb ≠ rb) (hB : B ≤ xb) (hlen : l.length ≤ 65536)
    (ih : ∀ l' sh' W, l'.length ≤ l.length → RdAt B W rb l' sh' → B ≤ W.heap.size → Calls Try.prog 27 #[.pointer (some ⟨rb, 0, none⟩)] W (VP2 B rb l' sh' W)) :
    Calls Try.prog 49 #[.pointer (some ⟨rb, 0, none⟩), .pointer (some ⟨xb, 0, none⟩)] w fun e w' => e = .returned (.tuple #[]) ∧ ItP B rb xb k l sh w w' := by
  have hn := number_c 4 (by decide) 4 rfl B rb l sh w h
  have HN := Lib.hid hn
  have HX := Lib.hid hx
  have HR := Lib.hid h.lt
  have IH := Lib.hid ih
  have HK := Lib.hid hk
  have h4 : ofB (tkB 4 l) < 4294967296 := by
    have h1 := ofB_lt (tkB 4 l)
    have h2 : (tkB 4 l).length ≤ 4 := by unfold tkB; split <;> simp <;> omega
    have h3 : 256 ^ (tkB 4 l).length ≤ 256 ^ 4 := Nat.pow_le_pow_right (by decide) h2
    have h5 : (256 : Nat) ^ 4 = 4294967296 := by decide
    omega
  clear hn hx h ih hk
  go_enter Try.func49, Try.ntmps49
  go_wp2_with (first
    | (go_at_call 47; refine HN.out.mono ?_; rintro e w1 ⟨⟨m, rfl, hm⟩, T1⟩; have HM := Lib.hid hm; clear hm))
  have ST0 : Hid (ISt B rb xb k w w1 (.slice none 0 0) (.slice none 0 0) [] [] (tkR 4 l) (tkS 4 l sh)) := Lib.hid ⟨⟨HX.out.to T1.2.2.2.1 (T1.2.2.2.2 xb HX.out.1.1 (by simpa using hne)), OwnR.nil _ _ _ _ _, OwnR.nil _ _ _ _ _, hne, HX.out.1.1, HR.out, (Kept2.refl w rb xb).step T1.2 fun x hx => by simp at hx; exact .inl hx.symm, by simp⟩, T1.1, hB⟩
  have hm0 : 0 ≤ m := by have := HM.out; omega
  have hm9 : m < 4294967296 := by have := HM.out; omega
  have hl0 := tkR_len 4 l
  clear T1 HN h4
  go_loopg [6] (m.toNat) (fun gk vi wr => ∃ (i : Nat) (xs : List El) (ys : List ByteArray) (a b : Value) (li : List UInt8) (shi : Bool), vi = .int .u64 (i : Int) ∧ (i : Int) ≤ m ∧ m.toNat - i ≤ gk ∧ Hid (ISt B rb xb k w wr a b xs ys li shi) ∧ Hid (ISp Any (k == 6) (tkR 4 l) (tkS 4 l sh) i xs ys li shi))
  case atStart => exact ⟨0, [], [], _, _, _, _, rfl, hm0, Nat.le_refl _, ST0, Lib.hid (ISp.start _ _ _ _)⟩
  case round =>
    obtain ⟨i, xs, ys, a, b, li, shi, rfl, hi, hg, ST, SP⟩ := hrel
    by_cases hlt : (i : Int) < m
    · obtain ⟨-, ra, rc, r0, r1, rf0, rf1, -⟩ := ST.out.rd
      have HR0 := Lib.hid r0
      clear r0
      cases shi with
      | true =>
        go_wp2_with fail
        go_end0
        exact ⟨rfl, xs, ys, a, b, li, true, ST.out, i, SP.out, by have := HM.out; omega, fun e => by simp at e⟩
      | false =>
        have hil : i + li.length ≤ 65537 := by have := SP.out.few; simp at this; omega
        have hxl := SP.out.xl
        have hk0 := ST.out.m.box.facts.1.1
        have hyl : ys.length ≤ i := by have := SP.out.yl; split at this <;> omega
        have HXL := Lib.hid hxl
        have HYL := Lib.hid hyl
        have zi : IntKind.u64.wrap ((i : Int) + 1) = (i : Int) + 1 := by rw [IntKind.wrap_u64]; omega
        have HIL := Lib.hid hil
        have HF := Lib.hid (show i + li.length ≤ l.length by have := SP.out.few; simp at this; omega)
        have HL := Lib.hid (show (tkR 4 l).length ≤ 65536 by omega)
        clear hxl hyl hil
        obtain ⟨ao, ca, ha, -⟩ := OwnR.shape ST.out.m.its
        rw [HXL.out] at ha
        subst ha
        have zi1 : (i : Int) < ((i + 1 : Nat) : Int) := by omega
        have zi2 : (i : Int) < (i : Int) + 1 := by omega
        have hli : li.length ≤ l.length := by have := HF.out; omega
        rcases HK.out with rfl | rfl
        · have c6 := ST.out.m.box.facts.1.2.2.2.2.2.2.1
          have c6b : ∀ X, (wr.alloc X).cell? ⟨xb, 6, none⟩ = some (.slice ao i ca) := fun X => (ST.out.low (Low.alloc (Low.refl wr) X)).m.box.facts.1.2.2.2.2.2.2.1
          have RA := Lib.hid (fun W hW => item_c hli IH.out ST.out W hW)
          have HRB := Lib.hid (show rb < wr.heap.size by have := ST.out.m.rbl; have := ST.out.m.size; omega)
          have YS : ys = [] := List.eq_nil_of_length_eq_zero (by have := SP.out.yl; simpa using this)
          have HYS := Lib.hid YS
          clear YS hli
          go_wp2_with fail
          go_region_law (first
            | ((fail_if_success (have := HS3)); go_simp; go_at_call 27; refine (RA.out _ ?hL).mono ?_; (case hL => first | exact Low.refl _ | exact (Gr.drew (Gr.refl wr)).low | exact (Gr.drew (Gr.alloc (Gr.refl wr) _)).low); rintro e w3 ⟨p, l', sh', rfl, S3, hp, hq, K3⟩; have HS3 := Lib.hid S3; have HP := Lib.hid hp; have HQ := Lib.hid hq; have HK3 := Lib.hid K3; have c63 := S3.m.box.facts.1.2.2.2.2.2.2.1; have c64 : ∀ X, (w3.alloc X).cell? ⟨xb, 6, none⟩ = some (.slice ao i ca) := (fun X => (S3.low (Low.alloc (Low.refl w3) X)).m.box.facts.1.2.2.2.2.2.2.1); clear S3 hp hq K3)
            | (refine ownR_step2 rfl _ _ _ rfl Try.underlying27 v_info rfl (by decide) (by decide) encV_len encV_one w.heap.size (.slice ao i ca) xs rfl HS3.out.m.its elZero ⟨wr.heap.size, 0, none⟩ 1 rfl (fun j u hj => newcell_kept rfl HK3.out HRB.out hj) (by have := HXL.out; have := HIL.out; omega) HS3.out.m.size ?_; have HPX := HP; intro a2 w4 h2 bl k2 n2; have HB2 := Lib.hid (show RowKit.Below _ _ _ from bl); obtain ⟨g, cap, ha2, ⟨hg1, hg2⟩, ⟨d0, d1, d2, d3, d4, d5, d6, d7⟩, fz⟩ := own_last HXL.out h2; subst ha2; have H2 := Lib.hid (show OwnV _ _ _ _ from h2); have HK2 := Lib.hid k2; have HN2 := Lib.hid n2; have hgx : ¬ xb = g := (by have := HS3.out.m.xbl; omega); have hgx2 : ¬ g = xb := (fun e => hgx e.symm); obtain ⟨⟨-, -, -, -, -, -, b6, -⟩, z6, -⟩ := (HS3.out.box2 bl k2).facts; have q0 := fz (i * 8); have q1 := fz (i * 8 + 1); have q2 := fz (i * 8 + 2); have q3 := fz (i * 8 + 3); have q4 := fz (i * 8 + 4); have q5 := fz (i * 8 + 5); have q6 := fz (i * 8 + 6); have q7 := fz (i * 8 + 7); have HSX := Lib.hid HS3.out; clear h2 bl k2 n2 fz hg1 hg2)
            | (refine ownR_step2 rfl _ _ _ rfl Try.underlying27 v_info rfl (by decide) (by decide) encV_len encV_one w.heap.size (.slice ao i ca) xs rfl (HS3.out.low (Low.alloc (Low.refl w3) (.cells #[.int .i64 0, .bool false, .int .i64 0, .string ⟨#[]⟩, .string ⟨#[]⟩, .string ⟨#[]⟩, .slice none 0 0, .slice none 0 0] 29))).m.its elZero ⟨w3.heap.size, 0, none⟩ 1 rfl (fun j u hj => newcell_at _ _ _ _ _ rfl hj) (by have := HXL.out; have := HIL.out; omega) (HS3.out.low (Low.alloc (Low.refl w3) (.cells #[.int .i64 0, .bool false, .int .i64 0, .string ⟨#[]⟩, .string ⟨#[]⟩, .string ⟨#[]⟩, .slice none 0 0, .slice none 0 0] 29))).m.size ?_; have HPX := Lib.hid (ElOk.low HP.out (Low.alloc (Low.refl w3) (.cells #[.int .i64 0, .bool false, .int .i64 0, .string ⟨#[]⟩, .string ⟨#[]⟩, .string ⟨#[]⟩, .slice none 0 0, .slice none 0 0] 29))); intro a2 w4 h2 bl k2 n2; have HB2 := Lib.hid (show RowKit.Below _ _ _ from bl); obtain ⟨g, cap, ha2, ⟨hg1, hg2⟩, ⟨d0, d1, d2, d3, d4, d5, d6, d7⟩, fz⟩ := own_last HXL.out h2; subst ha2; have H2 := Lib.hid (show OwnV _ _ _ _ from h2); have HK2 := Lib.hid k2; have HN2 := Lib.hid n2; have hgx : ¬ xb = g := (by have := (HS3.out.low (Low.alloc (Low.refl w3) (.cells #[.int .i64 0, .bool false, .int .i64 0, .string ⟨#[]⟩, .string ⟨#[]⟩, .string ⟨#[]⟩, .slice none 0 0, .slice none 0 0] 29))).m.xbl; omega); have hgx2 : ¬ g = xb := (fun e => hgx e.symm); obtain ⟨⟨-, -, -, -, -, -, b6, -⟩, z6, -⟩ := ((HS3.out.low (Low.alloc (Low.refl w3) (.cells #[.int .i64 0, .bool false, .int .i64 0, .string ⟨#[]⟩, .string ⟨#[]⟩, .string ⟨#[]⟩, .slice none 0 0, .slice none 0 0] 29))).box2 bl k2).facts; have q0 := fz (i * 8); have q1 := fz (i * 8 + 1); have q2 := fz (i * 8 + 2); have q3 := fz (i * 8 + 3); have q4 := fz (i * 8 + 4); have q5 := fz (i * 8 + 5); have q6 := fz (i * 8 + 6); have q7 := fz (i * 8 + 7); have HSX := Lib.hid (HS3.out.low (Low.alloc (Low.refl w3) (.cells #[.int .i64 0, .bool false, .int .i64 0, .string ⟨#[]⟩, .string ⟨#[]⟩, .string ⟨#[]⟩, .slice none 0 0, .slice none 0 0] 29))); clear h2 bl k2 n2 fz hg1 hg2))
          all_goals
            go_wp2_with fail
            go_roundg (m.toNat - (i + 1))
            case measure => omega
            case rel =>
              refine ⟨i + 1, xs ++ [p], ys, .slice (some ⟨g, 0, none⟩) (i + 1) cap, b, l', sh', by go_num, by omega, by omega, ?_, Lib.hid (by have S5 := SP.out; rw [HYS.out] at S5 ⊢; exact ISp.stepS S5 HQ.out)⟩
              first
                | with_reducible exact Lib.hid (ISt.putI8 HSX.out H2.out HB2.out HK2.out HN2.out HPX.out HXL.out.symm)
                | with_reducible exact Lib.hid (ISt.putI8b HSX.out H2.out HB2.out HK2.out HN2.out HPX.out HXL.out.symm)
        · have c7 := ST.out.m.box.facts.1.2.2.2.2.2.2.2
          have TA := Lib.hid (fun W hW => name_c ST.out W hW)
          clear hli
          go_wp2_with fail
          go_region_law (first
            | (refine ownR_step2 rfl _ _ _ rfl Try.underlying22 n_info rfl (by decide) (by decide) encN_len encN_one w.heap.size b ys rfl (HT3.out.low (Low.alloc (Low.refl w3) (.cells #[.string s] 9))).m.nms s ⟨w3.heap.size, 0, none⟩ 1 rfl (fun j u hj => newcell_at _ _ _ _ _ rfl hj) (by have := HYL.out; have := HIL.out; omega) (HT3.out.low (Low.alloc (Low.refl w3) (.cells #[.string s] 9))).m.size ?_; intro b2 w4 h2 bl k2 n2; obtain ⟨ao2, cp2, hv2, -, -, -⟩ := OwnR.shape h2; obtain ⟨nn2, hnn2⟩ : ∃ q, q = (ys ++ [s]).length := ⟨_, rfl⟩; rw [← hnn2] at hv2; clear hnn2; subst hv2; obtain ⟨r2, st2⟩ := (HT3.out.low (Low.alloc (Low.refl w3) (.cells #[.string s] 9))).putN h2 bl k2 n2; have f7 := r2.facts.1.2.2.2.2.2.2.2; have z7 := r2.facts.2.2; have HST2 := Lib.hid st2; clear h2 bl k2 n2 r2 st2)
            | (go_simp; go_at_call 48; refine (TA.out _ ?hL).mono ?_; (case hL => first | exact Low.refl _ | exact (Gr.drew (Gr.refl wr)).low | exact (Gr.drew (Gr.alloc (Gr.refl wr) _)).low); rintro e w3 ⟨s, rfl, hs, S3, K3⟩; have HT3 := Lib.hid S3; have HS := Lib.hid hs; have c73 := S3.m.box.facts.1.2.2.2.2.2.2.2; have c74 : ∀ X, (w3.alloc X).cell? ⟨xb, 7, none⟩ = some b := (fun X => (S3.low (Low.alloc (Low.refl w3) X)).m.box.facts.1.2.2.2.2.2.2.2); clear S3 K3 hs))
          all_goals
            obtain ⟨WN, hWN⟩ : ∃ W, W = w4.setCell ⟨xb, 7, none⟩ (.slice ao2 nn2 cp2) := ⟨_, rfl⟩
            rw [← hWN] at HST2 ⊢
            clear hWN c7 c73 c74 f7 z7
            have c6 := HST2.out.m.box.facts.1.2.2.2.2.2.2.1
            have c6b : ∀ X, (WN.alloc X).cell? ⟨xb, 6, none⟩ = some (.slice ao i ca) := fun X => (HST2.out.low (Low.alloc (Low.refl WN) X)).m.box.facts.1.2.2.2.2.2.2.1
            have hli2 : (txR li).length ≤ l.length := by have := (tx_cost li).2; have := HF.out; omega
            have RA := Lib.hid (fun W hW => item_c hli2 IH.out HST2.out W hW)
            have HRB := Lib.hid (show rb < WN.heap.size by have := HST2.out.m.rbl; have := HST2.out.m.size; omega)
            clear hli2
            go_wp2_with fail
            go_region_law (first
              | ((fail_if_success (have := HS3)); go_simp; go_at_call 27; refine (RA.out _ ?hL).mono ?_; (case hL => first | exact Low.refl _ | exact (Gr.drew (Gr.refl WN)).low | exact (Gr.drew (Gr.alloc (Gr.refl WN) _)).low); rintro e w3 ⟨p, l', sh', rfl, S3, hp, hq, K3⟩; have HS3 := Lib.hid S3; have HP := Lib.hid hp; have HQ := Lib.hid hq; have HK3 := Lib.hid K3; have c63 := S3.m.box.facts.1.2.2.2.2.2.2.1; have c64 : ∀ X, (w3.alloc X).cell? ⟨xb, 6, none⟩ = some (.slice ao i ca) := (fun X => (S3.low (Low.alloc (Low.refl w3) X)).m.box.facts.1.2.2.2.2.2.2.1); clear S3 hp hq K3)
              | (refine ownR_step2 rfl _ _ _ rfl Try.underlying27 v_info rfl (by decide) (by decide) encV_len encV_one w.heap.size (.slice ao i ca) xs rfl HS3.out.m.its elZero ⟨WN.heap.size, 0, none⟩ 1 rfl (fun j u hj => newcell_kept rfl HK3.out HRB.out hj) (by have := HXL.out; have := HIL.out; omega) HS3.out.m.size ?_; have HPX := HP; intro a2 w4 h2 bl k2 n2; have HB2 := Lib.hid (show RowKit.Below _ _ _ from bl); obtain ⟨g, cap, ha2, ⟨hg1, hg2⟩, ⟨d0, d1, d2, d3, d4, d5, d6, d7⟩, fz⟩ := own_last HXL.out h2; subst ha2; have H2 := Lib.hid (show OwnV _ _ _ _ from h2); have HK2 := Lib.hid k2; have HN2 := Lib.hid n2; have hgx : ¬ xb = g := (by have := HS3.out.m.xbl; omega); have hgx2 : ¬ g = xb := (fun e => hgx e.symm); obtain ⟨⟨-, -, -, -, -, -, b6, -⟩, z6, -⟩ := (HS3.out.box2 bl k2).facts; have q0 := fz (i * 8); have q1 := fz (i * 8 + 1); have q2 := fz (i * 8 + 2); have q3 := fz (i * 8 + 3); have q4 := fz (i * 8 + 4); have q5 := fz (i * 8 + 5); have q6 := fz (i * 8 + 6); have q7 := fz (i * 8 + 7); have HSX := Lib.hid HS3.out; clear h2 bl k2 n2 fz hg1 hg2)
              | (refine ownR_step2 rfl _ _ _ rfl Try.underlying27 v_info rfl (by decide) (by decide) encV_len encV_one w.heap.size (.slice ao i ca) xs rfl (HS3.out.low (Low.alloc (Low.refl w3) (.cells #[.int .i64 0, .bool false, .int .i64 0, .string ⟨#[]⟩, .string ⟨#[]⟩, .string ⟨#[]⟩, .slice none 0 0, .slice none 0 0] 29))).m.its elZero ⟨w3.heap.size, 0, none⟩ 1 rfl (fun j u hj => newcell_at _ _ _ _ _ rfl hj) (by have := HXL.out; have := HIL.out; omega) (HS3.out.low (Low.alloc (Low.refl w3) (.cells #[.int .i64 0, .bool false, .int .i64 0, .string ⟨#[]⟩, .string ⟨#[]⟩, .string ⟨#[]⟩, .slice none 0 0, .slice none 0 0] 29))).m.size ?_; have HPX := Lib.hid (ElOk.low HP.out (Low.alloc (Low.refl w3) (.cells #[.int .i64 0, .bool false, .int .i64 0, .string ⟨#[]⟩, .string ⟨#[]⟩, .string ⟨#[]⟩, .slice none 0 0, .slice none 0 0] 29))); intro a2 w4 h2 bl k2 n2; have HB2 := Lib.hid (show RowKit.Below _ _ _ from bl); obtain ⟨g, cap, ha2, ⟨hg1, hg2⟩, ⟨d0, d1, d2, d3, d4, d5, d6, d7⟩, fz⟩ := own_last HXL.out h2; subst ha2; have H2 := Lib.hid (show OwnV _ _ _ _ from h2); have HK2 := Lib.hid k2; have HN2 := Lib.hid n2; have hgx : ¬ xb = g := (by have := (HS3.out.low (Low.alloc (Low.refl w3) (.cells #[.int .i64 0, .bool false, .int .i64 0, .string ⟨#[]⟩, .string ⟨#[]⟩, .string ⟨#[]⟩, .slice none 0 0, .slice none 0 0] 29))).m.xbl; omega); have hgx2 : ¬ g = xb := (fun e => hgx e.symm); obtain ⟨⟨-, -, -, -, -, -, b6, -⟩, z6, -⟩ := ((HS3.out.low (Low.alloc (Low.refl w3) (.cells #[.int .i64 0, .bool false, .int .i64 0, .string ⟨#[]⟩, .string ⟨#[]⟩, .string ⟨#[]⟩, .slice none 0 0, .slice none 0 0] 29))).box2 bl k2).facts; have q0 := fz (i * 8); have q1 := fz (i * 8 + 1); have q2 := fz (i * 8 + 2); have q3 := fz (i * 8 + 3); have q4 := fz (i * 8 + 4); have q5 := fz (i * 8 + 5); have q6 := fz (i * 8 + 6); have q7 := fz (i * 8 + 7); have HSX := Lib.hid (HS3.out.low (Low.alloc (Low.refl w3) (.cells #[.int .i64 0, .bool false, .int .i64 0, .string ⟨#[]⟩, .string ⟨#[]⟩, .string ⟨#[]⟩, .slice none 0 0, .slice none 0 0] 29))); clear h2 bl k2 n2 fz hg1 hg2))
            all_goals
              go_wp2_with fail
              go_roundg (m.toNat - (i + 1))
              case measure => omega
              case rel =>
                refine ⟨i + 1, xs ++ [p], ys ++ [s], .slice (some ⟨g, 0, none⟩) (i + 1) cap, .slice ao2 nn2 cp2, l', sh', by go_num, by omega, by omega, ?_, Lib.hid (ISp.stepR SP.out HL.out HS.out HQ.out)⟩
                first
                  | with_reducible exact Lib.hid (ISt.putI8 HSX.out H2.out HB2.out HK2.out HN2.out HPX.out HXL.out.symm)
                  | with_reducible exact Lib.hid (ISt.putI8b HSX.out H2.out HB2.out HK2.out HN2.out HPX.out HXL.out.symm)
    · have hie : (i : Int) = m := by omega
      have hin : i = ofB (tkB 4 l) := by have := HM.out; omega
      have HIN := Lib.hid hin
      clear hin
      go_wp2_with fail
      go_end0
      exact ⟨rfl, xs, ys, a, b, li, shi, ST.out, i, SP.out, by rw [HIN.out]; exact Nat.le_refl _, fun _ => HIN.out⟩
end Go.Proofs.Ytbhlgajdoegboaa
