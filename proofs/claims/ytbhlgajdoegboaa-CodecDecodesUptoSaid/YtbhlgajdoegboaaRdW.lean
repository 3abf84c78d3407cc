/- codec.reader's value, whatever lies there; codec.Decode of any bytes. Condition: no more than 65536 bytes. -/
import Derived.Test.YtbhlgajdoegboaaItW
import Derived.Test.YtbhlgajdoegboaaDecA
namespace Go.Proofs.Ytbhlgajdoegboaa
open Go.RowKit
theorem Kept2.but {x a c : World} {r s : Nat} (h : Kept2 a c r s) (k : KeptBut x a (some r)) (hs : x.heap.size ≤ s) : KeptBut x c (some r) :=
  ⟨h.1.trans k.1, h.2.1.trans k.2.1, Nat.le_trans k.2.2.1 h.2.2.1, fun b hb hne => (h.2.2.2 b (Nat.lt_of_lt_of_le hb k.2.2.1) (fun e => hne (by rw [e])) (by omega)).trans (k.2.2.2 b hb hne)⟩
/-- What reading a set or record leaves, and answers. -/
theorem vp_items {B rb : Nat} {l : List UInt8} {sh : Bool} {k : Int} {w w1 w2 : World} (hk : k = 5 ∨ k = 6) (hl : l.length ≤ 65536) (h1 : ((ofB (tkB 1 l) : Nat) : Int) = k) (hrb : rb < w.heap.size) (hB : B ≤ w.heap.size) (hs1 : w.heap.size + 1 ≤ w1.heap.size)
    (T1 : KeptBut (w.alloc (.cells #[.int .i64 0, .bool false, .int .i64 0, .string ⟨#[]⟩, .string ⟨#[]⟩, .string ⟨#[]⟩, .slice none 0 0, .slice none 0 0] 29)) w1 (some rb))
    {xs : List El} {ys : List ByteArray} {a b : Value} {l' : List UInt8} {sh' : Bool} {i : Nat} (ST : ISt B rb w1.heap.size k (w1.alloc (.cells #[.int .i64 k, .bool false, .int .i64 0, .string ⟨#[]⟩, .string ⟨#[]⟩, .string ⟨#[]⟩, .slice none 0 0, .slice none 0 0] 29)) w2 a b xs ys l' sh')
    (SP : ISp Any (k == 6) (tkR 4 (tkR 1 l)) (tkS 4 (tkR 1 l) (tkS 1 l sh)) i xs ys l' sh') (hi : i ≤ ofB (tkB 4 (tkR 1 l))) (hn : sh' = false → i = ofB (tkB 4 (tkR 1 l))) :
    VP2 B rb l sh w (.returned (.agg #[.int .i64 k, .bool false, .int .i64 0, .string ⟨#[]⟩, .string ⟨#[]⟩, .string ⟨#[]⟩, a, b])) ((((((((w2.setCell ⟨w.heap.size, 0, none⟩ (.int .i64 k)).setCell ⟨w.heap.size, 1, none⟩ (.bool false)).setCell ⟨w.heap.size, 2, none⟩ (.int .i64 0)).setCell ⟨w.heap.size, 3, none⟩ (.string ⟨#[]⟩)).setCell ⟨w.heap.size, 4, none⟩ (.string ⟨#[]⟩)).setCell ⟨w.heap.size, 5, none⟩ (.string ⟨#[]⟩)).setCell ⟨w.heap.size, 6, none⟩ a).setCell ⟨w.heap.size, 7, none⟩ b) := by
  obtain ⟨ao, ca, ha, -⟩ := OwnR.shape ST.m.its
  obtain ⟨bo, cb, hb, -⟩ := OwnR.shape ST.m.nms
  have k8 := kept8 w2 w.heap.size (.int .i64 k) (.bool false) (.int .i64 0) (.string ⟨#[]⟩) (.string ⟨#[]⟩) (.string ⟨#[]⟩) a b
  have hsz := ST.m.size
  simp only [World.size_alloc] at hsz
  have KW : KeptBut w w2 (some rb) := (KeptBut.of_low (Low.alloc (Low.refl w) _)).trans (ST.m.kept.but (T1.trans (KeptBut.of_low (Low.alloc (Low.refl w1) _))) (by simp; omega))
  have hr := ST.m.rep SP.sz
  refine ⟨.mk { hd0 with k := k } (xs.map (·.v)) ys, ao, ca, bo, cb, l', sh', ?_, ?_, ⟨ST.rd.kept k8 (by omega) (by omega) (by omega), KW.more k8 fun g hg => by simp at hg; omega⟩, vq_items (fun _ _ _ _ _ => trivial) hk hl h1 SP hi hn⟩
  · rw [ha, hb]
    show _ = Ending.returned (.agg #[.int .i64 k, .bool false, .int .i64 0, .string ⟨#[]⟩, .string ⟨#[]⟩, .string ⟨#[]⟩, .slice ao (xs.map (·.v)).length ca, .slice bo ys.length cb])
    rw [List.length_map]
  · show Rep _ _ _ (.slice ao (xs.map (·.v)).length ca) (.slice bo ys.length cb)
    rw [List.length_map, ← ha, ← hb]
    refine Rep.to (fun g hg hlt => ⟨?_, k8.2.2.2 g hlt ?_⟩) _ hr
    · simp at hg; omega
    · simp at hg ⊢; omega
set_option maxHeartbeats 3200000 in
set_option maxRecDepth 100000 in
theorem value_5 (B rb : Nat) (l : List UInt8) (sh : Bool) (w : World) (h : RdAt B w rb l sh) (hB : B ≤ w.heap.size) (hlen : l.length ≤ 65536) (h1 : ((ofB (tkB 1 l) : Nat) : Int) = 5)
    (ih : ∀ l' sh' W, l'.length ≤ (tkR 1 l).length → RdAt B W rb l' sh' → B ≤ W.heap.size → Calls Try.prog 27 #[.pointer (some ⟨rb, 0, none⟩)] W (VP2 B rb l' sh' W)) :
    Calls Try.prog 27 #[.pointer (some ⟨rb, 0, none⟩)] w (VP2 B rb l sh w) := by
  have hrb := h.lt
  have R0 := Lib.hid (h.low hB (Low.alloc (Low.refl w) (.cells #[.int .i64 0, .bool false, .int .i64 0, .string ⟨#[]⟩, .string ⟨#[]⟩, .string ⟨#[]⟩, .slice none 0 0, .slice none 0 0] 29)))
  have N1 := Lib.hid (number_c 1 (by decide) 1 rfl B rb l sh _ R0.out)
  have H1 := Lib.hid h1
  have IH := Lib.hid ih
  have HL := Lib.hid hlen
  have HL2 := Lib.hid (show (tkR 1 l).length ≤ 65536 by have := tkR_len 1 l; omega)
  clear h h1 ih hlen
  go_enter Try.func27, Try.ntmps27
  go_wp2_with (first
    | (go_at_call 47; refine N1.out.mono ?_; rintro e w1 ⟨⟨m, rfl, hm⟩, T1⟩; rw [H1.out] at hm; subst hm; have s1 : w.heap.size + 1 ≤ w1.heap.size := (by have := T1.2.2.2.1; simpa using this); have HT1 := Lib.hid T1; have HRW := Lib.hid (T1.1.low (by omega) (Low.alloc (Low.refl w1) (.cells #[.int .i64 5, .bool false, .int .i64 0, .string ⟨#[]⟩, .string ⟨#[]⟩, .string ⟨#[]⟩, .slice none 0 0, .slice none 0 0] 29))); have IT := Lib.hid (items_c B rb w1.heap.size 5 (.inl rfl) (tkR 1 l) (tkS 1 l sh) _ HRW.out (bx_new 5 w1 29) (by omega) (by omega) HL2.out IH.out); clear T1)
    | (go_at_call 49; refine IT.out.mono ?_; rintro e w2 ⟨rfl, xs, ys, a, b, l', sh', ST, i, SP, hi, hn⟩; obtain ⟨ao, ca, ha, -⟩ := OwnR.shape ST.m.its; obtain ⟨na, hna⟩ : ∃ q, q = xs.length := ⟨_, rfl⟩; rw [← hna] at ha; clear hna; subst ha; obtain ⟨bo, cb, hbv, -⟩ := OwnR.shape ST.m.nms; obtain ⟨nb, hnb⟩ : ∃ q, q = ys.length := ⟨_, rfl⟩; rw [← hnb] at hbv; clear hnb; subst hbv; have HST := Lib.hid ST; have HSP := Lib.hid SP; have HI := Lib.hid hi; have HN := Lib.hid hn; have hs2 : w1.heap.size + 1 ≤ w2.heap.size := (by have := ST.m.size; simpa using this); obtain ⟨⟨c0, c1, c2, c3, c4, c5, c6, c7⟩, fz6, fz7⟩ := ST.m.box.facts; obtain ⟨⟨d0, d1, d2, d3, d4, d5, d6, d7⟩, fy⟩ := kept_new (ST.m.kept.but (HT1.out.2.trans (KeptBut.of_low (Low.alloc (Low.refl w1) _))) (by simp; omega)) (by omega); have g0 := fy 0; have g1 := fy 1; have g2 := fy 2; have g3 := fy 3; have g4 := fy 4; have g5 := fy 5; have g6 := fy 6; have g7 := fy 7; clear ST SP hi hn fy))
  refine bodyPost_ret (v := .agg #[.int .i64 5, .bool false, .int .i64 0, .string ⟨#[]⟩, .string ⟨#[]⟩, .string ⟨#[]⟩, .slice ao na ca, .slice bo nb cb]) (by simp [results, Try.results27, go_sem, World.cell?_setCell_same', d0, d1, d2, d3, d4, d5, d6, d7]; try rfl) rfl ?_
  exact vp_items (.inl rfl) HL.out H1.out hrb hB s1 HT1.out.2 HST.out HSP.out HI.out HN.out
set_option maxHeartbeats 3200000 in
set_option maxRecDepth 100000 in
theorem value_6 (B rb : Nat) (l : List UInt8) (sh : Bool) (w : World) (h : RdAt B w rb l sh) (hB : B ≤ w.heap.size) (hlen : l.length ≤ 65536) (h1 : ((ofB (tkB 1 l) : Nat) : Int) = 6)
    (ih : ∀ l' sh' W, l'.length ≤ (tkR 1 l).length → RdAt B W rb l' sh' → B ≤ W.heap.size → Calls Try.prog 27 #[.pointer (some ⟨rb, 0, none⟩)] W (VP2 B rb l' sh' W)) :
    Calls Try.prog 27 #[.pointer (some ⟨rb, 0, none⟩)] w (VP2 B rb l sh w) := by
  have hrb := h.lt
  have R0 := Lib.hid (h.low hB (Low.alloc (Low.refl w) (.cells #[.int .i64 0, .bool false, .int .i64 0, .string ⟨#[]⟩, .string ⟨#[]⟩, .string ⟨#[]⟩, .slice none 0 0, .slice none 0 0] 29)))
  have N1 := Lib.hid (number_c 1 (by decide) 1 rfl B rb l sh _ R0.out)
  have H1 := Lib.hid h1
  have IH := Lib.hid ih
  have HL := Lib.hid hlen
  have HL2 := Lib.hid (show (tkR 1 l).length ≤ 65536 by have := tkR_len 1 l; omega)
  clear h h1 ih hlen
  go_enter Try.func27, Try.ntmps27
  go_wp2_with (first
    | (go_at_call 47; refine N1.out.mono ?_; rintro e w1 ⟨⟨m, rfl, hm⟩, T1⟩; rw [H1.out] at hm; subst hm; have s1 : w.heap.size + 1 ≤ w1.heap.size := (by have := T1.2.2.2.1; simpa using this); have HT1 := Lib.hid T1; have HRW := Lib.hid (T1.1.low (by omega) (Low.alloc (Low.refl w1) (.cells #[.int .i64 6, .bool false, .int .i64 0, .string ⟨#[]⟩, .string ⟨#[]⟩, .string ⟨#[]⟩, .slice none 0 0, .slice none 0 0] 29))); have IT := Lib.hid (items_c B rb w1.heap.size 6 (.inr rfl) (tkR 1 l) (tkS 1 l sh) _ HRW.out (bx_new 6 w1 29) (by omega) (by omega) HL2.out IH.out); clear T1)
    | (go_at_call 49; refine IT.out.mono ?_; rintro e w2 ⟨rfl, xs, ys, a, b, l', sh', ST, i, SP, hi, hn⟩; obtain ⟨ao, ca, ha, -⟩ := OwnR.shape ST.m.its; obtain ⟨na, hna⟩ : ∃ q, q = xs.length := ⟨_, rfl⟩; rw [← hna] at ha; clear hna; subst ha; obtain ⟨bo, cb, hbv, -⟩ := OwnR.shape ST.m.nms; obtain ⟨nb, hnb⟩ : ∃ q, q = ys.length := ⟨_, rfl⟩; rw [← hnb] at hbv; clear hnb; subst hbv; have HST := Lib.hid ST; have HSP := Lib.hid SP; have HI := Lib.hid hi; have HN := Lib.hid hn; have hs2 : w1.heap.size + 1 ≤ w2.heap.size := (by have := ST.m.size; simpa using this); obtain ⟨⟨c0, c1, c2, c3, c4, c5, c6, c7⟩, fz6, fz7⟩ := ST.m.box.facts; obtain ⟨⟨d0, d1, d2, d3, d4, d5, d6, d7⟩, fy⟩ := kept_new (ST.m.kept.but (HT1.out.2.trans (KeptBut.of_low (Low.alloc (Low.refl w1) _))) (by simp; omega)) (by omega); have g0 := fy 0; have g1 := fy 1; have g2 := fy 2; have g3 := fy 3; have g4 := fy 4; have g5 := fy 5; have g6 := fy 6; have g7 := fy 7; clear ST SP hi hn fy))
  refine bodyPost_ret (v := .agg #[.int .i64 6, .bool false, .int .i64 0, .string ⟨#[]⟩, .string ⟨#[]⟩, .string ⟨#[]⟩, .slice ao na ca, .slice bo nb cb]) (by simp [results, Try.results27, go_sem, World.cell?_setCell_same', d0, d1, d2, d3, d4, d5, d6, d7]; try rfl) rfl ?_
  exact vp_items (.inr rfl) HL.out H1.out hrb hB s1 HT1.out.2 HST.out HSP.out HI.out HN.out
theorem value_n (N : Nat) : ∀ (B rb : Nat) (l : List UInt8) (sh : Bool) (w : World), l.length ≤ N → l.length ≤ 65536 → RdAt B w rb l sh → B ≤ w.heap.size →
    Calls Try.prog 27 #[.pointer (some ⟨rb, 0, none⟩)] w (VP2 B rb l sh w) := by
  induction N with
  | zero =>
    intro B rb l sh w hN hl h hB
    obtain rfl : l = [] := List.eq_nil_of_length_eq_zero (by omega)
    exact (vp_0 h hB (.inl rfl)).mono fun _ _ => VP2.of
  | succ N ih =>
    intro B rb l sh w hN hl h hB
    by_cases k0 : ofB (tkB 1 l) = 0
    · exact (vp_0 h hB (.inl k0)).mono fun _ _ => VP2.of
    by_cases k1 : ofB (tkB 1 l) = 1
    · exact (vp_1 h hB hl k1).mono fun _ _ => VP2.of
    by_cases k2 : ofB (tkB 1 l) = 2
    · exact (vp_2 h hB hl k2).mono fun _ _ => VP2.of
    by_cases k3 : ofB (tkB 1 l) = 3
    · exact (vp_3 h hB hl k3).mono fun _ _ => VP2.of
    by_cases k4 : ofB (tkB 1 l) = 4
    · exact (vp_4 h hB hl k4).mono fun _ _ => VP2.of
    by_cases k9 : 6 < ofB (tkB 1 l)
    · exact (vp_0 h hB (.inr k9)).mono fun _ _ => VP2.of
    have hs := step_len (nil_of k0)
    by_cases k5 : ofB (tkB 1 l) = 5
    · exact value_5 B rb l sh w h hB hl (by rw [k5]; rfl) fun l' sh' W hl' hr hB' => ih B rb l' sh' W (by omega) (by omega) hr hB'
    · exact value_6 B rb l sh w h hB hl (by omega) fun l' sh' W hl' hr hB' => ih B rb l' sh' W (by omega) (by omega) hr hB'
theorem dec_c (l : List UInt8) (hlen : l.length ≤ 65536) (n : Nat) (hn : l.length = n) (w : World) (ao : Option Addr) (cap : Nat) (h : BytesAt w.heap.size w l ao cap) :
    Calls Try.prog 14 #[.slice ao n cap] w (DecP l w) :=
  dec_any l hlen n hn w ao cap h fun rb W hr hB => (value_n l.length w.heap.size rb l false W (Nat.le_refl _) hlen hr hB).mono fun _ _ => VP2.to
end Go.Proofs.Ytbhlgajdoegboaa
