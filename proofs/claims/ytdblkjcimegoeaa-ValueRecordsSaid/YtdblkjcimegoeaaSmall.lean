/- Same, Holds, and what looks for an item. No condition. -/
import Derived.Test.YtdblkjcimegoeaaRefOrd
namespace Go.Proofs.Ytdblkjcimegoeaa
open Go.RowKit Go.Sort
theorem retB {a b : Bool} (h : a = b) : Ending.returned (.bool a) = .returned (.bool b) := by rw [h]
theorem cells_box {w W : World} {h : Hd} {it nm : Value} {t : TypeId} (g : Gr (w.alloc (.cells #[.int .i64 h.k, .bool h.b, .int .i64 h.n, .string h.s, .string h.t, .string h.i, it, nm] t)) W) : CellsAt W w.heap.size 0 (hdc h it nm) := fun j v hv => by
  rw [Nat.zero_add]
  exact gr_cells g (by simpa [hdc] using hv)
/-- What IndexFunc answers: where, or below 0. -/
def IdxP (p : V → Bool) (l : List V) (w : World) (e : Ending) (w' : World) : Prop := ∃ k : Int, e = .returned (.int .i64 k) ∧ decide (0 ≤ k) = l.any p ∧ Gr w w'
set_option maxHeartbeats 1600000 in
theorem idxH_c (p : V → Bool) (bx : Nat) (l : List V) (w : World) (hc : ∀ x ∈ l, ∀ w', Gr w w' → ∀ it nm, R w' x it nm → Calls Try.prog 16 #[av x.h it nm, .pointer (some ⟨bx, 0, none⟩)] w' fun e w'' => e = .returned (.bool (p x)) ∧ Gr w' w'')
    (it : Value) (hl : Ro w l it) : Calls Try.prog 28 #[it, .func (.func 16) #[] #[.pointer (some ⟨bx, 0, none⟩)]] w (IdxP p l w) := by
  obtain ⟨al, cl, rfl, ⟨zl, zl'⟩, -⟩ := id hl
  have HL := Lib.hid hl
  have HI := Lib.hid hc
  clear hl hc
  go_enter Try.func28, Try.ntmps28
  go_wp2_with fail
  go_loopg [8] l.length (fun gk vi wr => ∃ i : Nat, vi = .int .i64 (i : Int) ∧ i ≤ l.length ∧ l.length - i ≤ gk ∧ Hid (Gr w wr) ∧ Hid (l.any p = (l.drop i).any p))
  case atStart => exact ⟨0, rfl, Nat.zero_le _, Nat.le_refl _, Lib.hid (Gr.refl _), rfl⟩
  case round =>
    obtain ⟨i, rfl, hi, hg, G, K⟩ := hrel
    by_cases hlt : i < l.length
    · have z1 : (i : Int) < (l.length : Int) := by omega
      obtain ⟨b, o, ai, ci, an, cn, rfl, hcs, hrx⟩ := ro_at (HL.out.low G.out.low) hlt
      obtain ⟨e0, e1, e2, e3, e4, e5, e6, e7⟩ := cells8 hcs
      have hcon := HI.out l[i] (List.getElem_mem hlt) wr G.out _ _ hrx
      have hst : l.any p = (p l[i] || (l.drop (i + 1)).any p) := by rw [K.out, drop_cons hlt, List.any_cons]
      generalize p l[i] = c at hcon hst
      have HC := Lib.hid hcon
      have HS := Lib.hid hst
      clear hcon hst hcs hrx
      go_wp2_with fail
      refine HC.out.mono ?_
      rintro e w1 ⟨rfl, g⟩
      cases c with
      | true =>
        have HQ := Lib.hid (show decide ((0 : Int) ≤ (i : Int)) = l.any p by rw [HS.out]; simp)
        go_wp2_with fail
        go_ret
        exact ⟨_, rfl, HQ.out, G.out.trans g⟩
      | false =>
        have HS' : Hid (l.any p = (l.drop (i + 1)).any p) := by show _ = _; rw [HS.out]; rfl
        go_wp2_with fail
        go_roundg (l.length - (i + 1))
        case measure => omega
        case rel => exact ⟨i + 1, by go_num, by omega, by omega, Lib.hid (G.out.trans g), HS'⟩
    · have z1 : ¬ (i : Int) < (l.length : Int) := by omega
      have HQ := Lib.hid (show decide ((0 : Int) ≤ -1) = l.any p by rw [K.out, List.drop_eq_nil_of_le (show l.length ≤ i by omega)]; rfl)
      go_wp2_with fail
      go_ret
      exact ⟨_, rfl, HQ.out, G.out⟩
theorem conH_c (p : V → Bool) (bx : Nat) (l : List V) (w : World) (hc : ∀ x ∈ l, ∀ w', Gr w w' → ∀ it nm, R w' x it nm → Calls Try.prog 16 #[av x.h it nm, .pointer (some ⟨bx, 0, none⟩)] w' fun e w'' => e = .returned (.bool (p x)) ∧ Gr w' w'')
    (it : Value) (hl : Ro w l it) : Calls Try.prog 15 #[it, .func (.func 16) #[] #[.pointer (some ⟨bx, 0, none⟩)]] w fun e w' => e = .returned (.bool (l.any p)) ∧ Gr w w' := by
  have HC := Lib.hid (idxH_c p bx l w hc it hl)
  obtain ⟨al, cl, rfl, -, -⟩ := id hl
  clear hc hl
  go_enter Try.func15, Try.ntmps15
  go_wp2_with fail
  refine HC.out.mono ?_
  rintro e w1 ⟨k, rfl, hk, g⟩
  have HK := Lib.hid hk
  clear hk
  go_wp2_with fail
  go_ret
  exact ⟨retB HK.out, g⟩
set_option maxHeartbeats 1600000 in
theorem idxD_c (p : V → Bool) (bx : Nat) (l : List V) (w : World) (hc : ∀ x ∈ l, ∀ w', Gr w w' → ∀ it nm, R w' x it nm → Calls Try.prog 25 #[av x.h it nm, .pointer (some ⟨bx, 0, none⟩)] w' fun e w'' => e = .returned (.bool (p x)) ∧ Gr w' w'')
    (it : Value) (hl : Ro w l it) : Calls Try.prog 28 #[it, .func (.func 25) #[] #[.pointer (some ⟨bx, 0, none⟩)]] w (IdxP p l w) := by
  obtain ⟨al, cl, rfl, ⟨zl, zl'⟩, -⟩ := id hl
  have HL := Lib.hid hl
  have HI := Lib.hid hc
  clear hl hc
  go_enter Try.func28, Try.ntmps28
  go_wp2_with fail
  go_loopg [8] l.length (fun gk vi wr => ∃ i : Nat, vi = .int .i64 (i : Int) ∧ i ≤ l.length ∧ l.length - i ≤ gk ∧ Hid (Gr w wr) ∧ Hid (l.any p = (l.drop i).any p))
  case atStart => exact ⟨0, rfl, Nat.zero_le _, Nat.le_refl _, Lib.hid (Gr.refl _), rfl⟩
  case round =>
    obtain ⟨i, rfl, hi, hg, G, K⟩ := hrel
    by_cases hlt : i < l.length
    · have z1 : (i : Int) < (l.length : Int) := by omega
      obtain ⟨b, o, ai, ci, an, cn, rfl, hcs, hrx⟩ := ro_at (HL.out.low G.out.low) hlt
      obtain ⟨e0, e1, e2, e3, e4, e5, e6, e7⟩ := cells8 hcs
      have hcon := HI.out l[i] (List.getElem_mem hlt) wr G.out _ _ hrx
      have hst : l.any p = (p l[i] || (l.drop (i + 1)).any p) := by rw [K.out, drop_cons hlt, List.any_cons]
      generalize p l[i] = c at hcon hst
      have HC := Lib.hid hcon
      have HS := Lib.hid hst
      clear hcon hst hcs hrx
      go_wp2_with fail
      refine HC.out.mono ?_
      rintro e w1 ⟨rfl, g⟩
      cases c with
      | true =>
        have HQ := Lib.hid (show decide ((0 : Int) ≤ (i : Int)) = l.any p by rw [HS.out]; simp)
        go_wp2_with fail
        go_ret
        exact ⟨_, rfl, HQ.out, G.out.trans g⟩
      | false =>
        have HS' : Hid (l.any p = (l.drop (i + 1)).any p) := by show _ = _; rw [HS.out]; rfl
        go_wp2_with fail
        go_roundg (l.length - (i + 1))
        case measure => omega
        case rel => exact ⟨i + 1, by go_num, by omega, by omega, Lib.hid (G.out.trans g), HS'⟩
    · have z1 : ¬ (i : Int) < (l.length : Int) := by omega
      have HQ := Lib.hid (show decide ((0 : Int) ≤ -1) = l.any p by rw [K.out, List.drop_eq_nil_of_le (show l.length ≤ i by omega)]; rfl)
      go_wp2_with fail
      go_ret
      exact ⟨_, rfl, HQ.out, G.out⟩
theorem conD_c (p : V → Bool) (bx : Nat) (l : List V) (w : World) (hc : ∀ x ∈ l, ∀ w', Gr w w' → ∀ it nm, R w' x it nm → Calls Try.prog 25 #[av x.h it nm, .pointer (some ⟨bx, 0, none⟩)] w' fun e w'' => e = .returned (.bool (p x)) ∧ Gr w' w'')
    (it : Value) (hl : Ro w l it) : Calls Try.prog 15 #[it, .func (.func 25) #[] #[.pointer (some ⟨bx, 0, none⟩)]] w fun e w' => e = .returned (.bool (l.any p)) ∧ Gr w w' := by
  have HC := Lib.hid (idxD_c p bx l w hc it hl)
  obtain ⟨al, cl, rfl, -, -⟩ := id hl
  clear hc hl
  go_enter Try.func15, Try.ntmps15
  go_wp2_with fail
  refine HC.out.mono ?_
  rintro e w1 ⟨k, rfl, hk, g⟩
  have HK := Lib.hid hk
  clear hk
  go_wp2_with fail
  go_ret
  exact ⟨retB HK.out, g⟩
theorem same_c (a b : V) (w : World) (it nm it' nm' : Value) (ha : R w a it nm) (hb : R w b it' nm') : Calls Try.prog 10 #[av a.h it nm, av b.h it' nm'] w fun e w' => e = .returned (.bool (ord a b == 0)) ∧ Gr w w' := by
  obtain ⟨ai, ci, an, cn, rfl, rfl⟩ := r_slices ha
  obtain ⟨ai', ci', an', cn', rfl, rfl⟩ := r_slices hb
  have HC := Lib.hid fun W (h : Low w W) => order_c a b W _ _ _ _ (ha.low h) (hb.low h)
  generalize ord a b = r at HC ⊢
  have HE := Lib.hid (Gr.alloc (Gr.alloc (Gr.refl w) _) _ : Gr w ((w.alloc (.cells #[.int .i64 a.h.k, .bool a.h.b, .int .i64 a.h.n, .string a.h.s, .string a.h.t, .string a.h.i, .slice ai a.l.length ci, .slice an a.ns.length cn] 29)).alloc (.cells #[.int .i64 b.h.k, .bool b.h.b, .int .i64 b.h.n, .string b.h.s, .string b.h.t, .string b.h.i, .slice ai' b.l.length ci', .slice an' b.ns.length cn'] 29)))
  clear ha hb
  unfold av at *
  go_enter Try.func10, Try.ntmps10
  go_wp2_with fail
  refine (HC.out _ HE.out.low).mono ?_
  rintro e w1 ⟨rfl, g⟩
  go_wp2_with fail
  go_ret
  exact ⟨rfl, HE.out.trans g⟩
set_option maxHeartbeats 800000 in
theorem holdsC_c (a b : V) (bx : Nat) (w : World) (it nm it' nm' : Value) (ha : R w a it nm) (hb : R w b it' nm') (hc : CellsAt w bx 0 (hdc b.h it' nm')) :
    Calls Try.prog 16 #[av a.h it nm, .pointer (some ⟨bx, 0, none⟩)] w fun e w' => e = .returned (.bool (ord a b == 0)) ∧ Gr w w' := by
  obtain ⟨ai, ci, an, cn, rfl, rfl⟩ := r_slices ha
  obtain ⟨ai', ci', an', cn', rfl, rfl⟩ := r_slices hb
  have HC := Lib.hid fun W (h : Low w W) => same_c a b W _ _ _ _ (ha.low h) (hb.low h)
  generalize (ord a b == 0) = r at HC ⊢
  have HE := Lib.hid (Gr.alloc (Gr.refl w) _ : Gr w (w.alloc (.cells #[.int .i64 a.h.k, .bool a.h.b, .int .i64 a.h.n, .string a.h.s, .string a.h.t, .string a.h.i, .slice ai a.l.length ci, .slice an a.ns.length cn] 29)))
  obtain ⟨e0, e1, e2, e3, e4, e5, e6, e7⟩ := cells8a hc
  simp only [Nat.zero_add] at e1 e2 e3 e4 e5 e6 e7
  clear ha hb hc
  unfold av at *
  go_enter Try.func16, Try.ntmps16
  go_wp2_with fail
  refine (HC.out _ HE.out.low).mono ?_
  rintro e w1 ⟨rfl, g⟩
  go_wp2_with fail
  go_ret
  exact ⟨rfl, HE.out.trans g⟩
/-- Does a set hold a value? -/
def holdsB (s x : V) : Bool := s.h.k == 5 && s.l.any fun y => ord y x == 0
set_option maxHeartbeats 1600000 in
theorem holds_c (a b : V) (w : World) (it nm it' nm' : Value) (ha : R w a it nm) (hb : R w b it' nm') : Calls Try.prog 8 #[av a.h it nm, av b.h it' nm'] w fun e w' => e = .returned (.bool (holdsB a b)) ∧ Gr w w' := by
  obtain ⟨ai, ci, an, cn, rfl, rfl⟩ := r_slices ha
  obtain ⟨ai', ci', an', cn', rfl, rfl⟩ := r_slices hb
  have HE := Lib.hid (Gr.alloc (Gr.alloc (Gr.refl w) _) _ : Gr w ((w.alloc (.cells #[.int .i64 a.h.k, .bool a.h.b, .int .i64 a.h.n, .string a.h.s, .string a.h.t, .string a.h.i, .slice ai a.l.length ci, .slice an a.ns.length cn] 29)).alloc (.cells #[.int .i64 b.h.k, .bool b.h.b, .int .i64 b.h.n, .string b.h.s, .string b.h.t, .string b.h.i, .slice ai' b.l.length ci', .slice an' b.ns.length cn'] 29)))
  by_cases hk : a.h.k = 5
  · have hq : holdsB a b = a.l.any fun y => ord y b == 0 := by unfold holdsB; rw [hk]; rfl
    rw [hq]
    obtain ⟨W, hW⟩ : ∃ W, W = (w.alloc (.cells #[.int .i64 a.h.k, .bool a.h.b, .int .i64 a.h.n, .string a.h.s, .string a.h.t, .string a.h.i, .slice ai a.l.length ci, .slice an a.ns.length cn] 29)).alloc (.cells #[.int .i64 b.h.k, .bool b.h.b, .int .i64 b.h.n, .string b.h.s, .string b.h.t, .string b.h.i, .slice ai' b.l.length ci', .slice an' b.ns.length cn'] 29) := ⟨_, rfl⟩
    have hgw : Gr w W := hW ▸ HE.out
    have hbx : CellsAt W (w.heap.size + 1) 0 (hdc b.h (.slice ai' b.l.length ci') (.slice an' b.ns.length cn')) := by
      have hx := cells_box (h := b.h) (it := .slice ai' b.l.length ci') (nm := .slice an' b.ns.length cn') (w := (w.alloc (.cells #[.int .i64 a.h.k, .bool a.h.b, .int .i64 a.h.n, .string a.h.s, .string a.h.t, .string a.h.i, .slice ai a.l.length ci, .slice an a.ns.length cn] 29))) (t := 29) (hW ▸ Gr.refl _ : Gr _ W)
      rwa [show (w.alloc (.cells #[.int .i64 a.h.k, .bool a.h.b, .int .i64 a.h.n, .string a.h.s, .string a.h.t, .string a.h.i, .slice ai a.l.length ci, .slice an a.ns.length cn] 29)).heap.size = w.heap.size + 1 by simp] at hx
    have HC := Lib.hid (conH_c (fun y => ord y b == 0) (w.heap.size + 1) a.l W (fun x _ w' h it nm hr => holdsC_c x b _ w' it nm _ _ hr ((hb.low hgw.low).low h.low) (h.low.cells hbx)) _ (((rep_v.1 ha).2.2 : Ro w a.l _).low hgw.low))
    clear hq hbx hgw ha hb
    generalize (a.l.any fun y => ord y b == 0) = r at HC ⊢
    rw [hW] at HC
    clear hW
    unfold av
    rw [hk] at HE HC
    rw [hk]
    go_enter Try.func8, Try.ntmps8
    go_wp2_with fail
    refine HC.out.mono ?_
    rintro e w1 ⟨rfl, g⟩
    go_wp2_with fail
    go_ret
    exact ⟨rfl, HE.out.trans g⟩
  · have hq : holdsB a b = false := by unfold holdsB; simp [hk]
    rw [hq]
    clear ha hb hq
    unfold av
    go_enter Try.func8, Try.ntmps8
    go_wp2_with fail
    go_ret
    exact ⟨rfl, HE.out⟩
end Go.Proofs.Ytdblkjcimegoeaa
