/- Same, Holds, and what looks for an item. No condition. The reference's Whole tells whether two values are the same. No condition. The reference's Whole tells whether two values are the same. No condition. -/
import Derived.Test.YtmkillbanmbafaaGreatRefs
namespace Go.Proofs.YtmkillbanmbafaaGreat
open Go.RowKit Go.Sort
theorem retB {a b : Bool} (h : a = b) : Ending.returned (.bool a) = .returned (.bool b) := by rw [h]
theorem cells_box {w W : World} {h : Hd} {it nm : Value} {t : TypeId} (g : Gr (w.alloc (.cells #[.int .i64 h.k, .bool h.b, .int .i64 h.n, .string h.s, .string h.t, .string h.i, it, nm] t)) W) : CellsAt W w.heap.size 0 (hdc h it nm) := fun j v hv => by
  rw [Nat.zero_add]
  exact gr_cells g (by simpa [hdc] using hv)
/-- What IndexFunc answers: where, or below 0. -/
def IdxP (p : V → Bool) (l : List V) (w : World) (e : Ending) (w' : World) : Prop := ∃ k : Int, e = .returned (.int .i64 k) ∧ decide (0 ≤ k) = l.any p ∧ Gr w w'
set_option maxHeartbeats 1600000 in
theorem idxD_c (p : V → Bool) (bx : Nat) (l : List V) (w : World) (hc : ∀ x ∈ l, ∀ w', Gr w w' → ∀ it nm, R w' x it nm → Calls Tryz.prog 78 #[av x.h it nm, .pointer (some ⟨bx, 0, none⟩)] w' fun e w'' => e = .returned (.bool (p x)) ∧ Gr w' w'')
    (it : Value) (hl : Ro w l it) : Calls Tryz.prog 104 #[it, .func (.func 78) #[] #[.pointer (some ⟨bx, 0, none⟩)]] w (IdxP p l w) := by
  obtain ⟨al, cl, rfl, ⟨zl, zl'⟩, -⟩ := id hl
  have HL := Lib.hid hl
  have HI := Lib.hid hc
  clear hl hc
  go_enter Tryz.func104, Tryz.ntmps104
  go_wp2_with fail
  go_loopg [8] l.length (fun gk vi wr => ∃ i : Nat, vi = .int .i64 (i : Int) ∧ i ≤ l.length ∧ l.length - i ≤ gk ∧ Hid (Gr w wr) ∧ Hid (l.any p = (l.drop i).any p))
  case atStart => exact ⟨0, rfl, Nat.zero_le _, Nat.le_refl _, Lib.hid (Gr.refl _), rfl⟩
  case round =>
    obtain ⟨i, rfl, hi, hg, G, K⟩ := hrel
    by_cases hlt : i < l.length
    · have z1 : (i : Int) < (l.length : Int) := by omega
      obtain ⟨b, o, ai, ci, an, cn, rfl, hcs, hrx⟩ := ro_at (HL.out.low G.out.low) hlt
      obtain ⟨e0, e1, e2, e3, e4, e5, e6, e7⟩ := cells8 hcs
      have hcon := HI.out l[i] (List.getElem_mem hlt) wr G.out _ _ hrx
      have hst : l.any p = (p l[i] || (l.drop (i + 1)).any p) := by rw [K.out, drop_cons hlt, List.any_cons]
      generalize p l[i] = c at hcon hst
      have HC := Lib.hid hcon
      have HS := Lib.hid hst
      clear hcon hst hcs hrx
      go_wp2_with fail
      refine HC.out.mono ?_
      rintro e w1 ⟨rfl, g⟩
      cases c with
      | true =>
        have HQ := Lib.hid (show decide ((0 : Int) ≤ (i : Int)) = l.any p by rw [HS.out]; simp)
        go_wp2_with fail
        go_ret
        exact ⟨_, rfl, HQ.out, G.out.trans g⟩
      | false =>
        have HS' : Hid (l.any p = (l.drop (i + 1)).any p) := by show _ = _; rw [HS.out]; rfl
        go_wp2_with fail
        go_roundg (l.length - (i + 1))
        case measure => omega
        case rel => exact ⟨i + 1, by go_num, by omega, by omega, Lib.hid (G.out.trans g), HS'⟩
    · have z1 : ¬ (i : Int) < (l.length : Int) := by omega
      have HQ := Lib.hid (show decide ((0 : Int) ≤ -1) = l.any p by rw [K.out, List.drop_eq_nil_of_le (show l.length ≤ i by omega)]; rfl)
      go_wp2_with fail
      go_ret
      exact ⟨_, rfl, HQ.out, G.out⟩
theorem conD_c (p : V → Bool) (bx : Nat) (l : List V) (w : World) (hc : ∀ x ∈ l, ∀ w', Gr w w' → ∀ it nm, R w' x it nm → Calls Tryz.prog 78 #[av x.h it nm, .pointer (some ⟨bx, 0, none⟩)] w' fun e w'' => e = .returned (.bool (p x)) ∧ Gr w' w'')
    (it : Value) (hl : Ro w l it) : Calls Tryz.prog 76 #[it, .func (.func 78) #[] #[.pointer (some ⟨bx, 0, none⟩)]] w fun e w' => e = .returned (.bool (l.any p)) ∧ Gr w w' := by
  have HC := Lib.hid (idxD_c p bx l w hc it hl)
  obtain ⟨al, cl, rfl, -, -⟩ := id hl
  clear hc hl
  go_enter Tryz.func76, Tryz.ntmps76
  go_wp2_with fail
  refine HC.out.mono ?_
  rintro e w1 ⟨k, rfl, hk, g⟩
  have HK := Lib.hid hk
  clear hk
  go_wp2_with fail
  go_ret
  exact ⟨retB HK.out, g⟩
theorem same_c (a b : V) (w : World) (it nm it' nm' : Value) (ha : R w a it nm) (hb : R w b it' nm') : Calls Tryz.prog 108 #[av a.h it nm, av b.h it' nm'] w fun e w' => e = .returned (.bool (ord a b == 0)) ∧ Gr w w' := by
  obtain ⟨ai, ci, an, cn, rfl, rfl⟩ := r_slices ha
  obtain ⟨ai', ci', an', cn', rfl, rfl⟩ := r_slices hb
  have HC := Lib.hid fun W (h : Low w W) => order_c a b W _ _ _ _ (ha.low h) (hb.low h)
  generalize ord a b = r at HC ⊢
  have HE := Lib.hid (Gr.alloc (Gr.alloc (Gr.refl w) _) _ : Gr w ((w.alloc (.cells #[.int .i64 a.h.k, .bool a.h.b, .int .i64 a.h.n, .string a.h.s, .string a.h.t, .string a.h.i, .slice ai a.l.length ci, .slice an a.ns.length cn] 37)).alloc (.cells #[.int .i64 b.h.k, .bool b.h.b, .int .i64 b.h.n, .string b.h.s, .string b.h.t, .string b.h.i, .slice ai' b.l.length ci', .slice an' b.ns.length cn'] 37)))
  clear ha hb
  unfold av at *
  go_enter Tryz.func108, Tryz.ntmps108
  go_wp2_with fail
  refine (HC.out _ HE.out.low).mono ?_
  rintro e w1 ⟨rfl, g⟩
  go_wp2_with fail
  go_ret
  exact ⟨rfl, HE.out.trans g⟩
/-- Does a set hold a value? -/
def holdsB (s x : V) : Bool := s.h.k == 5 && s.l.any fun y => ord y x == 0
end Go.Proofs.YtmkillbanmbafaaGreat
namespace Go.Proofs.YtmkillbanmbafaaGreat
open Go.RowKit Go.Sort Go.WideShapes
/-- Are two the same? -/
noncomputable def eqB (a b : V) : Bool := @decide (a = b) (Classical.propDecidable _)
theorem eqB_true {a b : V} (h : a = b) : true = eqB a b := (@decide_eq_true _ (Classical.propDecidable _) h).symm
theorem eqB_false {a b : V} (h : ¬ a = b) : false = eqB a b := (@decide_eq_false _ (Classical.propDecidable _) h).symm
theorem eqB_t {a b : V} (h : eqB a b = true) : a = b := @of_decide_eq_true _ (Classical.propDecidable _) h
theorem eqB_f {a b : V} (h : eqB a b = false) : ¬ a = b := @of_decide_eq_false _ (Classical.propDecidable _) h
theorem tl_inj {s t : ByteArray} : s.toList = t.toList ↔ s = t := by
  rw [ByteArray.toList_eq, ByteArray.toList_eq]
  exact ⟨bytes_inj, fun h => by rw [h]⟩
/-- What Whole answers. -/
def WhC (a b : V) : Prop := ∀ (w : World) (it nm it' nm' : Value), R w a it nm → R w b it' nm' →
  Calls Tryz.prog 27 #[av a.h it nm, av b.h it' nm'] w fun e w' => e = .returned (.bool (eqB a b)) ∧ Gr w w'
set_option maxHeartbeats 1600000 in
set_option maxRecDepth 100000 in
theorem whole_no (k n k' n' : Int) (b b' : Bool) (s t i s' t' i' : ByteArray) (w : World) (ai ai' an an' : Option Addr) (ci ci' cn cn' ll ll' nn nn' : Nat)
    (hne : ¬ (k = k' ∧ b = b' ∧ n = n' ∧ s.toList = s'.toList ∧ t.toList = t'.toList ∧ i.toList = i'.toList ∧ ll = ll' ∧ nn = nn')) :
    Calls Tryz.prog 27 #[.agg #[.int .i64 k, .bool b, .int .i64 n, .string s, .string t, .string i, .slice ai ll ci, .slice an nn cn], .agg #[.int .i64 k', .bool b', .int .i64 n', .string s', .string t', .string i', .slice ai' ll' ci', .slice an' nn' cn']] w fun e w' => e = .returned (.bool false) ∧ Gr w w' := by
  have HN := Lib.hid hne
  clear hne
  go_enter Tryz.func27, Tryz.ntmps27
  go_wp2_with fail
  all_goals first
    | (go_ret
       exact ⟨rfl, Gr.alloc (Gr.alloc (Gr.refl w) _) _⟩)
    | (exfalso
       have hn := HN.out
       clear HN
       simp_all
       done)
    | (exfalso
       have hn := HN.out
       clear HN
       simp_all
       omega)
end Go.Proofs.YtmkillbanmbafaaGreat
namespace Go.Proofs.YtmkillbanmbafaaGreat
open Go.RowKit Go.Sort
set_option maxHeartbeats 4000000 in
set_option maxRecDepth 100000 in
theorem whole_yes (k n : Int) (b : Bool) (s t i : ByteArray) (l l' : List V) (ns ns' : List ByteArray) (ih : ∀ x ∈ l, ∀ y ∈ l', WhC x y) (w : World) (ai ai' an an' : Option Addr) (ci ci' cn cn' : Nat)
    (hl : l'.length = l.length) (hn : ns'.length = ns.length) (ra : Ro w l (.slice ai l.length ci)) (rb : Ro w l' (.slice ai' l.length ci')) (na : Na w ns (.slice an ns.length cn)) (nb : Na w ns' (.slice an' ns.length cn')) :
    Calls Tryz.prog 27 #[.agg #[.int .i64 k, .bool b, .int .i64 n, .string s, .string t, .string i, .slice ai l.length ci, .slice an ns.length cn], .agg #[.int .i64 k, .bool b, .int .i64 n, .string s, .string t, .string i, .slice ai' l.length ci', .slice an' ns.length cn']] w
      fun e w' => e = .returned (.bool (eqB (.mk ⟨k, b, n, s, t, i⟩ l ns) (.mk ⟨k, b, n, s, t, i⟩ l' ns'))) ∧ Gr w w' := by
  have HI := Lib.hid ih
  have HL := Lib.hid hl
  have HN := Lib.hid hn
  have RA := Lib.hid ra
  have RB := Lib.hid rb
  have NA := Lib.hid na
  have NB := Lib.hid nb
  have el : l.length ≤ 9223372036854775807 := by obtain ⟨_, _, h, h1, _⟩ := ra; simp only [Value.slice.injEq] at h; omega
  have en : ns.length ≤ 9223372036854775807 := by obtain ⟨_, _, h, h1, _⟩ := na; exact h1
  have C1 : Hid (∀ j (h1 : j < l.length) (h2 : j < l'.length), l[j] ≠ l'[j] → false = eqB (.mk ⟨k, b, n, s, t, i⟩ l ns) (.mk ⟨k, b, n, s, t, i⟩ l' ns')) := Lib.hid fun j h1 h2 h => eqB_false fun e => by
    injection e with e1 e2 e3; subst e2; exact h rfl
  have C2 : Hid (∀ j (h1 : j < ns.length) (h2 : j < ns'.length), ns[j] ≠ ns'[j] → false = eqB (.mk ⟨k, b, n, s, t, i⟩ l ns) (.mk ⟨k, b, n, s, t, i⟩ l' ns')) := Lib.hid fun j h1 h2 h => eqB_false fun e => by
    injection e with e1 e2 e3; subst e3; exact h rfl
  have C3 : Hid (ns = ns' → l = l' → true = eqB (.mk ⟨k, b, n, s, t, i⟩ l ns) (.mk ⟨k, b, n, s, t, i⟩ l' ns')) := Lib.hid fun h1 h2 => eqB_true (by rw [h1, h2])
  generalize eqB (.mk ⟨k, b, n, s, t, i⟩ l ns) (.mk ⟨k, b, n, s, t, i⟩ l' ns') = q at C1 C2 C3 ⊢
  clear ih hl hn ra rb na nb
  go_enter Tryz.func27, Tryz.ntmps27
  go_wp2_with fail
  go_loopg [5] ns.length (fun gk vi wr => ∃ j : Nat, vi = .int .i64 (j : Int) ∧ j ≤ ns.length ∧ ns.length - j ≤ gk ∧ Hid (Gr ((w.alloc (.cells #[.int .i64 k, .bool b, .int .i64 n, .string s, .string t, .string i, .slice ai l.length ci, .slice an ns.length cn] 37)).alloc (.cells #[.int .i64 k, .bool b, .int .i64 n, .string s, .string t, .string i, .slice ai' l.length ci', .slice an' ns.length cn'] 37)) wr) ∧ Hid (∀ x (h1 : x < ns.length) (h2 : x < ns'.length), x < j → ns[x] = ns'[x]))
  case atStart => exact ⟨0, rfl, Nat.zero_le _, Nat.le_refl _, Lib.hid (Gr.refl _), Lib.hid fun x h1 h2 h => absurd h (Nat.not_lt_zero _)⟩
  case round =>
    obtain ⟨j, rfl, hj, hg, G, Q⟩ := hrel
    have f7 := (gr_box ((Gr.alloc (Gr.refl _) (.cells #[.int .i64 k, .bool b, .int .i64 n, .string s, .string t, .string i, .slice ai' l.length ci', .slice an' ns.length cn'] 37)).trans G.out)).2.2.2.2.2.2.2
    have g7 := (gr_box G.out).2.2.2.2.2.2.2
    rw [show (w.alloc (.cells #[.int .i64 k, .bool b, .int .i64 n, .string s, .string t, .string i, .slice ai l.length ci, .slice an ns.length cn] 37)).heap.size = w.heap.size + 1 by simp] at g7
    have GT := Lib.hid fun (W' : World) (h : Gr ((w.alloc (.cells #[.int .i64 k, .bool b, .int .i64 n, .string s, .string t, .string i, .slice ai l.length ci, .slice an ns.length cn] 37)).alloc (.cells #[.int .i64 k, .bool b, .int .i64 n, .string s, .string t, .string i, .slice ai' l.length ci', .slice an' ns.length cn'] 37)) W') => (Gr.alloc (Gr.alloc (Gr.refl w) _) _ : Gr w ((w.alloc (.cells #[.int .i64 k, .bool b, .int .i64 n, .string s, .string t, .string i, .slice ai l.length ci, .slice an ns.length cn] 37)).alloc (.cells #[.int .i64 k, .bool b, .int .i64 n, .string s, .string t, .string i, .slice ai' l.length ci', .slice an' ns.length cn'] 37))).trans h
    have G0 := Lib.hid (GT.out _ G.out)
    by_cases hlt : j < ns.length
    · have z1 : (j : Int) < (ns.length : Int) := by omega
      have hlt' : j < ns'.length := by have := HN.out; omega
      obtain ⟨x, o, rfl, hc, -⟩ := na_at (NA.out.low G0.out.low) hlt
      obtain ⟨x', o', rfl, hc', -⟩ := na_at (NB.out.low G0.out.low) hlt'
      by_cases he : ns[j] = ns'[j]
      · rw [← he] at hc'
        have HE := Lib.hid he
        clear he
        go_wp2_with fail
        go_quiet (fail)
        go_wp2_with fail
        go_roundg (ns.length - (j + 1))
        case measure => omega
        case rel =>
          refine ⟨j + 1, by go_num, by omega, by omega, Lib.hid (G.out.drewN _), Lib.hid fun x h1 h2 h => ?_⟩
          rcases Nat.lt_succ_iff_lt_or_eq.1 h with h | rfl
          · exact Q.out x h1 h2 h
          · exact HE.out
      · have hq := C2.out j hlt hlt' he
        have HQ := Lib.hid hq
        have he2 : ¬ ns[j].toList = ns'[j].toList := fun h => he (tl_inj.1 h)
        clear hq he
        go_wp2_with fail
        go_quiet (fail)
        go_wp2_with fail
        all_goals first
          | (go_ret
             exact ⟨retB HQ.out, G0.out.drewN _⟩)
          | (exfalso; simp_all; done)
    · have z1 : ¬ (j : Int) < (ns.length : Int) := by omega
      have QN := Lib.hid (show ns = ns' from List.ext_getElem HN.out.symm fun x h1 h2 => Q.out x h1 h2 (by omega))
      go_wp2_with fail
      go_loopg [6] l.length (fun gk vi wr => ∃ j : Nat, vi = .int .i64 (j : Int) ∧ j ≤ l.length ∧ l.length - j ≤ gk ∧ Hid (Gr ((w.alloc (.cells #[.int .i64 k, .bool b, .int .i64 n, .string s, .string t, .string i, .slice ai l.length ci, .slice an ns.length cn] 37)).alloc (.cells #[.int .i64 k, .bool b, .int .i64 n, .string s, .string t, .string i, .slice ai' l.length ci', .slice an' ns.length cn'] 37)) wr) ∧ Hid (∀ x (h1 : x < l.length) (h2 : x < l'.length), x < j → l[x] = l'[x]))
      case atStart => exact ⟨0, rfl, Nat.zero_le _, Nat.le_refl _, G, Lib.hid fun x h1 h2 h => absurd h (Nat.not_lt_zero _)⟩
      case round =>
        clear f7 g7 G0 G
        obtain ⟨j, rfl, hj, hg, G, Q⟩ := hrel
        have f6 := (gr_box ((Gr.alloc (Gr.refl _) (.cells #[.int .i64 k, .bool b, .int .i64 n, .string s, .string t, .string i, .slice ai' l.length ci', .slice an' ns.length cn'] 37)).trans G.out)).2.2.2.2.2.2.1
        have g6 := (gr_box G.out).2.2.2.2.2.2.1
        rw [show (w.alloc (.cells #[.int .i64 k, .bool b, .int .i64 n, .string s, .string t, .string i, .slice ai l.length ci, .slice an ns.length cn] 37)).heap.size = w.heap.size + 1 by simp] at g6
        have G0 := Lib.hid (GT.out _ G.out)
        by_cases hlt : j < l.length
        · have z1 : (j : Int) < (l.length : Int) := by omega
          have hlt' : j < l'.length := by have := HL.out; omega
          obtain ⟨x, o, aj, cj, bj, dj, rfl, hcs, hrx⟩ := ro_at (RA.out.low G0.out.low) hlt
          obtain ⟨e0, e1, e2, e3, e4, e5, e6, e7⟩ := cells8 hcs
          obtain ⟨x', o', aj', cj', bj', dj', rfl, hcs', hrx'⟩ := ro_at (RB.out.low G0.out.low) hlt'
          obtain ⟨d0, d1, d2, d3, d4, d5, d6, d7⟩ := cells8 hcs'
          have hcon := HI.out l[j] (List.getElem_mem hlt) l'[j] (List.getElem_mem hlt')
          have hst : ∃ c, c = eqB l[j] l'[j] ∧ (c = true → l[j] = l'[j]) ∧ (c = false → false = q) := ⟨_, rfl, eqB_t, fun h => C1.out j hlt hlt' (eqB_f h)⟩
          obtain ⟨c, hc, hc1, hc2⟩ := hst
          unfold WhC at hcon
          rw [← hc] at hcon
          have HC := Lib.hid hcon
          have HRX := Lib.hid hrx
          have HRX' := Lib.hid hrx'
          have K1 := Lib.hid hc1
          have K2 := Lib.hid hc2
          have G1 := Lib.hid G.out.drew
          clear hcon hcs hcs' hrx hrx' hc hc1 hc2
          go_wp2_with fail
          go_region_held3 (fun w' => w'.cell? ⟨w.heap.size, 6, none⟩ = some (.slice (some ⟨x, o, none⟩) l.length ci) ∧ w'.cell? ⟨w.heap.size + 1, 6, none⟩ = some (.slice (some ⟨x', o', none⟩) l.length ci') ∧ w'.cell? ⟨x, o + j * 8, none⟩ = some (.int .i64 l[j].h.k) ∧ w'.cell? ⟨x, o + j * 8 + 1, none⟩ = some (.bool l[j].h.b) ∧ w'.cell? ⟨x, o + j * 8 + 2, none⟩ = some (.int .i64 l[j].h.n) ∧ w'.cell? ⟨x, o + j * 8 + 3, none⟩ = some (.string l[j].h.s) ∧ w'.cell? ⟨x, o + j * 8 + 4, none⟩ = some (.string l[j].h.t) ∧ w'.cell? ⟨x, o + j * 8 + 5, none⟩ = some (.string l[j].h.i) ∧ w'.cell? ⟨x, o + j * 8 + 6, none⟩ = some (.slice aj l[j].l.length cj) ∧ w'.cell? ⟨x, o + j * 8 + 7, none⟩ = some (.slice bj l[j].ns.length dj) ∧ w'.cell? ⟨x', o' + j * 8, none⟩ = some (.int .i64 l'[j].h.k) ∧ w'.cell? ⟨x', o' + j * 8 + 1, none⟩ = some (.bool l'[j].h.b) ∧ w'.cell? ⟨x', o' + j * 8 + 2, none⟩ = some (.int .i64 l'[j].h.n) ∧ w'.cell? ⟨x', o' + j * 8 + 3, none⟩ = some (.string l'[j].h.s) ∧ w'.cell? ⟨x', o' + j * 8 + 4, none⟩ = some (.string l'[j].h.t) ∧ w'.cell? ⟨x', o' + j * 8 + 5, none⟩ = some (.string l'[j].h.i) ∧ w'.cell? ⟨x', o' + j * 8 + 6, none⟩ = some (.slice aj' l'[j].l.length cj') ∧ w'.cell? ⟨x', o' + j * 8 + 7, none⟩ = some (.slice bj' l'[j].ns.length dj')) (go_keep) (first
            | (go_at_call 27; refine (HC.out _ _ _ _ _ (HRX.out.low (Gr.refl _).drew.low) (HRX'.out.low (Gr.refl _).drew.low)).mono ?_; rintro e w1 ⟨rfl, g⟩; have f6 := g.cell f6; have g6 := g.cell g6; have e0 := g.cell e0; have d0 := g.cell d0; have e1 := g.cell e1; have d1 := g.cell d1; have e2 := g.cell e2; have d2 := g.cell d2; have e3 := g.cell e3; have d3 := g.cell d3; have e4 := g.cell e4; have d4 := g.cell d4; have e5 := g.cell e5; have d5 := g.cell d5; have e6 := g.cell e6; have d6 := g.cell d6; have e7 := g.cell e7; have d7 := g.cell d7; have G2 := Lib.hid (G1.out.trans g)))
          all_goals
            cases c with
            | true =>
              go_wp2_with fail
              go_roundg (l.length - (j + 1))
              case measure => omega
              case rel =>
                refine ⟨j + 1, by go_num, by omega, by omega, G2, Lib.hid fun x h1 h2 h => ?_⟩
                rcases Nat.lt_succ_iff_lt_or_eq.1 h with h | rfl
                · exact Q.out x h1 h2 h
                · exact K1.out (by first | rfl | trivial)
            | false =>
              go_wp2_with fail
              go_ret
              exact ⟨retB (K2.out (by first | rfl | trivial)), GT.out _ G2.out⟩
        · have z1 : ¬ (j : Int) < (l.length : Int) := by omega
          have HQ := Lib.hid (C3.out QN.out (List.ext_getElem HL.out.symm fun x h1 h2 => Q.out x h1 h2 (by omega)))
          go_wp2_with fail
          go_ret
          exact ⟨retB HQ.out, G0.out⟩
theorem whole_n (d : Nat) : ∀ a b : V, dep a ≤ d → WhC a b := by
  induction d with
  | zero => intro a b h; rw [dep_v] at h; omega
  | succ d ih =>
    intro a b hd w it nm it' nm' ha hb
    obtain ⟨ai, ci, an, cn, rfl, rfl⟩ := r_slices ha
    obtain ⟨ai', ci', an', cn', rfl, rfl⟩ := r_slices hb
    have ih' : ∀ x ∈ a.l, ∀ y ∈ b.l, WhC x y := fun x hx y _ => ih x y (by have := dep_mem hx; rw [dep_v] at hd; omega)
    by_cases he : a.h.k = b.h.k ∧ a.h.b = b.h.b ∧ a.h.n = b.h.n ∧ a.h.s.toList = b.h.s.toList ∧ a.h.t.toList = b.h.t.toList ∧ a.h.i.toList = b.h.i.toList ∧ a.l.length = b.l.length ∧ a.ns.length = b.ns.length
    · obtain ⟨e1, e2, e3, e4, e5, e6, e7, e8⟩ := he
      rw [tl_inj] at e4 e5 e6
      have ra : Ro w a.l (.slice ai a.l.length ci) := (rep_v.1 ha).2.2
      have rb : Ro w b.l (.slice ai' b.l.length ci') := (rep_v.1 hb).2.2
      have na : Na w a.ns (.slice an a.ns.length cn) := (rep_v.1 ha).2.1
      have nb : Na w b.ns (.slice an' b.ns.length cn') := (rep_v.1 hb).2.1
      rw [← e7] at rb
      rw [← e8] at nb
      have h := whole_yes a.h.k a.h.n a.h.b a.h.s a.h.t a.h.i a.l b.l a.ns b.ns ih' w ai ai' an an' ci ci' cn cn' e7.symm e8.symm ra rb na nb
      have eb : b = .mk ⟨a.h.k, a.h.b, a.h.n, a.h.s, a.h.t, a.h.i⟩ b.l b.ns := by rw [e1, e2, e3, e4, e5, e6]; exact b.eta
      rw [← eb] at h
      have ea : a = .mk ⟨a.h.k, a.h.b, a.h.n, a.h.s, a.h.t, a.h.i⟩ a.l a.ns := a.eta
      rw [← ea] at h
      unfold av
      rw [← e1, ← e2, ← e3, ← e4, ← e5, ← e6, ← e7, ← e8]
      exact h
    · have h := whole_no a.h.k a.h.n b.h.k b.h.n a.h.b b.h.b a.h.s a.h.t a.h.i b.h.s b.h.t b.h.i w ai ai' an an' ci ci' cn cn' a.l.length b.l.length a.ns.length b.ns.length he
      have eq : false = eqB a b := eqB_false fun e => he (by rw [e]; exact ⟨rfl, rfl, rfl, rfl, rfl, rfl, rfl, rfl⟩)
      rw [← eq]
      exact h
theorem whole_c (a b : V) : WhC a b := whole_n (dep a) a b (Nat.le_refl _)
end Go.Proofs.YtmkillbanmbafaaGreat
