/- few, size, the reference's Depth: of whatever tree of kids. Condition: as said. -/
import Derived.Test.YtflpidnkppljlaaDoorExA
set_option linter.unusedVariables false
set_option linter.unnecessarySimpa false
set_option linter.unusedSimpArgs false
namespace Go.Proofs.YtflpidnkppljlaaDoor
open Go.RowKit
set_option maxHeartbeats 3200000 in
theorem rdepth_n8 (N : Nat) (hN : N ≤ 1000000) : ∀ x : Ro, rdep x ≤ N → DepC8 8 x := by
  induction N with
  | zero => intro x h; rw [rdep_v] at h; omega
  | succ N ih =>
    intro x hd w h ka n kc hr
    obtain ⟨rfl, ⟨hlc, hcm⟩, hrow⟩ := kAt_v.1 hr
    have ih' : ∀ y ∈ x.ks, DepC8 8 y := fun y hy => ih (by omega) y (by have := rdep_mem hy; rw [rdep_v] at hd; omega)
    have hb : ∀ i, rdepL (x.ks.take i) ≤ 1000000 := fun i => by have := rdepL_le (l := x.ks) i; rw [rdep_v] at hd; omega
    rw [rdep_v x]
    generalize x.ks = l at *
    have HROW := Lib.hid hrow
    have HI := Lib.hid ih'
    have HB := Lib.hid hb
    clear hr ih ih' hb hd hrow
    go_enter Tryd.func8, Tryd.ntmps8
    go_wp2_with fail
    go_loopg [3, 4] l.length (fun gk vd vi wr => ∃ i : Nat, vd = .int .i64 (rdepL (l.take i) : Int) ∧ vi = .int .i64 (i : Int) ∧ i ≤ l.length ∧ l.length - i ≤ gk ∧ Hid (Low (w.alloc (.cells #[.int .i64 h.op, .int .i64 h.k, .bool h.b, .int .i64 h.n, .string h.s, .string h.t, .string h.i, .slice h.ia h.il h.ic, .slice h.ma h.ml h.mc, .string h.nm, .slice ka l.length kc, .slice h.na h.nl h.nc] 30)) wr))
    case atStart => exact ⟨0, rfl, rfl, Nat.zero_le _, Nat.le_refl _, Lib.hid (Low.refl _)⟩
    case round =>
      obtain ⟨i, rfl, rfl, hi, hg, GB⟩ := hrel
      have G := Lib.hid ((low_new (Low.refl w) _).trans GB.out)
      have bx : wr.cell? ⟨w.heap.size, 10, none⟩ = some (.slice ka l.length kc) := GB.out.keep (by rw [World.cell?_alloc_mark]; rfl)
      by_cases hlt : i < l.length
      · have z1 : (i : Int) < (l.length : Int) := by omega
        obtain ⟨g, o, rfl, hf⟩ : ∃ g o, ka = some ⟨g, o, none⟩ ∧ KRow w g o l := by
          rcases HROW.out with h0 | h0
          · subst h0; simp at hlt
          · exact h0
        obtain ⟨h', ka', n', kc', hc, hk⟩ := kRow_at (KRow.low G.out g l hf) i hlt
        have e0 := hc 0 _ rfl
        have e1 := hc 1 _ rfl
        have e2 := hc 2 _ rfl
        have e3 := hc 3 _ rfl
        have e4 := hc 4 _ rfl
        have e5 := hc 5 _ rfl
        have e6 := hc 6 _ rfl
        have e7 := hc 7 _ rfl
        have e8 := hc 8 _ rfl
        have e9 := hc 9 _ rfl
        have e10 := hc 10 _ rfl
        have e11 := hc 11 _ rfl
        rw [Nat.add_zero] at e0
        have HC := Lib.hid (HI.out l[i] (List.getElem_mem hlt) wr h' ka' n' kc' hk)
        have HT := Lib.hid (rdepL_take hlt)
        have hq1 := HB.out i
        have hq2 := HB.out (i + 1)
        rw [rdepL_take hlt] at hq2
        generalize rdepL (l.take i) = q at *
        generalize rdep l[i] = c at *
        clear hc hk hf
        go_wp2_with fail
        refine (HC.out).mono ?_
        rintro e w2 ⟨rfl, l2⟩
        have G2 := Lib.hid (GB.out.trans l2)
        clear l2 HC e0 e1 e2 e3 e4 e5 e6 e7 e8 e9 e10 e11
        go_wp2_with fail
        all_goals
          go_roundg (l.length - (i + 1))
          case measure => omega
          case rel => exact ⟨i + 1, by rw [HT.out]; congr 1; omega, by go_num, by omega, by omega, G2⟩
      · have z1 : ¬ (i : Int) < (l.length : Int) := by omega
        have hq : l.take i = l := List.take_of_length_le (by omega)
        have hb := HB.out l.length
        rw [List.take_length] at hb
        rw [hq]
        clear hq
        obtain ⟨q, hq⟩ : ∃ q, q = rdepL l := ⟨_, rfl⟩
        rw [← hq] at hb ⊢
        have HQ := Lib.hid hq
        clear hq
        go_wp2_with fail
        go_returns
        exact ⟨retI8 (by have := HQ.out; omega), G.out⟩
theorem rdepth_c8 (x : Ro) (h : rdep x ≤ 1000000) : DepC8 8 x := rdepth_n8 (rdep x) h x (Nat.le_refl _)
def FewP (r D : Nat) (w : World) (e : Ending) (w' : World) : Prop := ∃ b : Bool, e = .returned (.bool b) ∧ (b = true → r + D ≤ 61) ∧ Low w w'
def FewC8 (F : Nat) (D : Nat) : Prop := ∀ (x : Ro) (w : World) (h : Hx) (ka : Option Addr) (n kc : Nat), KAt w x ka n kc → Calls Tryd.prog F #[.agg #[.int .i64 h.op, .int .i64 h.k, .bool h.b, .int .i64 h.n, .string h.s, .string h.t, .string h.i, .slice h.ia h.il h.ic, .slice h.ma h.ml h.mc, .string h.nm, .slice ka n kc, .slice h.na h.nl h.nc], .int .i64 (D : Int)] w (FewP (rdep x) D w)
set_option maxHeartbeats 3200000 in
theorem few_n8 (N : Nat) : ∀ D, D ≤ 61 → 61 - D ≤ N → FewC8 5 D := by
  induction N with
  | zero =>
    intro D h1 h2 x w h ka n kc hr
    obtain rfl : D = 61 := by omega
    obtain ⟨rfl, ⟨hlc, hcm⟩, hrow⟩ := kAt_v.1 hr
    generalize x.ks.length = m at *
    go_enter Tryd.func5, Tryd.ntmps5
    by_cases hm : (20 : Int) < (m : Int)
    · go_wp2_with fail
      refine bodyPost_ret (v := .bool false) (by simp [results, Tryd.results5, go_sem]) rfl ?_
      exact ⟨false, rfl, fun h => by simp at h, low_new (Low.refl w) _⟩
    · go_wp2_with fail
      refine bodyPost_ret (v := .bool false) (by simp [results, Tryd.results5, go_sem]) rfl ?_
      exact ⟨false, rfl, fun h => by simp at h, low_new (Low.refl w) _⟩
  | succ N ih =>
    intro D h1 h2 x w h ka n kc hr
    by_cases hD : D = 61
    · subst hD; exact ih 61 (by omega) (by omega) x w h ka n kc hr
    have hD60 : ¬ (60 : Int) < (D : Int) := by omega
    have hD0 : (D : Int) ≤ 60 := by omega
    have IH := Lib.hid (ih (D + 1) (by omega) (by omega))
    obtain ⟨rfl, ⟨hlc, hcm⟩, hrow⟩ := kAt_v.1 hr
    rw [rdep_v x]
    generalize x.ks = l at *
    have HROW := Lib.hid hrow
    clear hr ih hrow h1 h2 hD
    go_enter Tryd.func5, Tryd.ntmps5
    by_cases hm : (20 : Int) < (l.length : Int)
    · go_wp2_with fail
      refine bodyPost_ret (v := .bool false) (by simp [results, Tryd.results5, go_sem]) rfl ?_
      exact ⟨false, rfl, fun h => by simp at h, low_new (Low.refl w) _⟩
    · go_wp2_with fail
      go_loopg [5, 6] l.length (fun gk vi vb wr => ∃ i : Nat, vi = .int .i64 (i : Int) ∧ i ≤ l.length ∧ l.length - i ≤ gk ∧ Hid (rdepL (l.take i) + D ≤ 60) ∧ Hid (Low (w.alloc (.cells #[.int .i64 h.op, .int .i64 h.k, .bool h.b, .int .i64 h.n, .string h.s, .string h.t, .string h.i, .slice h.ia h.il h.ic, .slice h.ma h.ml h.mc, .string h.nm, .slice ka l.length kc, .slice h.na h.nl h.nc] 30)) wr))
      case atStart => exact ⟨0, rfl, Nat.zero_le _, Nat.le_refl _, Lib.hid (by simp [rdepL]; omega), Lib.hid (Low.refl _)⟩
      case round =>
        obtain ⟨i, rfl, hi, hg, HD, GB⟩ := hrel
        have G := Lib.hid ((low_new (Low.refl w) _).trans GB.out)
        have bx : wr.cell? ⟨w.heap.size, 10, none⟩ = some (.slice ka l.length kc) := GB.out.keep (by rw [World.cell?_alloc_mark]; rfl)
        by_cases hlt : i < l.length
        · have z1 : (i : Int) < (l.length : Int) := by omega
          obtain ⟨g, o, rfl, hf⟩ : ∃ g o, ka = some ⟨g, o, none⟩ ∧ KRow w g o l := by
            rcases HROW.out with h0 | h0
            · subst h0; simp at hlt
            · exact h0
          obtain ⟨h', ka', n', kc', hc, hk⟩ := kRow_at (KRow.low G.out g l hf) i hlt
          have e0 := hc 0 _ rfl
          have e1 := hc 1 _ rfl
          have e2 := hc 2 _ rfl
          have e3 := hc 3 _ rfl
          have e4 := hc 4 _ rfl
          have e5 := hc 5 _ rfl
          have e6 := hc 6 _ rfl
          have e7 := hc 7 _ rfl
          have e8 := hc 8 _ rfl
          have e9 := hc 9 _ rfl
          have e10 := hc 10 _ rfl
          have e11 := hc 11 _ rfl
          rw [Nat.add_zero] at e0
          have HC := Lib.hid (IH.out l[i] wr h' ka' n' kc' hk)
          have HT := Lib.hid (rdepL_take hlt)
          generalize rdep l[i] = c at *
          clear hc hk hf
          go_wp2_with fail
          refine (HC.out).mono ?_
          rintro e w2 ⟨b, rfl, hb, l2⟩
          have G2 := Lib.hid (GB.out.trans l2)
          have HB := Lib.hid hb
          clear l2 hb HC e0 e1 e2 e3 e4 e5 e6 e7 e8 e9 e10 e11
          cases b with
          | true =>
            go_wp2_with fail
            go_roundg (l.length - (i + 1))
            case measure => omega
            case rel => exact ⟨i + 1, by go_num, by omega, by omega, Lib.hid (by rw [HT.out]; have h1 := HB.out trivial; have h2 := HD.out; omega), G2⟩
          | false =>
            go_wp2_with fail
            go_returns
            exact ⟨false, rfl, fun h => (by simp at h), (low_new (Low.refl w) _).trans G2.out⟩
        · have z1 : ¬ (i : Int) < (l.length : Int) := by omega
          have hq : l.take i = l := List.take_of_length_le (by omega)
          have HD2 := Lib.hid (show rdepL l + D ≤ 60 by have := HD.out; rw [hq] at this; exact this)
          clear hq
          go_wp2_with fail
          go_returns
          exact ⟨true, rfl, fun _ => by have := HD2.out; omega, G.out⟩
def SizP (r : Nat) (w : World) (e : Ending) (w' : World) : Prop := ∃ v : Int, e = .returned (.int .i64 v) ∧ 0 ≤ v ∧ v ≤ 1000 * (r : Int) ∧ Low w w'
def SizC8 (F : Nat) (x : Ro) : Prop := ∀ (w : World) (h : Hx) (ka : Option Addr) (n kc : Nat), KAt w x ka n kc → Calls Tryd.prog F #[.agg #[.int .i64 h.op, .int .i64 h.k, .bool h.b, .int .i64 h.n, .string h.s, .string h.t, .string h.i, .slice h.ia h.il h.ic, .slice h.ma h.ml h.mc, .string h.nm, .slice ka n kc, .slice h.na h.nl h.nc]] w (SizP (rdep x) w)
set_option maxHeartbeats 3200000 in
theorem size_n8 (N : Nat) (hN : N ≤ 1000000) : ∀ x : Ro, rdep x ≤ N → SizC8 6 x := by
  induction N with
  | zero => intro x h; rw [rdep_v] at h; omega
  | succ N ih =>
    intro x hd w h ka n kc hr
    obtain ⟨rfl, ⟨hlc, hcm⟩, hrow⟩ := kAt_v.1 hr
    have ih' : ∀ y ∈ x.ks, SizC8 6 y := fun y hy => ih (by omega) y (by have := rdep_mem hy; rw [rdep_v] at hd; omega)
    have hm : ∀ y ∈ x.ks, rdep y ≤ rdepL x.ks := fun y hy => rdep_mem hy
    rw [rdep_v x]
    rw [rdep_v] at hd
    generalize x.ks = l at *
    have HROW := Lib.hid hrow
    have HI := Lib.hid ih'
    have HM := Lib.hid hm
    obtain ⟨r, hr'⟩ : ∃ r, rdepL l = r := ⟨_, rfl⟩
    rw [hr'] at hd ⊢
    have HR := Lib.hid hr'
    have hr6 : r ≤ 1000000 := by omega
    clear hr ih ih' hm hd hrow hr'
    go_enter Tryd.func6, Tryd.ntmps6
    go_wp2_with fail
    go_loopg [3, 4] l.length (fun gk vn vi wr => ∃ (i : Nat) (q : Int), vn = .int .i64 q ∧ vi = .int .i64 (i : Int) ∧ i ≤ l.length ∧ l.length - i ≤ gk ∧ 0 ≤ q ∧ q ≤ 1000 * ((r : Int) + 1) ∧ Hid (Low (w.alloc (.cells #[.int .i64 h.op, .int .i64 h.k, .bool h.b, .int .i64 h.n, .string h.s, .string h.t, .string h.i, .slice h.ia h.il h.ic, .slice h.ma h.ml h.mc, .string h.nm, .slice ka l.length kc, .slice h.na h.nl h.nc] 30)) wr))
    case atStart => exact ⟨0, 1, rfl, rfl, Nat.zero_le _, Nat.le_refl _, by decide, by omega, Lib.hid (Low.refl _)⟩
    case round =>
      obtain ⟨i, q, rfl, rfl, hi, hg, hq0, hq1, GB⟩ := hrel
      have G := Lib.hid ((low_new (Low.refl w) _).trans GB.out)
      have bx : wr.cell? ⟨w.heap.size, 10, none⟩ = some (.slice ka l.length kc) := GB.out.keep (by rw [World.cell?_alloc_mark]; rfl)
      by_cases hlt : i < l.length
      · have z1 : (i : Int) < (l.length : Int) := by omega
        by_cases hq : q < 1000
        · have HQ := Lib.hid (And.intro hq0 hq)
          clear hq1
          obtain ⟨g, o, rfl, hf⟩ : ∃ g o, ka = some ⟨g, o, none⟩ ∧ KRow w g o l := by
            rcases HROW.out with h0 | h0
            · subst h0; simp at hlt
            · exact h0
          obtain ⟨h', ka', n', kc', hc, hk⟩ := kRow_at (KRow.low G.out g l hf) i hlt
          have e0 := hc 0 _ rfl
          have e1 := hc 1 _ rfl
          have e2 := hc 2 _ rfl
          have e3 := hc 3 _ rfl
          have e4 := hc 4 _ rfl
          have e5 := hc 5 _ rfl
          have e6 := hc 6 _ rfl
          have e7 := hc 7 _ rfl
          have e8 := hc 8 _ rfl
          have e9 := hc 9 _ rfl
          have e10 := hc 10 _ rfl
          have e11 := hc 11 _ rfl
          rw [Nat.add_zero] at e0
          have HC := Lib.hid (HI.out l[i] (List.getElem_mem hlt) wr h' ka' n' kc' hk)
          have HT := Lib.hid (show rdep l[i] ≤ r by rw [← HR.out]; exact HM.out _ (List.getElem_mem hlt))
          generalize rdep l[i] = c at *
          clear hc hk hf
          go_wp2_with fail
          refine (HC.out).mono ?_
          rintro e w2 ⟨v, rfl, hv0, hv1, l2⟩
          have G2 := Lib.hid (GB.out.trans l2)
          have HV := Lib.hid (show 0 ≤ q + v ∧ q + v ≤ 1000 * ((r : Int) + 1) by have := HT.out; have := HQ.out; omega)
          have hs1 : -9223372036854775808 ≤ q + v := by omega
          have hs2 : q + v ≤ 9223372036854775807 := by have := HV.out; omega
          clear l2 HC e0 e1 e2 e3 e4 e5 e6 e7 e8 e9 e10 e11
          go_wp2_with fail
          go_roundg (l.length - (i + 1))
          case measure => omega
          case rel => exact ⟨i + 1, q + v, by go_num, by go_num, by omega, by omega, HV.out.1, HV.out.2, G2⟩
        · go_wp2_with fail
          go_returns
          exact ⟨q, rfl, hq0, hq1, G.out⟩
      · have z1 : ¬ (i : Int) < (l.length : Int) := by omega
        go_wp2_with fail
        go_returns
        exact ⟨q, rfl, hq0, hq1, G.out⟩
theorem size_c8 (x : Ro) (h : rdep x ≤ 1000000) : SizC8 6 x := size_n8 (rdep x) h x (Nat.le_refl _)
end Go.Proofs.YtflpidnkppljlaaDoor
