/- The program's Attr: the first attribute of a name. No condition. -/
import Derived.Test.YtjipncpgmajeeaaTyT
namespace Go.Proofs.Ytjipncpgmajeeaa
open Go.RowKit
set_option maxHeartbeats 1600000 in
theorem attrf_c (x : At) (s : ByteArray) (bx : Nat) (w : World) (pe pv : Option Addr) (ce cv : Nat) (hb : w.cell? ⟨bx, 0, none⟩ = some (.string s)) : Calls Try.prog 24 #[.agg #[.string (an x), .int .i64 (aty x).k, .string (aty x).n, .slice pe (aty x).l.length ce, .slice pv (aty x).ats.length cv, .bool (ao x)], .pointer (some ⟨bx, 0, none⟩)] w fun e w' => e = .returned (.bool (decide (an x = s))) ∧ Low w w' := by
  have hb2 := fun X => (low_new (Low.refl w) X).keep hb
  by_cases he : an x = s
  · have HQ := Lib.hid (show true = decide (an x = s) from (decide_eq_true he).symm)
    rw [← he] at hb2
    clear hb he
    go_enter Try.func24, Try.ntmps24
    go_wp2_with fail
    go_ret
    exact ⟨retB HQ.out, low_new (Low.refl w) _⟩
  · have HQ := Lib.hid (show false = decide (an x = s) from (decide_eq_false he).symm)
    have he2 : ¬ (an x).toList = s.toList := fun h => he (tl_inj.1 h)
    have he3 : ((an x).toList == s.toList) = false := by simpa using he2
    clear hb he
    go_enter Try.func24, Try.ntmps24
    go_wp2_with fail
    go_ret
    exact ⟨retB HQ.out, low_new (Low.refl w) _⟩
set_option maxHeartbeats 1600000 in
theorem idxA_c {A : Nat → Prop} {n : Nat} (l : List At) (s : ByteArray) (bx : Nat) (w : World) (v : Value) (h : RAs A w n l v) (hb : w.cell? ⟨bx, 0, none⟩ = some (.string s)) :
    Calls Try.prog 23 #[v, .func (.func 24) #[] #[.pointer (some ⟨bx, 0, none⟩)]] w fun e w' => e = .returned (.int .i64 (atI l s)) ∧ Low w w' := by
  obtain ⟨p, c, rfl, z1, z2⟩ := RowR.sl h
  have HA := Lib.hid h
  have HB := Lib.hid hb
  obtain ⟨r, hr⟩ : ∃ r, r = atI l s := ⟨_, rfl⟩
  have CS := Lib.hid (show ∀ i (hi : i < l.length), an l[i] = s → (∀ j (hj : j < l.length), j < i → an l[j] ≠ s) → (i : Int) = r from fun i hi h1 h2 => by rw [hr, atI_some hi h1 h2])
  have CN := Lib.hid (show (∀ j (hj : j < l.length), an l[j] ≠ s) → -1 = r from fun h2 => by rw [hr, atI_none h2])
  rw [← hr]
  clear h hr hb
  go_enter Try.func23, Try.ntmps23
  go_wp2_with fail
  go_loopg [5, 8] l.length (fun gk vx vi wr => ∃ i : Nat, vi = .int .i64 (i : Int) ∧ i ≤ l.length ∧ l.length - i ≤ gk ∧ Hid (Low w wr) ∧ Hid (∀ j (hj : j < l.length), j < i → an l[j] ≠ s))
  case atStart => exact ⟨0, rfl, Nat.zero_le _, Nat.le_refl _, Lib.hid (Low.refl _), Lib.hid fun j hj h => absurd h (Nat.not_lt_zero _)⟩
  case round =>
    obtain ⟨i, rfl, hi, hg, G, K⟩ := hrel
    by_cases hlt : i < l.length
    · have zl : (i : Int) < (l.length : Int) := by omega
      obtain ⟨b, o, qe, de, qv, dv, rfl, -, e0, e1, e2, e3, e4, e5, es, hx⟩ := RAs.at (RAs.low HA.out G.out) hlt
      have HF := Lib.hid (attrf_c l[i] s bx wr qe qv de dv (G.out.keep HB.out))
      obtain ⟨q, hq⟩ : ∃ q, q = decide (an l[i] = s) := ⟨_, rfl⟩
      rw [← hq] at HF
      have HQ := Lib.hid hq
      clear hx hq
      go_wp2_with fail
      refine HF.out.mono ?_
      rintro e w' ⟨rfl, l1⟩
      have G2 := Lib.hid (G.out.trans l1)
      clear l1 HF
      cases q with
      | true =>
        have HQ2 := Lib.hid (CS.out i hlt (of_decide_eq_true HQ.out.symm) K.out)
        go_wp2_with fail
        go_ret
        exact ⟨retI HQ2.out, G2.out⟩
      | false =>
        go_wp2_with fail
        go_roundg (l.length - (i + 1))
        case measure => omega
        case rel =>
          refine ⟨i + 1, by go_num, by omega, by omega, G2, Lib.hid fun j hj hji => ?_⟩
          rcases Nat.lt_succ_iff_lt_or_eq.1 hji with h | rfl
          · exact K.out j hj h
          · exact of_decide_eq_false HQ.out.symm
    · have zl : ¬ (i : Int) < (l.length : Int) := by omega
      have HQ2 := Lib.hid (CN.out fun j hj => K.out j hj (by omega))
      go_wp2_with fail
      go_ret
      exact ⟨retI HQ2.out, G.out⟩
/-- What Attr tells. -/
def AttrP (l : List At) (s : ByteArray) (w : World) (e : Ending) (w' : World) : Prop :=
  ∃ (x : At) (pe : Option Addr) (ce : Nat) (pv : Option Addr) (cv : Nat) (q : Bool), e = .returned (.tuple #[.agg #[.string (an x), .int .i64 (aty x).k, .string (aty x).n, .slice pe (aty x).l.length ce, .slice pv (aty x).ats.length cv, .bool (ao x)], .bool q]) ∧ Low w w' ∧
    ((q = false ∧ atI l s = -1 ∧ an x = ⟨#[]⟩) ∨ (q = true ∧ ∃ i, ∃ hi : i < l.length, atI l s = (i : Int) ∧ x = l[i] ∧ an l[i] = s))
def noA : At := (⟨#[]⟩, noT, false)
set_option maxHeartbeats 3200000 in
theorem attr_c {A : Nat → Prop} {n : Nat} (l : List At) (s : ByteArray) (w : World) (v : Value) (h : RAs A w n l v) : Calls Try.prog 11 #[v, .string s] w (AttrP l s w) := by
  obtain ⟨p, c, rfl, z1, z2⟩ := RowR.sl h
  obtain ⟨U, hU⟩ : ∃ U, U = (w.alloc (.cells #[.string s] 9)).alloc (.cells #[.string ⟨#[]⟩, .int .i64 0, .string ⟨#[]⟩, .slice none 0 0, .slice none 0 0, .bool false] 30) := ⟨_, rfl⟩
  have LU := Lib.hid (show Low w U by rw [hU]; exact low_new (low_new (Low.refl w) _) _)
  have ZU := Lib.hid (show BoxAt U (w.heap.size + 1) [.string ⟨#[]⟩, .int .i64 0, .string ⟨#[]⟩, .slice none 0 0, .slice none 0 0, .bool false] from BoxAt.made hU (by simp) rfl)
  have hb : U.cell? ⟨w.heap.size, 0, none⟩ = some (.string s) := by
    rw [hU]; exact (low_new (Low.refl _) _).keep (by rw [World.cell?_alloc_mark]; rfl)
  have HI := Lib.hid (idxA_c l s w.heap.size U _ (RAs.low h LU.out) hb)
  have HA := Lib.hid h
  have HU := Lib.hid hU
  clear h hU hb
  go_enter Try.func11, Try.ntmps11
  go_upto_region 1 with fail
  rw [← HU.out]
  go_wp2_with fail
  refine HI.out.mono ?_
  rintro e w1 ⟨rfl, l1⟩
  have L1 := Lib.hid l1
  have LW := Lib.hid (LU.out.trans l1)
  have Z1 := Lib.hid (ZU.out.low l1)
  clear l1 HI ZU HU
  have g0 := Z1.out.at 0 _ rfl
  have g1 := Z1.out.at 1 _ rfl
  have g2 := Z1.out.at 2 _ rfl
  have g3 := Z1.out.at 3 _ rfl
  have g4 := Z1.out.at 4 _ rfl
  have g5 := Z1.out.at 5 _ rfl
  have o0 := Z1.out.open' 0
  have o1 := Z1.out.open' 1
  have o2 := Z1.out.open' 2
  have o3 := Z1.out.open' 3
  have o4 := Z1.out.open' 4
  have o5 := Z1.out.open' 5
  have K6 := fun (c0 c1 c2 c3 c4 c5 : Value) => (kept4 w1 (w.heap.size + 1) 0 1 2 3 c0 c1 c2 c3).trans ((kept_setCell _ (w.heap.size + 1) 4 c4).trans (kept_setCell _ (w.heap.size + 1) 5 c5))
  have HK := Lib.hid K6
  clear K6
  rcases atI_cases l s with ⟨i, hi, ha, hs⟩ | ha
  · have HAI := Lib.hid ha
    have HSI := Lib.hid hs
    obtain ⟨b, o, qe, de, qv, dv, rfl, -, e0, e1, e2, e3, e4, e5, -, -⟩ := RAs.at (RAs.low HA.out LW.out) hi
    rw [ha]
    have zl : (i : Int) < (l.length : Int) := by omega
    have zn : ¬ (i : Int) < 0 := by omega
    clear ha hs
    go_wp2_with fail
    refine bodyPost_ret (v := .tuple #[.agg #[.string (an l[i]), .int .i64 (aty l[i]).k, .string (aty l[i]).n, .slice qe (aty l[i]).l.length de, .slice qv (aty l[i]).ats.length dv, .bool (ao l[i])], .bool true]) (by simp [results, Try.results11, go_sem, World.cell?_setCell_same', g0, g1, g2, g3, g4, g5]; try rfl) rfl ?_
    exact ⟨l[i], qe, de, qv, dv, true, rfl, low_all LW.out (by omega) (HK.out _ _ _ _ _ _), .inr ⟨rfl, i, hi, HAI.out, rfl, HSI.out⟩⟩
  · have HAI := Lib.hid ha
    rw [ha]
    clear ha
    go_wp2_with fail
    refine bodyPost_ret (v := .tuple #[.agg #[.string ⟨#[]⟩, .int .i64 0, .string ⟨#[]⟩, .slice none 0 0, .slice none 0 0, .bool false], .bool false]) (by simp [results, Try.results11, go_sem, World.cell?_setCell_same', g0, g1, g2, g3, g4, g5]; try rfl) rfl ?_
    exact ⟨noA, none, 0, none, 0, false, rfl, low_all LW.out (by omega) (HK.out _ _ _ _ _ _), .inl ⟨rfl, HAI.out, rfl⟩⟩
end Go.Proofs.Ytjipncpgmajeeaa
