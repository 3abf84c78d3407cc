/- The document's examples of layer 11 hold: awake answers true. No condition. -/
import Derived.Test.YtjipncpgmajeeaaTyJw
namespace Go.Proofs.Ytjipncpgmajeeaa
open Go.RowKit
def kT (k : Int) : T := .mk k ⟨#[]⟩ [] []
theorem kT_rt (A : Nat → Prop) (w : World) (k : Int) : RT A w 1 (kT k) (.slice none 0 0) (.slice none 0 0) := RT.kind A w 0 k
def at1 : At := (⟨#[97]⟩, noT, true)
set_option maxHeartbeats 6400000 in
set_option maxRecDepth 100000 in
theorem awake11_c (w : World) : Calls Try.prog 8 #[] w fun e w' => e = .returned (.bool true) ∧ Low w w' := by
  have J1 := Lib.hid fun W => (joinW_c (some boolT) (kT 1) (kT 2) W _ _ _ _ (by omega) (kT_rt (fun _ => True) W 1) (kT_rt (fun _ => True) W 2) (sm_kind 0 1) (sm_kind 0 2) fun W' _ => (joinK_c (fun _ => False) (kT 1) (kT 2) W' _ _ _ _ (kT_rt (fun _ => True) W' 1) (kT_rt (fun _ => True) W' 2) (by decide) (by decide) (by decide) (by decide) (.inl (by decide)) : Calls Try.prog _ _ W' (JoinP (fun _ => False) 1 (some boolT) W')))
  have J2 := Lib.hid fun W => (joinW_c none (kT 4) (kT 5) W _ _ _ _ (by omega) (kT_rt (fun _ => True) W 4) (kT_rt (fun _ => True) W 5) (sm_kind 0 4) (sm_kind 0 5) fun W' _ => (joinK_c (fun _ => False) (kT 4) (kT 5) W' _ _ _ _ (kT_rt (fun _ => True) W' 4) (kT_rt (fun _ => True) W' 5) (by decide) (by decide) (by decide) (by decide) (.inr (by decide)) : Calls Try.prog _ _ W' (JoinP (fun _ => False) 1 none W')))
  go_enter Try.func8, Try.ntmps8
  go_wp2_with fail
  refine (J1.out w).mono ?_
  rintro e w1 ⟨t, qe, de, qv, dv, er, rfl, ⟨ht, rfl⟩, hrt, l1⟩
  have HT := Lib.hid ht
  have L1 := Lib.hid l1
  have HRT := Lib.hid (hrt.imp fun _ _ => (trivial : True))
  have bk : (t.k == 3) = true := by rw [ht]; rfl
  clear J1 hrt l1 ht
  obtain ⟨V1, hV1⟩ : ∃ V, V = w1.alloc (.cells #[.int .i64 t.k, .string t.n, .slice qe t.l.length de, .slice qv t.ats.length dv] 25) := ⟨_, rfl⟩
  have HV1 := Lib.hid hV1
  have LV1 := Lib.hid (show Low w V1 by rw [hV1]; exact low_new L1.out _)
  have B1 := Lib.hid (show BoxAt V1 w1.heap.size [.int .i64 t.k, .string t.n, .slice qe t.l.length de, .slice qv t.ats.length dv] from BoxAt.made hV1 rfl rfl)
  have HR1 := Lib.hid (HRT.out.low (show Low w1 V1 by rw [hV1]; exact low_new (Low.refl _) _))
  clear hV1 HRT
  go_upto_region 2 with fail
  rw [← HV1.out]
  clear HV1
  go_wp2_with fail
  refine (J2.out V1).mono ?_
  rintro e w2 ⟨t2, qe2, de2, qv2, dv2, er2, rfl, ⟨ht2, rfl⟩, -, l2⟩
  have L2 := Lib.hid l2
  clear J2 l2 ht2
  obtain ⟨V2, hV2⟩ : ∃ V, V = w2.alloc (.cells #[.int .i64 t2.k, .string t2.n, .slice qe2 t2.l.length de2, .slice qv2 t2.ats.length dv2] 25) := ⟨_, rfl⟩
  have HV2 := Lib.hid hV2
  have LV2 := Lib.hid (show Low V1 V2 by rw [hV2]; exact low_new L2.out _)
  clear hV2
  go_upto_region 3 with fail
  rw [← HV2.out]
  clear HV2 L2
  obtain ⟨V3, hV3⟩ : ∃ V, V = V2.alloc (.cells #[.string ⟨#[97]⟩, .int .i64 0, .string ⟨#[]⟩, .slice none 0 0, .slice none 0 0, .bool true] 30) := ⟨_, rfl⟩
  have HV3 := Lib.hid hV3
  have LV3 := Lib.hid (show Low V1 V3 by rw [hV3]; exact low_new LV2.out _)
  have B3 := BoxAt.made (cs := acs at1 (.slice none 0 0) (.slice none 0 0)) hV3 rfl rfl
  have hat : RAs (fun _ => True) V3 1 [at1] (.slice (some ⟨V2.heap.size, 0, none⟩) 1 1) := ⟨_, _, rfl, ⟨Nat.le_refl _, by decide⟩, .inr ⟨V2.heap.size, 0, rfl, trivial, fun j hj => by
    obtain rfl : j = 0 := by simpa using hj
    exact ⟨.slice none 0 0, .slice none 0 0, by rw [Nat.zero_mul]; exact B3.cells, (by show ByteArray.size ⟨#[97]⟩ ≤ _; decide), RT.kind _ _ 0 0⟩⟩⟩
  have HA := Lib.hid (attr_c [at1] ⟨#[97]⟩ V3 _ hat)
  clear hV3 B3 hat
  go_wp2_with fail
  rw [show V2.alloc (.cells #[.string ⟨#[97]⟩, .int .i64 0, .string ⟨#[]⟩, .slice none 0 0, .slice none 0 0, .bool true] 30) = V3 from HV3.out.symm]
  refine HA.out.mono ?_
  rintro e w3 ⟨x, pe, ce, pv, cv, q, rfl, l3, hx⟩
  have hq : q = true ∧ ao x = true := by
    rcases hx with ⟨-, h, -⟩ | ⟨rfl, i, hi, -, rfl, -⟩
    · have : atI [at1] ⟨#[97]⟩ = 0 := by decide
      rw [this] at h; simp at h
    · obtain rfl : i = 0 := by simpa using hi
      exact ⟨rfl, rfl⟩
  obtain ⟨rfl, hox⟩ := hq
  have L3 := Lib.hid (LV3.out.trans l3)
  clear hx l3 HA HV3 LV2 LV3
  obtain ⟨V4, hV4⟩ : ∃ V, V = w3.alloc (.cells #[.string (an x), .int .i64 (aty x).k, .string (aty x).n, .slice pe (aty x).l.length ce, .slice pv (aty x).ats.length cv, .bool true] 30) := ⟨_, rfl⟩
  have HV4 := Lib.hid hV4
  have L4 := Lib.hid (show Low V1 V4 by rw [hV4]; exact low_new L3.out _)
  have hb5 : V4.cell? ⟨w3.heap.size, 5, none⟩ = some (.bool true) := (BoxAt.made hV4 rfl rfl : BoxAt V4 w3.heap.size [.string (an x), .int .i64 (aty x).k, .string (aty x).n, .slice pe (aty x).l.length ce, .slice pv (aty x).ats.length cv, .bool true]).at 5 _ rfl
  clear hV4
  go_upto_region 4 with fail
  rw [← HV4.out]
  clear HV4 L3
  have HSm : Hid (Sm 1 t) := by rw [HT.out]; exact sm_kind 0 3
  have HMy : Hid (mayB 1 t = true) := by rw [HT.out]; exact may_kind 0 3 ⟨by decide, by decide⟩
  have C1 := Lib.hid fun W (l : Low V1 W) => Below_c (kT 0) t W _ _ _ _ (by omega) (kT_rt (fun _ => True) W 0) (HR1.out.low l) (sm_kind 0 0) HSm.out (may_kind 0 0 ⟨by decide, by decide⟩) HMy.out
  have C2 := Lib.hid fun W (l : Low V1 W) => Below_c t (kT 0) W _ _ _ _ (by omega) (HR1.out.low l) (kT_rt (fun _ => True) W 0) HSm.out (sm_kind 0 0) HMy.out (may_kind 0 0 ⟨by decide, by decide⟩)
  have C3 := Lib.hid fun W (l : Low V1 W) => Same_c t t W _ _ _ _ (by omega) (HR1.out.low l) (HR1.out.low l) HSm.out HSm.out HMy.out HMy.out
  have C4 := Lib.hid fun W => check_c (kT 7) W _ _ (sm_kind 0 7) (kT_rt (fun _ => True) W 7)
  have C5 := Lib.hid fun W (l : Low V1 W) => check_c t W _ _ HSm.out (HR1.out.low l)
  rw [show belB 1 (kT 0) t = true by rw [HT.out]; decide] at C1
  rw [show belB 1 t (kT 0) = false by rw [HT.out]; decide] at C2
  rw [show smB 1 t t = true by rw [HT.out]; decide] at C3
  rw [show chkE 1 (kT 7) = 1 by decide] at C4
  rw [show chkE 1 t = 0 by rw [HT.out]; decide] at C5
  unfold tv at C1 C2 C3 C4 C5
  clear HSm HMy
  obtain ⟨b0, b1, b2, b3⟩ := (B1.out.low L4.out).at4
  go_wp2_with fail
  refine (C1.out V4 L4.out).mono ?_
  rintro e w5 ⟨rfl, l5⟩
  have L5 := Lib.hid (L4.out.trans l5)
  clear l5 b0 b1 b2 b3 hb5 C1
  obtain ⟨b0, b1, b2, b3⟩ := (B1.out.low L5.out).at4
  go_wp2_with fail
  refine (C2.out w5 L5.out).mono ?_
  rintro e w6 ⟨rfl, l6⟩
  have L6 := Lib.hid (L5.out.trans l6)
  clear l6 b0 b1 b2 b3 C2
  obtain ⟨b0, b1, b2, b3⟩ := (B1.out.low L6.out).at4
  go_wp2_with fail
  refine (C3.out w6 L6.out).mono ?_
  rintro e w7 ⟨rfl, l7⟩
  have L7 := Lib.hid (L6.out.trans l7)
  clear l7 b0 b1 b2 b3 C3
  obtain ⟨b0, b1, b2, b3⟩ := (B1.out.low L7.out).at4
  go_wp2_with fail
  refine (C4.out w7).mono ?_
  rintro e w8 ⟨rfl, l8⟩
  have L8 := Lib.hid (L7.out.trans l8)
  clear l8 b0 b1 b2 b3 C4
  obtain ⟨b0, b1, b2, b3⟩ := (B1.out.low L8.out).at4
  go_wp2_with fail
  refine (C5.out w8 L8.out).mono ?_
  rintro e w9 ⟨rfl, l9⟩
  have L9 := Lib.hid ((LV1.out.trans L8.out).trans l9)
  clear l9 b0 b1 b2 b3 C5
  go_wp2_with fail
  go_ret
  exact ⟨rfl, L9.out⟩
end Go.Proofs.Ytjipncpgmajeeaa
