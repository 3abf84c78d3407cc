/- The document's examples of layer 13 hold: awake answers true. No condition. -/
import Derived.Test.YtnenjgngahipdaaGreatZg25
import Derived.Test.YtnenjgngahipdaaGreatZg22
import Derived.Test.YtnenjgngahipdaaGreatZg26
set_option linter.unusedVariables false
set_option linter.unusedSimpArgs false
set_option linter.unnecessarySimpa false
namespace Go.Proofs.YtnenjgngahipdaaGreat
open Go.RowKit
set_option linter.unusedVariables false
theorem slice_lE (W : World) (b c : Nat) (hc : 2 ≤ c) : (Instr.slice 47 (.slice (some ⟨b, 0, none⟩) 2 c) (some (.int .i64 1)) none none).run Tryz.prog W = .ok (.slice (some ⟨b, 11, none⟩) 1 (c - 1)) W := by
  have ht : Tryz.prog.underlying 47 = some (.slice (Tryz.prog.elem 47)) := by kernel_rfl
  have h1 := run_slice_l (P := Tryz.prog) (w := W) 47 (some ⟨b, 0, none⟩) 2 c ht .i64 1 (by omega) (by omega)
  rw [h1]
  have h2 := Tryz.sizeOf71 W
  have h3 : Tryz.prog.elem 47 = 71 := by kernel_rfl
  rw [h3, h2]
  simp [Result.andThen, sliced, Addr.add]
  omega
theorem ns_one {w : World} {b : Nat} {x : Nm} (h : w.cell? ⟨b, 0, none⟩ = some (.string x.s)) : NsAt w [x] (.slice (some ⟨b, 0, none⟩) 1 1) := by
  refine ⟨some ⟨b, 0, none⟩, 1, rfl, ⟨by simp, by simp⟩, fun j hj => ⟨b, 0, (), rfl, fun k u hu => ?_, trivial⟩⟩
  obtain rfl : j = 0 := by simp at hj; omega
  have hk : k = 0 := by have := (List.getElem?_eq_some_iff.1 hu).1; simp [encNm] at this; omega
  subst hk
  simp [encNm] at hu
  subst hu
  simpa using h
theorem ets_one {w : World} {b : Nat} (h : BoxAt w b [.string nmUser.s, .slice none 0 0, .slice none 0 0]) : EtsAt 1 w [etU] (.slice (some ⟨b, 0, none⟩) 1 1) := by
  refine ⟨some ⟨b, 0, none⟩, 1, rfl, ⟨by simp, by simp⟩, fun j hj => ?_⟩
  obtain rfl : j = 0 := by simp at hj; omega
  refine ⟨b, 0, (.slice none 0 0, .slice none 0 0), rfl, fun k u hu => ?_, NsAt.nil _, RAs.nil _ _ _⟩
  have := h.cells k u hu
  simpa using this
theorem acs_one {w : World} {b p r : Nat} (h : BoxAt w b [.string nmV.s, .slice none 0 0, .slice (some ⟨p, 0, none⟩) 1 1, .slice (some ⟨r, 0, none⟩) 1 1, .slice none 0 0]) (hp : NsAt w [nmUser] (.slice (some ⟨p, 0, none⟩) 1 1)) (hr : NsAt w [nmUser] (.slice (some ⟨r, 0, none⟩) 1 1)) : AcsAt 1 w [acV] (.slice (some ⟨b, 0, none⟩) 1 1) := by
  refine ⟨some ⟨b, 0, none⟩, 1, rfl, ⟨by simp, by simp⟩, fun j hj => ?_⟩
  obtain rfl : j = 0 := by simp at hj; omega
  refine ⟨b, 0, ((.slice none 0 0, .slice (some ⟨p, 0, none⟩) 1 1), .slice (some ⟨r, 0, none⟩) 1 1, .slice none 0 0), rfl, fun k u hu => ?_, NsAt.nil _, hp, hr, RAs.nil _ _ _⟩
  have := h.cells k u hu
  simpa using this
def eeU : Ee := ⟨enU, none, 0, none, 0, none, 0⟩
theorem eeU_ok (A : Nat → Prop) (w : World) : EeOk A w eeU := ⟨⟨none, 0, rfl, ⟨by simp [eeU, enU], by simp⟩, fun j hj => by simp [eeU, enU] at hj⟩, recV_rep A w⟩
set_option maxHeartbeats 25600000 in
set_option maxRecDepth 100000 in
theorem awake13_c (w : World) : Calls Tryz.prog 7 #[] w fun e w' => e = .returned (.bool true) ∧ Low w w' := by
  obtain ⟨U1, hU1⟩ : ∃ U, U = w.alloc (.cells #[.string ⟨#[85, 115, 101, 114]⟩, .slice none 0 0, .slice none 0 0] 66) := ⟨_, rfl⟩
  obtain ⟨U2, hU2⟩ : ∃ U, U = U1.alloc (.cells #[.string ⟨#[85, 115, 101, 114]⟩] 9) := ⟨_, rfl⟩
  obtain ⟨U3, hU3⟩ : ∃ U, U = U2.alloc (.cells #[.string ⟨#[85, 115, 101, 114]⟩] 9) := ⟨_, rfl⟩
  obtain ⟨U4, hU4⟩ : ∃ U, U = U3.alloc (.cells #[.string ⟨#[118]⟩, .slice none 0 0, .slice (some ⟨w.heap.size + 1, 0, none⟩) 1 1, .slice (some ⟨w.heap.size + 1 + 1, 0, none⟩) 1 1, .slice none 0 0] 68) := ⟨_, rfl⟩
  obtain ⟨U5, hU5⟩ : ∃ U, U = U4.alloc (.cells #[.slice (some ⟨w.heap.size, 0, none⟩) 1 1, .slice (some ⟨w.heap.size + 1 + 1 + 1, 0, none⟩) 1 1] 46) := ⟨_, rfl⟩
  obtain ⟨U, hU⟩ : ∃ U, U = U5.alloc (.cells #[.string ⟨#[85, 115, 101, 114]⟩, .string ⟨#[97]⟩] 23) := ⟨_, rfl⟩
  have s1 : U1.heap.size = w.heap.size + 1 := by rw [hU1]; simp
  have s2 : U2.heap.size = w.heap.size + 1 + 1 := by rw [hU2]; simp [s1]
  have s3 : U3.heap.size = w.heap.size + 1 + 1 + 1 := by rw [hU3]; simp [s2]
  have s4 : U4.heap.size = w.heap.size + 1 + 1 + 1 + 1 := by rw [hU4]; simp [s3]
  have s5 : U5.heap.size = w.heap.size + 1 + 1 + 1 + 1 + 1 := by rw [hU5]; simp [s4]
  have l5 : Low U5 U := by rw [hU]; exact low_new (Low.refl _) _
  have l4 : Low U4 U := (by rw [hU5]; exact low_new (Low.refl _) _ : Low U4 U5).trans l5
  have l3 : Low U3 U := (by rw [hU4]; exact low_new (Low.refl _) _ : Low U3 U4).trans l4
  have l2 : Low U2 U := (by rw [hU3]; exact low_new (Low.refl _) _ : Low U2 U3).trans l3
  have l1 : Low U1 U := (by rw [hU2]; exact low_new (Low.refl _) _ : Low U1 U2).trans l2
  have LU := Lib.hid (show Low w U from (by rw [hU1]; exact low_new (Low.refl _) _ : Low w U1).trans l1)
  have HET := Lib.hid (ets_one ((BoxAt.made (cs := [.string nmUser.s, .slice none 0 0, .slice none 0 0]) hU1 rfl rfl).low l1))
  have hp1 : NsAt U [nmUser] (.slice (some ⟨w.heap.size + 1, 0, none⟩) 1 1) := ns_one (((BoxAt.made (cs := [.string nmUser.s]) hU2 s1 rfl).low l2).at 0 _ rfl)
  have hp2 : NsAt U [nmUser] (.slice (some ⟨w.heap.size + 1 + 1, 0, none⟩) 1 1) := ns_one (((BoxAt.made (cs := [.string nmUser.s]) hU3 s2 rfl).low l3).at 0 _ rfl)
  have HAC := Lib.hid (acs_one ((BoxAt.made (cs := [.string nmV.s, .slice none 0 0, .slice (some ⟨w.heap.size + 1, 0, none⟩) 1 1, .slice (some ⟨w.heap.size + 1 + 1, 0, none⟩) 1 1, .slice none 0 0]) hU4 s3 rfl).low l4) hp1 hp2)
  have BS := Lib.hid ((BoxAt.made (cs := [.slice (some ⟨w.heap.size, 0, none⟩) 1 1, .slice (some ⟨w.heap.size + 1 + 1 + 1, 0, none⟩) 1 1]) hU5 s4 rfl).low l5)
  have BU := Lib.hid (BoxAt.made (cs := [.string ⟨#[85, 115, 101, 114]⟩, .string ⟨#[97]⟩]) hU s5 rfl)
  rw [hU5, hU4, hU3, hU2, hU1] at hU
  have HU := Lib.hid hU
  clear hU hU1 hU2 hU3 hU4 hU5 s1 s2 s3 s4 s5 l1 l2 l3 l4 l5 hp1 hp2
  go_enter Tryz.func7, Tryz.ntmps7
  go_upto_region 3 with fail
  rw [← HU.out]
  clear HU
  go_cut [3] from 12 to 18 (fun sv wx => ∃ (v : Value) (rs : List Ee), sv = v ∧ Hid (OwnE U.heap.size wx v (rs ++ [eeU])) ∧ Hid (ensOf rs = actsE [acV]) ∧ Hid (∀ p ∈ rs ++ [eeU], EeOk (fun _ => True) wx p) ∧ Hid (Low U wx))
  case first =>
    have CA0 := Lib.hid (acts_c 1 [acV] U.drew (.slice (some ⟨w.heap.size, 0, none⟩) 1 1) _ (by decide) (by intro a ha; simp at ha; subst ha; decide) (HAC.out.low (low_drew (Low.refl U))))
    have CAX := Lib.hid fun X => acts_c 1 [acV] (U.drew.alloc X) (.slice (some ⟨w.heap.size, 0, none⟩) 1 1) _ (by decide) (by intro a ha; simp at ha; subst ha; decide) (HAC.out.low (low_new (low_drew (Low.refl U)) X))
    have g0 := BS.out.at 0 _ rfl
    have g1 := BS.out.at 1 _ rfl
    have b0 := BU.out.at 0 _ rfl
    have b1 := BU.out.at 1 _ rfl
    have g0X := fun X => (BS.out.low (low_new (Low.refl U) X)).at 0 _ rfl
    have g1X := fun X => (BS.out.low (low_new (Low.refl U) X)).at 1 _ rfl
    go_region_law (first
      | (refine ownR_step2 rfl _ _ _ rfl Tryz.underlying47 e_info rfl (by decide) (by decide) encE_len encE_one U.heap.size vA rsA rfl OA1.out eeU ⟨wA.heap.size, 0, none⟩ 1 rfl (fun j u hj => newcell_at _ _ _ _ eeU.sh.cs rfl hj) HLA.out HSA1.out ?_; intro v6 w6 O6 B6 K6 N6; have HO6 := Lib.hid O6; have HB6 := Lib.hid (show Low U w6 from (low_new LA.out _).trans_belowU B6 (Nat.le_refl _)); have HE6 := Lib.hid (show ∀ p ∈ rsA ++ [eeU], EeOk (fun _ => True) w6 p from fun p hp => by
              rcases List.mem_append.1 hp with hp | hp
              · exact (KA.out p hp).to fun b ha hb => ⟨trivial, (K6 b (by simp; omega) ha).trans ((low_new (Low.refl wA) _).2.2.2 b hb)⟩
              · simp at hp; subst hp; exact eeU_ok _ _); clear O6 B6 K6 N6)
      | (refine ownR_step2 rfl _ _ _ rfl Tryz.underlying47 e_info rfl (by decide) (by decide) encE_len encE_one U.heap.size vA rsA rfl OA.out eeU ⟨U.heap.size, 0, none⟩ 1 rfl (fun j u hj => HNC.out j u hj) HLA.out HSA.out ?_; intro v6 w6 O6 B6 K6 N6; have HO6 := Lib.hid O6; have HB6 := Lib.hid (show Low U w6 from LA.out.trans_belowU B6 (Nat.le_refl _)); have HE6 := Lib.hid (show ∀ p ∈ rsA ++ [eeU], EeOk (fun _ => True) w6 p from fun p hp => by
              rcases List.mem_append.1 hp with hp | hp
              · exact (KA.out p hp).to fun b ha hb => ⟨trivial, K6 b hb ha⟩
              · simp at hp; subst hp; exact eeU_ok _ _); clear O6 B6 K6 N6)
      | (go_simp; go_wp2_with (go_at_call 19; first
          | (refine CA0.out.mono ?_; rintro e wA ⟨vA, rsA, rfl, oA, kA, eA, lA⟩; have LA := Lib.hid (show Low U wA from (low_drew (Low.refl U)).trans lA); have OA := Lib.hid (show OwnE U.heap.size wA vA rsA from oA); have KA := Lib.hid kA; have EA := Lib.hid eA; have HSA := Lib.hid (show U.heap.size ≤ wA.heap.size from LA.out.size); have OA1 := Lib.hid (OwnR.alloc OA.out (.cells #[.string ⟨#[85, 115, 101, 114]⟩, .string ⟨#[97]⟩, .slice none 0 0, .int .i64 6, .bool false, .int .i64 0, .string ⟨#[]⟩, .string ⟨#[]⟩, .string ⟨#[]⟩, .slice none 0 0, .slice none 0 0] 71)); have HSA1 := Lib.hid (show U.heap.size ≤ (wA.alloc (.cells #[.string ⟨#[85, 115, 101, 114]⟩, .string ⟨#[97]⟩, .slice none 0 0, .int .i64 6, .bool false, .int .i64 0, .string ⟨#[]⟩, .string ⟨#[]⟩, .string ⟨#[]⟩, .slice none 0 0, .slice none 0 0] 71)).heap.size from (low_new LA.out _).size); have HLA := Lib.hid (show rsA.length ≤ 1000000 by have h9 := congrArg List.length eA; simp [ensOf, actsE] at h9; omega); have b0 := (BU.out.low LA.out).at 0 _ rfl; have b1 := (BU.out.low LA.out).at 1 _ rfl; clear oA kA eA lA)
          | (refine (CAX.out _).mono ?_; rintro e wA ⟨vA, rsA, rfl, oA, kA, eA, lA⟩; have LA := Lib.hid (show Low U wA from (low_new (low_drew (Low.refl U)) _).trans lA); have OA := Lib.hid (OwnR.base (show OwnE _ wA vA rsA from oA) (show U.heap.size ≤ _ from (low_new (low_drew (Low.refl U)) _).size)); have KA := Lib.hid kA; have EA := Lib.hid eA; have HSA := Lib.hid (show U.heap.size ≤ wA.heap.size from LA.out.size); have HNC := Lib.hid (show ∀ j u, (encE eeU)[j]? = some u → wA.cell? ((⟨U.heap.size, 0, none⟩ : Addr).add j) = some u from fun j u hj => lA.keep (newcell_at _ _ _ _ eeU.sh.cs rfl hj)); have HLA := Lib.hid (show rsA.length ≤ 1000000 by have h9 := congrArg List.length eA; simp [ensOf, actsE] at h9; omega); clear oA kA eA lA))))
    all_goals
      go_wp2_with fail
      go_meet
      case rel => exact ⟨v6, rsA, rfl, HO6, EA, HE6, HB6⟩
  case rest =>
  obtain ⟨v, rs, rfl, OV, EV, KV, LV⟩ := hcut
  obtain ⟨ao, cap, rfl, h2, h9, h3⟩ := OV.out.shape
  have hrl : rs.length = 1 := by have h9 := congrArg List.length EV.out; simp [ensOf, actsE] at h9; omega
  have hlen : (rs ++ [eeU]).length = 2 := by simp [hrl]
  obtain ⟨g, rfl⟩ : ∃ g, ao = some ⟨g, 0, none⟩ := by
    rcases h3 with h3 | ⟨g, rfl, -, -⟩
    · rw [h3] at hlen; simp at hlen
    · exact ⟨g, rfl⟩
  have het : EtAt wc (.slice (some ⟨g, 0, none⟩) (rs ++ [eeU]).length cap) (rs ++ [eeU]) := ⟨OV.out.esAt, KV.out⟩
  have hen : ensOf (rs ++ [eeU]) = [actE acV, enU] := by rw [ens_snoc, EV.out]; rfl
  have hi1 : 1 < (rs ++ [eeU]).length := by rw [hlen]; omega
  have hel : (rs ++ [eeU])[1] = eeU := by rw [List.getElem_append_right (by omega)]; simp [hrl]
  rw [hlen] at h2 ⊢
  have hsub := sub_et het hi1 (cap - 1) (by omega) (by omega)
  rw [hel] at hsub
  simp only [Nat.one_mul, Nat.zero_add] at hsub
  rw [hlen] at het
  have hfew : FewE (ensOf (rs ++ [eeU])) := by rw [hen]; exact ⟨by decide, fun e he => by simp at he; rcases he with rfl | rfl <;> decide⟩
  have hfew2 : FewE (ensOf [eeU]) := ⟨by decide, fun e he => by simp [ensOf] at he; subst he; decide⟩
  have hsm : ∀ q ∈ rs ++ [eeU], Smv q.e.a := fun q hq => by
    have h5 := ens_mem hq
    rw [hen] at h5
    simp at h5
    rcases h5 with h5 | h5 <;> rw [h5] <;> exact recV_sm
  have hmt : ∀ t ∈ [etU], mayB (1 + 1) (recT t.ats) = true := fun t ht => by simp at ht; subst ht; rfl
  have hma : ∀ t ∈ [acV], mayB (1 + 1) (recT t.ats) = true := fun t ht => by simp at ht; subst ht; rfl
  have hin : ∀ a ∈ [acV], a.ins.length ≤ 300 := fun t ht => by simp at ht; subst ht; decide
  have hca : (canE canD (actsE [acV])).1 = 0 := by rw [can_a]
  obtain ⟨W4, hW4⟩ : ∃ W, W = wc := ⟨_, rfl⟩
  subst hW4
  have C1 := Lib.hid fun q : InL W4 => Calls.low q (show Calls Tryz.prog 13 #[.agg #[.int .i64 2, .bool false, .int .i64 0, .string ⟨#[]⟩, .string ⟨#[]⟩, .string ⟨#[]⟩, .slice none 0 0, .slice none 0 0], .agg #[.int .i64 4, .string ⟨#[]⟩, .slice none 0 0, .slice none 0 0]] q.w _ from value13_c 1 v2 (.mk 4 ⟨#[]⟩ [] []) q.w (.slice none 0 0) (.slice none 0 0) (.slice none 0 0) (.slice none 0 0) sm_v2 (by rfl) (by unfold R v2; rw [Rep]; exact ⟨⟨by decide, by decide, by decide⟩, ⟨none, 0, rfl, by simp, by simp, .inl rfl⟩, none, 0, rfl, ⟨by simp, by simp⟩, .inl rfl⟩) (RT.kind _ _ 0 4))
  have C2 := Lib.hid fun q : InL W4 => Calls.low q (show Calls Tryz.prog 13 #[.agg #[.int .i64 2, .bool false, .int .i64 0, .string ⟨#[]⟩, .string ⟨#[]⟩, .string ⟨#[]⟩, .slice none 0 0, .slice none 0 0], .agg #[.int .i64 5, .string ⟨#[]⟩, .slice none 0 0, .slice none 0 0]] q.w _ from value13_c 1 v2 (.mk 5 ⟨#[]⟩ [] []) q.w (.slice none 0 0) (.slice none 0 0) (.slice none 0 0) (.slice none 0 0) sm_v2 (by rfl) (by unfold R v2; rw [Rep]; exact ⟨⟨by decide, by decide, by decide⟩, ⟨none, 0, rfl, by simp, by simp, .inl rfl⟩, none, 0, rfl, ⟨by simp, by simp⟩, .inl rfl⟩) (RT.kind _ _ 0 5))
  have C3 := Lib.hid fun q : InL W4 => Calls.low q (store_c 1 [etU] [acV] (rs ++ [eeU]) q.w _ _ _ (HET.out.low (LV.out.trans q.ok)) (HAC.out.low (LV.out.trans q.ok)) (het.low q.ok) hfew hsm hmt (by decide) hin hca)
  have C4 := Lib.hid fun q : InL W4 => Calls.low q (store_c 1 [etU] [acV] [eeU] q.w _ _ _ (HET.out.low (LV.out.trans q.ok)) (HAC.out.low (LV.out.trans q.ok)) (hsub.low q.ok) hfew2 (fun q hq => by simp at hq; subst hq; exact recV_sm) hmt (by decide) hin hca)
  have C5 := Lib.hid fun q : InL W4 => Calls.low q (show Calls Tryz.prog 24 #[.agg #[.slice (some ⟨w.heap.size, 0, none⟩) 1 1, .slice (some ⟨w.heap.size + 1 + 1 + 1, 0, none⟩) 1 1], .agg #[.string ⟨#[85, 115, 101, 114]⟩, .string ⟨#[97]⟩, .string ⟨#[65, 99, 116, 105, 111, 110]⟩, .string ⟨#[118]⟩, .string ⟨#[85, 115, 101, 114]⟩, .string ⟨#[97]⟩, .int .i64 6, .bool false, .int .i64 0, .string ⟨#[]⟩, .string ⟨#[]⟩, .string ⟨#[]⟩, .slice none 0 0, .slice none 0 0]] q.w _ from request_c 1 [acV] nmUser.s ⟨#[97]⟩ actNm nmV.s nmUser.s ⟨#[97]⟩ recV q.w (.slice (some ⟨w.heap.size, 0, none⟩) 1 1) (.slice (some ⟨w.heap.size + 1 + 1 + 1, 0, none⟩) 1 1) (.slice none 0 0) (.slice none 0 0) ⟨some ⟨w.heap.size, 0, none⟩, 1, 1, rfl⟩ (HAC.out.low (LV.out.trans q.ok)) recV_sm hma (recV_rep _ _))
  rw [val_1] at C1
  rw [val_2] at C2
  rw [hen, store_1] at C3
  rw [show ensOf [eeU] = [enU] from rfl, store_2] at C4
  rw [req_1] at C5
  clear het hen hi1 hel hsub hfew hfew2 hsm hmt hma hin hca OV EV KV h3 hlen hrl
  have sl := fun W => slice_lE W g cap h2
  haveI := InL.some W4
  have g0 := fun q : InL W4 => q.cell ((BS.out.low LV.out).at 0 _ rfl)
  have g1 := fun q : InL W4 => q.cell ((BS.out.low LV.out).at 1 _ rfl)
  have b0 := fun q : InL W4 => q.cell ((BU.out.low LV.out).at 0 _ rfl)
  have b1 := fun q : InL W4 => q.cell ((BU.out.low LV.out).at 1 _ rfl)
  go_upto_region 4 with fail
  refine wp_region_low mixedT (by kernel_rfl) ?_
  repeat (go_big_quiet_step (first | with_reducible exact C1.out _ | with_reducible exact C2.out _ | with_reducible exact C3.out _ | with_reducible exact C4.out _ | with_reducible exact C5.out _))
  refine wpQuiet_nil ?_
  rintro W8 ⟨p8, hW8⟩
  have L8 := Lib.hid (show Low W4 W8 by rw [hW8]; exact p8.ok)
  clear hW8 p8 g0 g1 b0 b1 sl C1 C2 C3 C4 C5 this
  go_wp2_with fail
  go_ret
  exact ⟨rfl, LU.out.trans (LV.out.trans L8.out)⟩
end Go.Proofs.YtnenjgngahipdaaGreat
