/- Any entities as they must be are the reference's, or refused. No condition. -/
import Derived.Test.YtbfaccndgjilmaaGreatRCanE
import Derived.Test.YtbfaccndgjilmaaGreatTurnL
namespace Go.Proofs.YtbfaccndgjilmaaGreat
open Go.RowKit Go.Sort
set_option maxHeartbeats 8000000 in
set_option maxRecDepth 100000 in
theorem entityCanons_v (qs : List Ee) (w : World) (r : Value) (h : EtAt w r qs) : Calls Tryz.prog 3 #[r] w fun e w' => e = .returned (.bool true) ∧ Low w w' := by
  obtain ⟨ao, c, rfl, ⟨hlc, hc9⟩, hx⟩ := h.at
  have HE := Lib.hid h
  clear h hx
  go_enter Tryz.func3, Tryz.ntmps3
  go_wp2_with fail
  refine (awake5_c _).mono ?_
  rintro e w1 ⟨rfl, l1⟩
  have L1 := Lib.hid l1
  clear l1
  have SC := Lib.hid (small_c qs w1 _ (HE.out.low L1.out))
  go_wp2_with fail
  refine SC.out.mono ?_
  rintro e w2 ⟨p, rfl, hp, g⟩
  have L2 := Lib.hid (L1.out.trans g.low)
  have HP := Lib.hid hp
  clear hp g SC
  rcases p with _ | _
  · go_wp2_with fail
    go_ret
    exact ⟨rfl, L2.out⟩
  obtain ⟨h20, hsm⟩ := HP.out rfl
  have HSM := Lib.hid (show ∀ e ∈ ensOf qs, SmE e from fun e he => by unfold ensOf at he; obtain ⟨q, hq, rfl⟩ := List.mem_map.1 he; exact hsm q hq)
  have H20 := Lib.hid (show (ensOf qs).length ≤ 20 by unfold ensOf; rwa [List.length_map])
  have HSQ := Lib.hid hsm
  have CC := Lib.hid (eCanon_c qs w2 _ (HE.out.low L2.out) (few_sm H20.out HSM.out) fun q hq => (hsm q hq).1)
  obtain ⟨c1, res1, hres⟩ : ∃ c1 res1, canE canD (ensOf qs) = (c1, res1) := ⟨_, _, rfl⟩
  rw [hres] at CC
  have HR1 := Lib.hid hres
  clear HP hsm hres
  go_wp2_with fail
  refine CC.out.mono ?_
  rintro e w3 ⟨v5, rfl, l3, rs1, hrs1, het1⟩
  have L3 := Lib.hid (L2.out.trans l3)
  have HET1 := Lib.hid het1
  have HRS1 := Lib.hid (show ensOf rs1 = res1 from hrs1)
  have RC := Lib.hid (rcanE_c qs w3 _ (HE.out.low L3.out) (few_sm H20.out HSM.out) (fun q hq => (HSQ.out q hq).1) fun q hq => by have := (HSQ.out q hq).2.1; omega)
  rw [HR1.out] at RC
  clear l3 hrs1 het1 CC
  go_wp2_with fail
  refine RC.out.mono ?_
  rintro e w4 ⟨v7, rfl, l4, rs2, hrs2, het2⟩
  have L4 := Lib.hid (L3.out.trans l4)
  have WC := Lib.hid (wholeE_c rs1 rs2 w4 _ _ (HET1.out.low l4) het2 (by rw [HRS1.out]; exact hrs2.symm))
  clear l4 hrs2 het2 RC
  go_wp2_with fail
  refine WC.out.mono ?_
  rintro e w5 ⟨rfl, g5⟩
  have L5 := Lib.hid (L4.out.trans g5.low)
  clear g5 WC
  go_wp2_with fail
  go_ret
  exact ⟨rfl, L5.out⟩
end Go.Proofs.YtbfaccndgjilmaaGreat
