/- The law's question of a found type and a found action, where no type and some action has the name. No condition. -/
import Derived.Test.YtijjbfdbhfjfmaaScG
namespace Go.Proofs.Ytijjbfdbhfjfmaa
open Go.RowKit
set_option linter.unusedVariables false
set_option maxRecDepth 100000 in
set_option maxHeartbeats 6400000 in
theorem reg11_ny {Q : Exit → Act → World → Prop} {w6 : World} {p p' pi pj pk pl qi qj qk ql : Option Addr} {lt c la c' sx x3 x4 bt ot ba oa it ia li ci di lj cj dj lk ck dk ll cl dl : Nat} {xs : ByteArray} {u18 u19 u20 u21 u22 u23 u24 u25 u26 u27 u28 u29 u30 u31 u32 u33 u34 u35 u36 u37 u38 u39 u40 u41 u42 : Value} (b0 : w6.cell? ⟨sx, 0, none⟩ = some (.slice p lt c)) (b1 : w6.cell? ⟨sx, 1, none⟩ = some (.slice (some ⟨ba, oa, none⟩) la c')) (hj : ia < la) (y0 : w6.cell? ⟨x4, 0, none⟩ = some (.string xs)) (y2 : w6.cell? ⟨x4, 2, none⟩ = some (.slice pk lk ck)) (y3 : w6.cell? ⟨x4, 3, none⟩ = some (.slice pl ll cl)) (g2 : w6.cell? ⟨ba, oa + ia * 5 + 2, none⟩ = some (.slice qk lk dk)) (g3 : w6.cell? ⟨ba, oa + ia * 5 + 3, none⟩ = some (.slice ql ll dl)) 
    (hQ : ∀ (v43 v44 v45 v46 v47 v48 v49 v50 v51 v52 v53 v54 v55 v56 v57 v58 v59 v60 v61 v62 v63 v64 v65 v66 v67 v68 v69 v70 v71 v72 v73 v74 v75 v76 v77 v78 v79 v80 v81 v82 v83 v84 v85 v86 v87 v88 v89 v90 v91 v92 v93 v94 v95 v96 v97 v98 v99 v100 v101 v102 v103 v104 v105 v106 v107 v108 v109 v110 v111 v112 v113 v114 v115 v116 v117 v118 v119 v120 v121 : Value) (W8 : World), Low w6 W8 → Q .normal (fr11b p (some ⟨ba, oa, none⟩) lt c la c' xs sx x3 x4 false true (-1) (ia : Int) u18 u19 u20 u21 u22 u23 u24 u25 u26 u27 u28 u29 u30 u31 u32 u33 u34 u35 u36 u37 u38 u39 u40 u41 u42 v43 v44 v45 v46 v47 v48 v49 v50 v51 v52 v53 v54 v55 v56 v57 v58 v59 v60 v61 v62 v63 v64 v65 v66 v67 v68 v69 v70 v71 v72 v73 v74 v75 v76 v77 v78 v79 v80 v81 v82 v83 v84 v85 v86 v87 v88 v89 v90 v91 v92 v93 v94 v95 v96 v97 v98 v99 v100 v101 v102 v103 v104 v105 v106 v107 v108 v109 v110 v111 v112 v113 v114 v115 v116 v117 v118 v119 v120 v121) W8) : (Code.region 11 ops11 true).wp Try.prog Q (fr11 p (some ⟨ba, oa, none⟩) lt c la c' xs sx x3 x4 false true (-1) (ia : Int) u18 u19 u20 u21 u22 u23 u24 u25 u26 u27 u28 u29 u30 u31 u32 u33 u34 u35 u36 u37 u38 u39 u40 u41 u42) w6 := by
  unfold ops11 fr11
  have zj : (ia : Int) < (la : Int) := by omega
  have zj0 : (0 : Int) ≤ (ia : Int) := by omega
  have dj' := decide_eq_true zj0
  have b0 := fun q : InL w6 => q.cell b0
  have b1 := fun q : InL w6 => q.cell b1
  have y0 := fun q : InL w6 => q.cell y0
  have y2 := fun q : InL w6 => q.cell y2
  have y3 := fun q : InL w6 => q.cell y3
  have g2 := fun q : InL w6 => q.cell g2
  have g3 := fun q : InL w6 => q.cell g3
  have HQQ := Lib.hid hQ
  clear hQ
  haveI := InL.some w6
  refine wp_region_low mixedT (by kernel_rfl) ?_
  dsimp only [List.append]
  repeat (go_big_quiet_step (fail))
  refine wpQuiet_nil ?_
  rintro W8 ⟨p8, hW8⟩
  exact HQQ.out _ _ _ _ _ _ _ _ _ _ _ _ _ _ _ _ _ _ _ _ _ _ _ _ _ _ _ _ _ _ _ _ _ _ _ _ _ _ _ _ _ _ _ _ _ _ _ _ _ _ _ _ _ _ _ _ _ _ _ _ _ _ _ _ _ _ _ _ _ _ _ _ _ _ _ _ _ _ _ W8 (by rw [hW8]; exact p8.ok)
end Go.Proofs.Ytijjbfdbhfjfmaa
