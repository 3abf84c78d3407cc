/- The document's Read, without a minus. Condition: the text's head may be a number's. -/
import Derived.Test.YtdblkjcimegoeaaDoorRefReadB
namespace Go.Proofs.YtdblkjcimegoeaaDoor
open Go.RowKit
attribute [local go_sem] alloc_drewN setCell_drewN
theorem small_dig {N : Nat} (h : N ≤ 18446744073709551615) : d3 N = 0 ∧ d2 N = 0 := by
  have h1 : N / 4294967296 ≤ 4294967295 := by omega
  have h2 : N / 4294967296 / 4294967296 = 0 := by omega
  unfold d3 d2
  rw [h2]; exact ⟨rfl, rfl⟩
theorem over_dig {N : Nat} (h : 18446744073709551615 < N) (h2 : N ≤ 1844674407370955161600) : d3 N = 0 ∧ 0 < d2 N := by
  have h1 : 4294967296 ≤ N / 4294967296 := by omega
  have h3 : N / 4294967296 ≤ 429496729600 := by omega
  have h4 : 1 ≤ N / 4294967296 / 4294967296 := by omega
  have h5 : N / 4294967296 / 4294967296 ≤ 100 := by omega
  have h6 : N / 4294967296 / 4294967296 / 4294967296 = 0 := by omega
  unfold d3 d2
  rw [h6]; exact ⟨rfl, by omega⟩
theorem read_fin (s : ByteArray) (f T : Nat) (b o : Bool) (hM : isMinus s.data.toList = b) (hA : afterSign s.data.toList = s.data.toList.drop f) (hH : headOk b (s.data.toList.drop f) = true) (h : ToldP s f s.size T o) :
    (o = false → readV s.data.toList = fitV (sgn b T) ∧ readE s.data.toList = fitE (sgn b T)) ∧ (o = true → readV s.data.toList = 0 ∧ readE s.data.toList = 14) := by
  unfold ToldP at h
  rw [part_end] at h
  have hs : shownB (isMinus s.data.toList) (afterSign s.data.toList) = true := by rw [hM, hA]; unfold shownB; rw [hH, h.1]; rfl
  obtain ⟨r1, r2⟩ := read_num hs
  have hn : numOf s.data.toList = sgn b (toldN (s.data.toList.drop f)) := by unfold numOf; rw [hM, hA]
  refine ⟨fun ho => ?_, fun ho => ?_⟩
  · rw [r1, r2, hn, h.2.1 ho]; exact ⟨rfl, rfl⟩
  · rw [r1, r2, hn]; exact num_far (h.2.2 ho)
theorem read_stop (s : ByteArray) (f : Nat) (b : Bool) (hM : isMinus s.data.toList = b) (hA : afterSign s.data.toList = s.data.toList.drop f) (h : allDig (s.data.toList.drop f) = false) : readV s.data.toList = 0 ∧ readE s.data.toList = 10 := by
  apply read_form
  rw [hM, hA]; unfold shownB; rw [h, Bool.and_false]
theorem fit_x (s : Bool) (n : Nat) (hn : n < 340282366920938463463374607431768211456) (w : World) :
    Calls Tryd.prog 42 #[.agg #[.bool s, .int .u64 (d3 n : Int), .int .u64 (d2 n : Int), .int .u64 (d1 n : Int), .int .u64 (d0 n : Int)]] w fun e w' => e = .returned (.tuple #[.int .i64 (fitV (sgn s n)), .int .i64 (fitE (sgn s n))]) ∧ Grown w w' := fit_c s n hn w
set_option maxHeartbeats 4000000 in
theorem read_go0 (s : ByteArray) (hs : s.size ≤ 9223372036854775807) (h0 : 0 < s.size) (hm : ((s[0].toNat : Int) == 45) = false) (hc : ((s[0].toNat : Int) == 48) = false) (HM : Hid (isMinus s.data.toList = false)) (HA : Hid (afterSign s.data.toList = s.data.toList.drop 0)) (HH : Hid (headOk false (s.data.toList.drop 0) = true)) (w : World) :
    Calls Tryd.prog 30 #[.string s] w fun e w' => e = .returned (.tuple #[.int .i64 (readV s.data.toList), .int .i64 (readE s.data.toList)]) ∧ Grown w w' := by
  have hz00 : ((0 : Int) == (s.size : Int)) = false := by rw [beq_eq_false_iff_ne]; omega
  go_enter Tryd.func30, Tryd.ntmps30
  go_wp2
  have T0 : ReadAt w (w.alloc (Obj.cells #[Value.int IntKind.u64 0, Value.int IntKind.u64 0, Value.int IntKind.u64 0, Value.int IntKind.u64 0] 54)) w.heap.size 0 := {
    x3 := by simp [d3], x2 := by simp [d2], x1 := by simp [d1], x0 := by simp [d0]
    f0 := by simp [go_sem], f1 := by simp [go_sem], f2 := by simp [go_sem], f3 := by simp [go_sem]
    hg := Nat.le_refl _, hs := by simp, grown := Grown.alloc (Grown.refl w) _ _ }
  go_loopw [6, 7] (fun ov i wr => ∃ (k T : Nat) (o : Bool), k ≤ s.size ∧ i = .int .i64 k ∧ ov = .bool o ∧ T ≤ 18446744073709551615 ∧ ReadAt w wr w.heap.size T ∧ 0 ≤ k ∧ ToldP s 0 k T o) (fun _ i _ => s.size - (intOf i).toNat)
  case atStart => exact ⟨0, 0, false, by omega, rfl, rfl, by omega, T0, Nat.le_refl _, toldp_start s 0⟩
  case round =>
    obtain ⟨k, T, o, hk, rfl, rfl, hT, R, hfk, TP⟩ := hrel
    clear T0
    obtain ⟨wo, rfl⟩ : ∃ wo : World, wo = wr := ⟨_, rfl⟩
    by_cases hlt : k < s.size
    · by_cases g1 : (s[k].toNat : Int) < 48
      · obtain ⟨e1, e2⟩ := read_stop s 0 false HM.out HA.out (toldp_stop s 0 k hfk hlt (.inl g1))
        have E1 := Lib.hid e1
        have E2 := Lib.hid e2
        clear e1 e2
        go_wp2
        go_ret2
        exact ⟨ret2i E1.out.symm E2.out.symm, R.grown⟩
      · by_cases g2 : 57 < (s[k].toNat : Int)
        · obtain ⟨e1, e2⟩ := read_stop s 0 false HM.out HA.out (toldp_stop s 0 k hfk hlt (.inr g2))
          have E1 := Lib.hid e1
          have E2 := Lib.hid e2
          clear e1 e2
          go_wp2
          go_ret2
          exact ⟨ret2i E1.out.symm E2.out.symm, R.grown⟩
        · go_wp2
          have hgs := R.hs
          have hgg := R.hg
          have J0 : TensAt w (wo.alloc (Obj.cells #[Value.int IntKind.u64 0, Value.int IntKind.u64 0, Value.int IntKind.u64 0, Value.int IntKind.u64 0] 54)) w.heap.size T wo.heap.size (0 * T) := {
            at0 := R.grow (Grown.alloc (Grown.refl wo) _ _)
            y3 := by simp [d3], y2 := by simp [d2], y1 := by simp [d1], y0 := by simp [d0]
            q0 := by simp [go_sem], q1 := by simp [go_sem], q2 := by simp [go_sem], q3 := by simp [go_sem]
            hh := hgs, hs := by simp }
          go_loopw [9] (fun j wr => ∃ n : Nat, n ≤ 10 ∧ j = .int .i64 n ∧ TensAt w wr w.heap.size T wo.heap.size (n * T)) (fun j _ => 10 - (intOf j).toNat)
          case atStart => exact ⟨0, by omega, rfl, J0⟩
          case round =>
            clear J0
            obtain ⟨n, hn, rfl, J⟩ := hrel
            obtain ⟨wi, rfl⟩ : ∃ wi : World, wi = wr := ⟨_, rfl⟩
            obtain ⟨⟨ux3, ux2, ux1, ux0, uf0, uf1, uf2, uf3, _, uxs, _⟩, uy3, uy2, uy1, uy0, uq0, uq1, uq2, uq3, _, uhs⟩ := id J
            by_cases hn10 : n < 10
            · go_wp2_with fail
              refine (plus_e (n * T) T _).mono ?_
              rintro e w4 ⟨rfl, h4⟩
              have J4 := J.grow h4
              obtain ⟨_, ky3, ky2, ky1, ky0, kq0, kq1, kq2, kq3, _, khs⟩ := id J4
              go_wp2_with fail
              go_roundw
              case rel => exact ⟨n + 1, by omega, by go_num, by rw [Nat.succ_mul]; exact J4.put _⟩
              case measure => simp [intOf]; omega
            · obtain rfl : n = 10 := by omega
              have hcc : s[k].toNat - 48 ≤ 9 := by omega
              have hcv : (s[k].toNat : Int) - 48 = ((s[k].toNat - 48 : Nat) : Int) := by omega
              have HCV := Lib.hid hcv
              clear hcv
              have hki : (k : Int) < (s.size : Int) := by omega
              have hk0 : 0 ≤ (k : Int) := by omega
              have hw1 : IntKind.u64.wrap (s[k].toNat : Int) = (s[k].toNat : Int) := by rw [u64w]; omega
              have hw2 : IntKind.u64.wrap ((s[k].toNat : Int) - 48) = (s[k].toNat : Int) - 48 := by rw [u64w]; omega
              have hne : w.heap.size ≠ wo.heap.size := by omega
              by_cases hfit : (10 * T + (s[k].toNat - 48)) ≤ 18446744073709551615
              · have TN := toldp_fit s 0 k T o hfk hlt TP (by omega) (by omega)
                rw [Nat.mul_comm T 10] at TN
                have v3 : decide (0 < ((d3 (10 * T + (s[k].toNat - 48)) : Nat) : Int)) = false := decide_eq_false (by rw [(small_dig hfit).1]; omega)
                have v2 : decide (0 < ((d2 (10 * T + (s[k].toNat - 48)) : Nat) : Int)) = false := decide_eq_false (by rw [(small_dig hfit).2]; omega)
                have n3 : decide (0 < d3 (10 * T + (s[k].toNat - 48))) = false := decide_eq_false (by rw [(small_dig hfit).1]; omega)
                have n2 : decide (0 < d2 (10 * T + (s[k].toNat - 48))) = false := decide_eq_false (by rw [(small_dig hfit).2]; omega)
                go_wp2_with fail
                go_region_held3 (fun w' => w'.cell? ⟨wo.heap.size, 0, none⟩ = some (.int .u64 (d3 (10 * T) : Int)) ∧ w'.cell? ⟨wo.heap.size, 1, none⟩ = some (.int .u64 (d2 (10 * T) : Int)) ∧ w'.cell? ⟨wo.heap.size, 2, none⟩ = some (.int .u64 (d1 (10 * T) : Int)) ∧ w'.cell? ⟨wo.heap.size, 3, none⟩ = some (.int .u64 (d0 (10 * T) : Int))) (first | go_keep | exact ⟨(skeep hne (skeep hne (skeep hne (skeep hne ky3)))), (skeep hne (skeep hne (skeep hne (skeep hne ky2)))), (skeep hne (skeep hne (skeep hne (skeep hne ky1)))), (skeep hne (skeep hne (skeep hne (skeep hne ky0))))⟩) (first | (go_at_call 41; refine (plus_dig (10 * T) (s[k].toNat - 48) hcc _ HCV.out _).mono ?_; rintro e w4 ⟨rfl, h4⟩; have J4 := J.grow h4; obtain ⟨⟨kx3, kx2, kx1, kx0, kf0, kf1, kf2, kf3, _, kxs, _⟩, ky3, ky2, ky1, ky0, kq0, kq1, kq2, kq3, _, khs⟩ := id J4))
                go_wp2_with fail
                go_roundw
                case rel => exact ⟨k + 1, 10 * T + (s[k].toNat - 48), o, by omega, by go_num, rfl, hfit, J4.at0.put _, by omega, TN⟩
                case measure => simp [intOf]; omega
              · have TN := toldp_over s 0 k T o hfk hlt TP (by omega) (by omega) (by omega)
                obtain ⟨z3, z2⟩ := over_dig (N := (10 * T + (s[k].toNat - 48))) (by omega) (by omega)
                have v3 : decide (0 < ((d3 (10 * T + (s[k].toNat - 48)) : Nat) : Int)) = false := decide_eq_false (by rw [z3]; omega)
                have v2 : decide (0 < ((d2 (10 * T + (s[k].toNat - 48)) : Nat) : Int)) = true := decide_eq_true (by omega)
                have n3 : decide (0 < d3 (10 * T + (s[k].toNat - 48))) = false := decide_eq_false (by rw [z3]; omega)
                have n2 : decide (0 < d2 (10 * T + (s[k].toNat - 48))) = true := decide_eq_true z2
                have TN := Lib.hid TN
                clear z3 z2
                go_wp2_with fail
                go_region_held3 (fun w' => w'.cell? ⟨wo.heap.size, 0, none⟩ = some (.int .u64 (d3 (10 * T) : Int)) ∧ w'.cell? ⟨wo.heap.size, 1, none⟩ = some (.int .u64 (d2 (10 * T) : Int)) ∧ w'.cell? ⟨wo.heap.size, 2, none⟩ = some (.int .u64 (d1 (10 * T) : Int)) ∧ w'.cell? ⟨wo.heap.size, 3, none⟩ = some (.int .u64 (d0 (10 * T) : Int))) (first | go_keep | exact ⟨(skeep hne (skeep hne (skeep hne (skeep hne ky3)))), (skeep hne (skeep hne (skeep hne (skeep hne ky2)))), (skeep hne (skeep hne (skeep hne (skeep hne ky1)))), (skeep hne (skeep hne (skeep hne (skeep hne ky0))))⟩) (first | (go_at_call 41; refine (plus_dig (10 * T) (s[k].toNat - 48) hcc _ HCV.out _).mono ?_; rintro e w4 ⟨rfl, h4⟩; have J4 := J.grow h4; obtain ⟨⟨kx3, kx2, kx1, kx0, kf0, kf1, kf2, kf3, _, kxs, _⟩, ky3, ky2, ky1, ky0, kq0, kq1, kq2, kq3, _, khs⟩ := id J4))
                go_wp2_with fail
                go_roundw
                case rel => exact ⟨k + 1, 0, true, by omega, by go_num, rfl, by omega, (J4.at0.put (10 * T + (s[k].toNat - 48))).put 0, by omega, TN.out⟩
                case measure => simp [intOf]; omega
    · obtain rfl : k = s.size := by omega
      have FIN := read_fin s 0 T false o HM.out HA.out HH.out TP
      obtain ⟨ux3, ux2, ux1, ux0, _, _, _, _, _, _, gw⟩ := id R
      have hTf : Hid (T < 340282366920938463463374607431768211456) := Lib.hid (by omega)
      cases o with
      | true =>
        have E1 := Lib.hid (FIN.2 rfl).1
        have E2 := Lib.hid (FIN.2 rfl).2
        clear FIN
        go_wp2_with fail
        go_ret2
        exact ⟨ret2i E1.out.symm E2.out.symm, gw⟩
      | false =>
        have E1 := Lib.hid (FIN.1 rfl).1
        have E2 := Lib.hid (FIN.1 rfl).2
        clear FIN
        go_wp2_with fail
        refine (fit_x false T hTf.out _).mono ?_
        rintro e w5 ⟨rfl, h5⟩
        go_wp2_with fail
        go_ret2
        exact ⟨ret2i E1.out.symm E2.out.symm, grown_trans gw h5⟩
end Go.Proofs.YtdblkjcimegoeaaDoor
