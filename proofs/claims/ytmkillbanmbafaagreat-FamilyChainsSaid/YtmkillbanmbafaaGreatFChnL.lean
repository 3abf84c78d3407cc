/- Of entities one above the other each one is in those above it, and in no other; above it are just these. No condition. -/
import Derived.Test.YtmkillbanmbafaaGreatNilX
import Derived.Test.YtmkillbanmbafaaGreatChainL
import Derived.Deep.RegionLawGrows
namespace Go.Proofs.YtmkillbanmbafaaGreat
open Go.RowKit Go.Sort Go.Maps
theorem usAt_len6 {w : World} {v : Value} {l : List Us} (h : UsAt w v l) : ∃ ao c, v = .slice ao l.length c := by
  obtain ⟨ao, c, h, -⟩ := h
  exact ⟨ao, c, h⟩
theorem way_fcan {k : Nat} (hk : k ≤ 12) (f : Nat → Bool) {i j : Nat} (hi : i < k) (hj : j < k) : Way (stepE (canE canD (fcL k f)).2) (nmU i) (nmU j) ↔ i < j := (way_can (can_fc hk f)).trans (way_fc_iff hk f hi hj)
theorem in_fc {k : Nat} (hk : k ≤ 12) (f : Nat → Bool) {i j : Nat} (hi : i < k) (hj : j < k) : inB (canE canD (fcL k f)).2 (nmU i) (nmU j) = decide (i ≤ j) := by
  rw [Bool.eq_iff_iff, inB_iff, way_fcan hk f hi hj, decide_eq_true_eq]
  constructor
  · rintro (h | h)
    · have := nm_inj (by omega) (by omega) h; omega
    · omega
  · intro h
    rcases Nat.lt_or_eq_of_le h with h | h
    · exact .inr h
    · exact .inl (by rw [h])
theorem nodup_up {i m : Nat} (h : i + m < 12) : ((List.range m).map fun d => nmU (i + 1 + d)).Nodup := by
  rw [List.nodup_iff_pairwise_ne, List.pairwise_map]
  refine (List.pairwise_lt_range (n := m)).imp_of_mem fun {a b} ha hb hab e => ?_
  have := nm_inj (by have := List.mem_range.1 ha; omega) (by have := List.mem_range.1 hb; omega) e
  omega
theorem abv_fc_len {k : Nat} (hk : k ≤ 12) (f : Nat → Bool) {i : Nat} (hi : i < k) : (abvN (canE canD (fcL k f)).2 (nmU i)).length = k - 1 - i := by
  have hG : ((List.range (k - 1 - i)).map fun d => nmU (i + 1 + d)).length = k - 1 - i := by simp
  rw [← hG]
  have hF : (abvN (canE canD (fcL k f)).2 (nmU i)).Nodup := (rises_names (canE_closed (can_fc hk f)).2.2).filter _
  have hm : ∀ x, x ∈ abvN (canE canD (fcL k f)).2 (nmU i) ↔ x ∈ (List.range (k - 1 - i)).map fun d => nmU (i + 1 + d) := fun x => by
    unfold abvN
    rw [List.mem_filter, can_names (can_fc hk f), mem_names_fc, List.mem_map]
    constructor
    · rintro ⟨⟨j, hj, rfl⟩, hw⟩
      have hw2 : Way (stepE (canE canD (fcL k f)).2) (nmU i) (nmU j) := by simpa using hw
      rw [way_fcan hk f hi hj] at hw2
      exact ⟨j - i - 1, List.mem_range.2 (by omega), by rw [show i + 1 + (j - i - 1) = j by omega]⟩
    · rintro ⟨d, hd, rfl⟩
      have hd' := List.mem_range.1 hd
      refine ⟨⟨i + 1 + d, by omega, rfl⟩, ?_⟩
      have : Way (stepE (canE canD (fcL k f)).2) (nmU i) (nmU (i + 1 + d)) := (way_fcan hk f hi (by omega)).2 (by omega)
      simpa using this
  exact Nat.le_antisymm (len_sub _ _ hF fun x hx => (hm x).1 hx) (len_sub _ _ (nodup_up (by omega)) fun x hx => (hm x).2 hx)
theorem sm_fc {k : Nat} (hk : k ≤ 12) (f : Nat → Bool) : (∀ e ∈ fcL k f, SmE e) ∧ (fcL k f).length ≤ 20 := by
  refine ⟨fun e he => ?_, by unfold fcL; rw [List.length_map, List.length_range]; omega⟩
  obtain ⟨i, -, rfl⟩ := List.mem_map.1 he
  refine ⟨sm_r0, by show dep r0 ≤ 61; decide, ?_⟩
  show (fcP k f i).length ≤ 20
  unfold fcP
  rw [List.length_append]
  have h1 : (if i + 1 < k then [nmU (i + 1)] else []).length ≤ 1 := by split <;> simp
  have h2 : (if i + 2 < k ∧ f i = true then [nmU (i + 2)] else []).length ≤ 1 := by split <;> simp
  omega
theorem fc_take {k : Nat} {f : Nat → Bool} {i : Nat} (hi : i < k) : (fcL k f).take (i + 1) = (fcL k f).take i ++ [fcE k f i] := by
  have hl : i < (fcL k f).length := by simpa [fcL] using hi
  rw [List.take_succ_eq_append_getElem hl]
  simp [fcL]
set_option maxHeartbeats 16000000 in
set_option maxRecDepth 100000 in
theorem familyChains_v (nb : Int) (h0 : 0 ≤ nb) (_ : nb ≤ 255) (sb : Int) (_ : 0 ≤ sb) (_ : sb ≤ 255) (w : World) : Calls Tryz.prog 6 #[.int .u8 nb, .int .u8 sb] w fun e w' => e = .returned (.bool true) ∧ Low w w' := by
  obtain ⟨k, hk⟩ : ∃ k : Nat, (k : Int) = 1 + nb % 12 := ⟨(1 + nb % 12).toNat, by omega⟩
  have mixed : Tryz.prog.follows .mixedOrders = true := by kernel_rfl
  have hk0 : 0 < k := by omega
  have hk12 : k ≤ 12 := by omega
  have f1 : Int.tmod nb 12 = nb % 12 := Int.tmod_eq_emod_of_nonneg h0
  have f2 : IntKind.u8.wrap (nb % 12) = nb % 12 := by rw [IntKind.wrap_u8]; omega
  have f3 : IntKind.i64.wrap (nb % 12) = nb % 12 := by rw [IntKind.wrap_i64]; omega
  have f4 : IntKind.i64.wrap (1 + nb % 12) = (k : Int) := by rw [hk, IntKind.wrap_i64]; omega
  clear hk
  obtain ⟨f, hf⟩ : ∃ f : Nat → Bool, ∀ i, f i = (bits BinOp.and IntKind.u8 (sb / 2 ^ min (i % 8) 8) 1 == 1) := ⟨fun i => (bits BinOp.and IntKind.u8 (sb / 2 ^ min (i % 8) 8) 1 == 1), fun i => rfl⟩
  have HF := Lib.hid hf
  clear hf
  go_enter Tryz.func6, Tryz.ntmps6
  go_wp2_with fail
  refine (awake6_c _).mono ?_
  rintro e w1 ⟨rfl, l1⟩
  have L1 := Lib.hid l1
  clear l1
  go_wp2_with fail
  go_loopg [7, 8] k (fun gk vs vi wr => ∃ (vl : Value) (i : Nat) (ls : List Ee), vl = vs ∧ vi = .int .i64 (i : Int) ∧ i ≤ k ∧ k - i ≤ gk ∧ ls.length = i ∧ Hid (Low w1 wr) ∧ Hid (OwnE w1.heap.size wr vl ls) ∧ Hid (ensOf ls = (fcL k f).take i) ∧ Hid (∀ p ∈ ls, EeOk (fun b => some b ≠ vl.ownBlock) wr p))
  case atStart => exact ⟨_, 0, [], rfl, rfl, Nat.zero_le _, Nat.le_refl _, rfl, Lib.hid (Low.refl _), Lib.hid (OwnR.nil _ _ _ _ _), Lib.hid rfl, Lib.hid fun p hp => by simp at hp⟩
  case round =>
    obtain ⟨vl, i, ls, rfl, rfl, hi, hg, hll, G, O, K, EL⟩ := hrel
    have HLL := Lib.hid hll
    clear hll
    by_cases hlt : i < k
    · have zl : (i : Int) < (k : Int) := by omega
      have z12 : (i : Int) + 1 ≤ 12 := by omega
      have hw1 : IntKind.i64.wrap ((i : Int) + 1) = (i : Int) + 1 := by rw [IntKind.wrap_i64]; omega
      have hw2 : IntKind.i64.wrap ((i : Int) + 2) = (i : Int) + 2 := by rw [IntKind.wrap_i64]; omega
      have HTK := Lib.hid (fc_take (f := f) hlt)
      have HSZ := Lib.hid G.out.size
      have s1 := slice_abc wr i (i + 1) (i : Int) ((i : Int) + 1) rfl (by omega) (by omega) (by omega)
      by_cases hik : i + 1 < k
      · have zk : (i : Int) + 1 < (k : Int) := by omega
        have z13 : (i : Int) + 2 ≤ 12 := by omega
        have s2 : ∀ X, _ := fun X => slice_abc (wr.alloc X) (i + 1) (i + 2) ((i : Int) + 1) ((i : Int) + 2) (by omega) (by omega) (by omega) (by omega)
        by_cases hik2 : i + 2 < k
        · have zk2 : (i : Int) + 2 < (k : Int) := by omega
          have hm1 : Int.tmod (i : Int) 8 = ((i % 8 : Nat) : Int) := by rw [Int.tmod_eq_emod_of_nonneg (by omega)]; omega
          have hm2 : IntKind.i64.wrap ((i % 8 : Nat) : Int) = ((i % 8 : Nat) : Int) := by rw [IntKind.wrap_i64]; omega
          have hm3 : IntKind.u64.wrap ((i % 8 : Nat) : Int) = ((i % 8 : Nat) : Int) := by rw [IntKind.wrap_u64]; omega
          obtain ⟨m, hm⟩ : ∃ m, m = i % 8 := ⟨_, rfl⟩
          rw [← hm] at hm1 hm2 hm3
          obtain ⟨t, ht⟩ : ∃ t, (bits BinOp.and IntKind.u8 (sb / 2 ^ min m 8) 1 == 1) = t := ⟨_, rfl⟩
          have HFI := Lib.hid (show f i = t by rw [HF.out, ← hm, ht])
          clear hm
          cases t with
          | false =>
            go_wp2_with (first
              | (at_builtin; refine appR rfl _ _ _ rfl Tryz.underlying22 e_info rfl (by decide) (by decide) encE_len encE_one w1.heap.size vl ls rfl (((O.out.alloc _).alloc _).alloc _) ⟨⟨nmU i, [nmU (i + 1)], r0⟩, some ⟨wr.heap.size + 1, 0, none⟩, 1, none, 0, none, 0⟩ ⟨wr.heap.size + 1 + 1, 0, none⟩ 1 rfl (fun j u hj => newcell_at _ _ _ _ _ rfl hj) (by have := HLL.out; omega) (by have := HSZ.out; simp; omega) ?_; intro v2 w4 h2 b2 k2 n2))
            have H2 := Lib.hid h2
            have HBL := Lib.hid b2
            have HK2 := Lib.hid k2
            have HN2 := Lib.hid n2
            clear h2 b2 k2 n2
            go_wp2_with fail
            go_roundg (k - (i + 1))
            case measure => omega
            case rel =>
              have hU : ∀ X, OwnU wr.heap.size ((wr.alloc X).alloc (.cells #[.string (nmU (i + 1)).t, .string (nmU (i + 1)).i] 24)) (.slice (some ⟨wr.heap.size + 1, 0, none⟩) 1 1) [nmU (i + 1)] := fun X => own_built (allocC_at1 wr X _) (Nat.le_succ _)
              refine ⟨v2, i + 1, ls ++ [⟨⟨nmU i, [nmU (i + 1)], r0⟩, some ⟨wr.heap.size + 1, 0, none⟩, 1, none, 0, none, 0⟩], rfl, by go_num, by omega, by omega, by simp [HLL.out], Lib.hid (((Low.alloc (Low.alloc (Low.alloc G.out _) _) _)).trans_belowU HBL.out (Nat.le_refl _)), H2, Lib.hid ?_, Lib.hid ?_⟩
              · rw [HTK.out, ← K.out]
                unfold ensOf
                rw [List.map_append]
                simp [fcE, fcP, hik, hik2, HFI.out]
              · exact ee_stepA rfl G.out EL.out (Low.alloc (Low.alloc (Low.refl _) _) _) (Low.alloc (Low.refl _) _) O.out (hU _) rfl (rep_r0 _) HK2.out HN2.out H2.out
          | true =>
            obtain ⟨V, hV⟩ : ∃ W, W = (wr.alloc (.cells #[.string ⟨#[85]⟩, .string (abc.extract i (i + 1)), .slice (some ⟨wr.heap.size + 1, 0, none⟩) 1 1, .int .i64 6, .bool false, .int .i64 0, .string ⟨#[]⟩, .string ⟨#[]⟩, .string ⟨#[]⟩, .slice none 0 0, .slice none 0 0] 39)).alloc (.cells #[.string ⟨#[85]⟩, .string (abc.extract (i + 1) (i + 2))] 24) := ⟨_, rfl⟩
            have HV := Lib.hid hV
            have LV := Lib.hid (show Low wr V by rw [hV]; exact Low.alloc (Low.alloc (Low.refl wr) _) _)
            have HZV := Lib.hid (show V.heap.size = wr.heap.size + 1 + 1 by rw [hV]; simp)
            have BE := Lib.hid (show BoxAt V wr.heap.size [.string ⟨#[85]⟩, .string (abc.extract i (i + 1)), .slice (some ⟨wr.heap.size + 1, 0, none⟩) 1 1, .int .i64 6, .bool false, .int .i64 0, .string ⟨#[]⟩, .string ⟨#[]⟩, .string ⟨#[]⟩, .slice none 0 0, .slice none 0 0] from BoxAt.low (BoxAt.made (w := wr) (W := wr.alloc (.cells #[.string ⟨#[85]⟩, .string (abc.extract i (i + 1)), .slice (some ⟨wr.heap.size + 1, 0, none⟩) 1 1, .int .i64 6, .bool false, .int .i64 0, .string ⟨#[]⟩, .string ⟨#[]⟩, .string ⟨#[]⟩, .slice none 0 0, .slice none 0 0] 39)) rfl rfl rfl) (by rw [hV]; exact Low.alloc (Low.refl _) _))
            have OU := Lib.hid (show OwnU wr.heap.size V (.slice (some ⟨wr.heap.size + 1, 0, none⟩) 1 1) [nmU (i + 1)] by rw [hV]; exact own_built (allocC_at1 wr _ _) (Nat.le_succ _))
            have s3 := slice_abc V.drew (i + 2) (i + 3) ((i : Int) + 2) ((i : Int) + 3) (by omega) (by omega) (by omega) (by omega)
            have z14 : (i : Int) + 3 ≤ 12 := by omega
            have hw3 : IntKind.i64.wrap ((i : Int) + 3) = (i : Int) + 3 := by rw [IntKind.wrap_i64]; omega
            clear hV
            go_upto_region 13 with fail
            rw [← HV.out]
            clear HV s1 s2
            have e2 := BE.out.at 2 _ rfl
            have e2X := fun X => (BE.out.low (Low.alloc (Low.refl V) X)).at 2 _ rfl
            have OX := Lib.hid (OwnR.alloc (OwnR.low OU.out (Gr.refl V).drew.low) (.cells #[.string ⟨#[85]⟩, .string (abc.extract (i + 2) (i + 3))] 24))
            have LX := Lib.hid (show Low V (V.drew.alloc (.cells #[.string ⟨#[85]⟩, .string (abc.extract (i + 2) (i + 3))] 24)) from (Gr.refl V).drew.low.trans (Low.alloc (Low.refl _) _))
            have HSX := Lib.hid (show wr.heap.size ≤ (V.drew.alloc (.cells #[.string ⟨#[85]⟩, .string (abc.extract (i + 2) (i + 3))] 24)).heap.size from (LV.out.trans LX.out).size)
            have BEX := Lib.hid (BE.out.low LX.out)
            go_region_law (first
              | (refine ownR_step2 rfl _ _ _ rfl Tryz.underlying33 u_info rfl (by decide) (by decide) encU_len encU_one wr.heap.size (.slice (some ⟨wr.heap.size + 1, 0, none⟩) 1 1) [nmU (i + 1)] rfl OX.out (nmU (i + 2)) ⟨V.heap.size, 0, none⟩ 1 rfl (fun j u hj => newcell_at _ _ _ _ _ rfl hj) (by simp) HSX.out ?_; intro v6 w6 O6 B6 K6 N6; obtain ⟨a6, c6, hv6, -, -, -⟩ := OwnR.shape O6; replace hv6 : v6 = .slice a6 2 c6 := hv6; subst hv6; have HB6 := Lib.hid (show RowKit.Below wr.heap.size (V.drew.alloc (.cells #[.string ⟨#[85]⟩, .string (abc.extract (i + 2) (i + 3))] 24)) w6 from B6); have HK6 := Lib.hid (show KeptBut (V.drew.alloc (.cells #[.string ⟨#[85]⟩, .string (abc.extract (i + 2) (i + 3))] 24)) w6 (some (wr.heap.size + 1)) from ⟨B6.os, B6.output, B6.size, K6⟩); have HO6 := Lib.hid (show OwnU wr.heap.size w6 _ _ from O6); have HN6 := Lib.hid (show (Value.slice a6 2 c6).ownBlock = some (wr.heap.size + 1) ∨ ∀ g, (Value.slice a6 2 c6).ownBlock = some g → (V.drew.alloc (.cells #[.string ⟨#[85]⟩, .string (abc.extract (i + 2) (i + 3))] 24)).heap.size ≤ g from N6); have BE6 := Lib.hid (BEX.out.kept HK6.out (by simp)); have e2 := BE6.out.at 2 _ rfl; have z2 := BE6.out.open' 2; clear O6 B6 K6 N6))
            all_goals
              obtain ⟨W5, hW5⟩ : ∃ W, W = w6.setCell ⟨wr.heap.size, 2, none⟩ (.slice a6 2 c6) := ⟨_, rfl⟩
              have HW5 := Lib.hid hW5
              have K5 := Lib.hid (show KeptBut w6 W5 (some wr.heap.size) from hW5 ▸ kept_setCell _ _ _ _)
              have BE5 := Lib.hid (show BoxAt W5 wr.heap.size [.string ⟨#[85]⟩, .string (abc.extract i (i + 1)), .slice a6 2 c6, .int .i64 6, .bool false, .int .i64 0, .string ⟨#[]⟩, .string ⟨#[]⟩, .string ⟨#[]⟩, .slice none 0 0, .slice none 0 0] from hW5 ▸ BE6.out.put 2 _)
              have L5 := Lib.hid (show Low wr W5 from ((LV.out.trans LX.out).trans_belowU HB6.out (Nat.le_refl _)).kept K5.out fun g hg => by simp at hg; omega)
              have O5 := Lib.hid (show OwnU wr.heap.size W5 (.slice a6 2 c6) [nmU (i + 1), nmU (i + 2)] from HO6.out.to fun g hg => K5.out.2.2.2 g (World.ownsRow.lt HO6.out g hg).2 (fun e => by
                simp at e
                rcases HN6.out with h | h
                · rw [h] at hg; simp at hg; omega
                · have := h g hg
                  have h3 := (LV.out.trans LX.out).size
                  have h4 := HZV.out
                  have h5 := LX.out.size
                  omega))
              have OE5 := Lib.hid (OwnR.low O.out L5.out)
              have hsz5 : w1.heap.size ≤ W5.heap.size := Nat.le_trans HSZ.out L5.out.size
              rw [← hW5]
              clear hW5 HW5 e2 z2
              obtain ⟨e0, e1, e2, e3, e4, e5, e6, e7, e8, e9, e10⟩ := BE5.out.at11
              go_wp2_with (first
                | (at_builtin; refine appR rfl _ _ _ rfl Tryz.underlying22 e_info rfl (by decide) (by decide) encE_len encE_one w1.heap.size vl ls rfl (OE5.out.alloc _) ⟨⟨nmU i, [nmU (i + 1), nmU (i + 2)], r0⟩, a6, c6, none, 0, none, 0⟩ ⟨W5.heap.size, 0, none⟩ 1 rfl (fun j u hj => newcell_at _ _ _ _ _ rfl hj) (by have := HLL.out; omega) (by show w1.heap.size ≤ (W5.alloc _).heap.size; rw [size_alloc9]; omega) ?_; intro v2 w4 h2 b2 k2 n2))
              have H2 := Lib.hid h2
              have HBL := Lib.hid b2
              have HK2 := Lib.hid k2
              have HN2 := Lib.hid n2
              clear h2 b2 k2 n2 e0 e1 e2 e3 e4 e5 e6 e7 e8 e9 e10
              go_wp2_with fail
              go_roundg (k - (i + 1))
              case measure => omega
              case rel =>
                refine ⟨v2, i + 1, ls ++ [⟨⟨nmU i, [nmU (i + 1), nmU (i + 2)], r0⟩, a6, c6, none, 0, none, 0⟩], rfl, by go_num, by omega, by omega, by simp [HLL.out], Lib.hid ((Low.alloc (G.out.trans L5.out) _).trans_belowU HBL.out (Nat.le_refl _)), H2, Lib.hid ?_, Lib.hid ?_⟩
                · rw [HTK.out, ← K.out]
                  unfold ensOf
                  rw [List.map_append]
                  simp [fcE, fcP, hik, hik2, HFI.out]
                · exact ee_stepA rfl G.out EL.out L5.out (Low.alloc (Low.refl _) _) O.out O5.out rfl (rep_r0 _) HK2.out HN2.out H2.out
        · have zk2 : ¬ (i : Int) + 2 < (k : Int) := by omega
          go_wp2_with (first
            | (at_builtin; refine appR rfl _ _ _ rfl Tryz.underlying22 e_info rfl (by decide) (by decide) encE_len encE_one w1.heap.size vl ls rfl (((O.out.alloc _).alloc _).alloc _) ⟨⟨nmU i, [nmU (i + 1)], r0⟩, some ⟨wr.heap.size + 1, 0, none⟩, 1, none, 0, none, 0⟩ ⟨wr.heap.size + 1 + 1, 0, none⟩ 1 rfl (fun j u hj => newcell_at _ _ _ _ _ rfl hj) (by have := HLL.out; omega) (by have := HSZ.out; simp; omega) ?_; intro v2 w4 h2 b2 k2 n2))
          have H2 := Lib.hid h2
          have HBL := Lib.hid b2
          have HK2 := Lib.hid k2
          have HN2 := Lib.hid n2
          clear h2 b2 k2 n2
          go_wp2_with fail
          go_roundg (k - (i + 1))
          case measure => omega
          case rel =>
            have hU : ∀ X, OwnU wr.heap.size ((wr.alloc X).alloc (.cells #[.string (nmU (i + 1)).t, .string (nmU (i + 1)).i] 24)) (.slice (some ⟨wr.heap.size + 1, 0, none⟩) 1 1) [nmU (i + 1)] := fun X => own_built (allocC_at1 wr X _) (Nat.le_succ _)
            refine ⟨v2, i + 1, ls ++ [⟨⟨nmU i, [nmU (i + 1)], r0⟩, some ⟨wr.heap.size + 1, 0, none⟩, 1, none, 0, none, 0⟩], rfl, by go_num, by omega, by omega, by simp [HLL.out], Lib.hid (((Low.alloc (Low.alloc (Low.alloc G.out _) _) _)).trans_belowU HBL.out (Nat.le_refl _)), H2, Lib.hid ?_, Lib.hid ?_⟩
            · rw [HTK.out, ← K.out]
              unfold ensOf
              rw [List.map_append]
              simp [fcE, fcP, hik, hik2]
            · exact ee_stepA rfl G.out EL.out (Low.alloc (Low.alloc (Low.refl _) _) _) (Low.alloc (Low.refl _) _) O.out (hU _) rfl (rep_r0 _) HK2.out HN2.out H2.out
      · have zk : ¬ (i : Int) + 1 < (k : Int) := by omega
        have hik2 : ¬ i + 2 < k := by omega
        have zk2 : ¬ (i : Int) + 2 < (k : Int) := by omega
        go_wp2_with (first
          | (at_builtin; refine appR rfl _ _ _ rfl Tryz.underlying22 e_info rfl (by decide) (by decide) encE_len encE_one w1.heap.size vl ls rfl ((O.out.alloc _).alloc _) ⟨⟨nmU i, [], r0⟩, none, 0, none, 0, none, 0⟩ ⟨wr.heap.size + 1, 0, none⟩ 1 rfl (fun j u hj => newcell_at _ _ _ _ _ rfl hj) (by have := HLL.out; omega) (by have := HSZ.out; simp; omega) ?_; intro v2 w4 h2 b2 k2 n2))
        have H2 := Lib.hid h2
        have HBL := Lib.hid b2
        have HK2 := Lib.hid k2
        have HN2 := Lib.hid n2
        clear h2 b2 k2 n2
        go_wp2_with fail
        go_roundg (k - (i + 1))
        case measure => omega
        case rel =>
          have hU : ∀ X, OwnU wr.heap.size (wr.alloc X) (.slice none 0 0) [] := fun X => OwnR.nil _ _ _ _ _
          refine ⟨v2, i + 1, ls ++ [⟨⟨nmU i, [], r0⟩, none, 0, none, 0, none, 0⟩], rfl, by go_num, by omega, by omega, by simp [HLL.out], Lib.hid (((Low.alloc (Low.alloc G.out _) _)).trans_belowU HBL.out (Nat.le_refl _)), H2, Lib.hid ?_, Lib.hid ?_⟩
          · rw [HTK.out, ← K.out]
            unfold ensOf
            rw [List.map_append]
            simp [fcE, fcP, hik, hik2]
          · exact ee_stepA rfl G.out EL.out (Low.alloc (Low.refl _) _) (Low.alloc (Low.refl _) _) O.out (hU _) rfl (rep_r0 _) HK2.out HN2.out H2.out
    · have zl : ¬ (i : Int) < (k : Int) := by omega
      obtain rfl : i = k := by omega
      have HKK := Lib.hid (show ensOf ls = fcL i f from by have := K.out; rwa [List.take_of_length_le (by simp [fcL])] at this)
      have HET := Lib.hid (show EtAt wr vl ls from ⟨O.out.esAt, fun p hp => (EL.out p hp).any⟩)
      have HLN := Lib.hid (show ls.length = i from HLL.out)
      obtain ⟨av, cv, rfl, ⟨hv1, hv2⟩, hvx⟩ := HET.out.at
      rw [HLN.out] at hv1 ⊢
      have HVX := Lib.hid hvx
      obtain ⟨hs1, hs2⟩ := sm_fc hk12 f
      have HLD := load_c ls wr _ HET.out (few_sm (by rw [HKK.out]; exact hs2) (by rw [HKK.out]; exact hs1)) (fun q hq => (hs1 q.e (by rw [← HKK.out]; exact List.mem_map_of_mem hq)).1)
      have HC0 := Lib.hid (can_fc hk12 f)
      obtain ⟨c1, res1, hres⟩ : ∃ c1 res1, canE canD (fcL i f) = (c1, res1) := ⟨_, _, rfl⟩
      have hc1 : c1 = 0 := by have := HC0.out; rw [hres] at this; exact this
      subst hc1
      rw [HKK.out, hres, HLN.out] at HLD
      have HRES := Lib.hid (show (canE canD (fcL i f)).2 = res1 by rw [hres])
      have HLD2 := Lib.hid HLD
      have GG := Lib.hid (L1.out.trans G.out)
      have HGD := Lib.hid (show GoodC (canE canD (fcL i f)).2 from good_can HC0.out hs2 hs1)
      clear O EL K HF HLD hres hs1 hs2 hvx G
      have HI0 := Lib.hid hk0
      clear hk0
      obtain ⟨k, hk⟩ : ∃ k, k = i := ⟨_, rfl⟩
      subst hk
      rename World => wl
      go_wp2_with fail
      refine HLD2.out.mono ?_
      rintro e w3 (⟨h0', -, -⟩ | ⟨-, z, rs, rfl, l3, hrs, hs, hma⟩)
      · exact absurd rfl h0'
      have HRS := Lib.hid (show ensOf rs = (canE canD (fcL k f)).2 by rw [HRES.out]; exact hrs)
      have HG := Lib.hid (show GoodC (ensOf rs) by rw [HRS.out]; exact HGD.out)
      have L3 := Lib.hid (GG.out.trans l3)
      have HMA := Lib.hid (show w.heap.size ≤ z.ma from Nat.le_trans GG.out.size hma)
      have HS := Lib.hid hs
      have HL0 := Lib.hid l3
      have HCL := Lib.hid (show ∀ j (hj : j < ls.length), ∃ b o, av = some ⟨b, o, none⟩ ∧ CellsAt w3 b (o + j * 11) ls[j].sh.cs from fun j hj => by
        obtain ⟨b, o, e, h⟩ := HVX.out j hj
        exact ⟨b, o, e, l3.cells h⟩)
      have HNM := Lib.hid (show ∀ j (hj : j < ls.length), ls[j].e.u = nmU j from fun j hj => by
        have h1 : (ensOf ls)[j]? = (fcL k f)[j]? := by rw [HKK.out]
        have h2 : j < k := by rw [← HLN.out]; exact hj
        unfold ensOf fcL at h1
        simp [hj, h2] at h1
        rw [h1]; rfl)
      have HAB := Lib.hid (show ∀ j, j < k → (abvN (ensOf rs) (nmU j)).length = k - 1 - j from fun j hj => by rw [HRS.out]; exact abv_fc_len hk12 f hj)
      have HIN := Lib.hid (show ∀ i j, i < k → j < k → inB (ensOf rs) (nmU i) (nmU j) = decide (i ≤ j) from fun i j hi hj => by rw [HRS.out]; exact in_fc hk12 f hi hj)
      have HLW := Lib.hid (Lw.refl (m := z.ma) (w := w3) hs.isMap)
      clear l3 hrs hs hma HLD2 HVX HET HRS HGD HRES HC0 HKK
      go_wp2_with fail
      go_loopg [12] k (fun gk vi wr => ∃ i : Nat, vi = .int .i64 (i : Int) ∧ i ≤ k ∧ k - i ≤ gk ∧ Hid (Lw z.ma w3 wr) ∧ Hid (Sto wr z rs))
      case atStart => exact ⟨0, rfl, Nat.zero_le _, Nat.le_refl _, HLW, HS⟩
      case round =>
        clear HLW HS
        obtain ⟨i, rfl, hi, hg, L, S⟩ := hrel
        by_cases hlt : i < k
        · have zl : (i : Int) < (k : Int) := by omega
          have hil : i < ls.length := by rw [HLN.out]; exact hlt
          obtain ⟨bi, oi, rfl, hci⟩ := HCL.out i hil
          obtain ⟨e0, e1, -⟩ := ee11 (L.out.cells hci)
          rw [HNM.out i hil] at e0 e1
          have HCI := Lib.hid hci
          have HA := Lib.hid (above6_c wr z rs (nmU i) S.out HG.out)
          obtain ⟨n, hn⟩ : ∃ n, n = k - 1 - i := ⟨_, rfl⟩
          have hnz : (n : Int) = (k : Int) - 1 - (i : Int) := by omega
          have zw1 : IntKind.i64.wrap ((k : Int) - 1) = (k : Int) - 1 := by rw [IntKind.wrap_i64]; omega
          have zw2 : IntKind.i64.wrap ((k : Int) - 1 - (i : Int)) = (n : Int) := by rw [IntKind.wrap_i64]; omega
          have HLEN := Lib.hid (show (abvN (ensOf rs) (nmU i)).length = n by rw [hn]; exact HAB.out i hlt)
          clear hci hn hnz
          go_wp2_with fail
          refine HA.out.mono ?_
          rintro e w5 ⟨v5, rfl, hu5, hs5, l5⟩
          obtain ⟨a5, c5, hv5⟩ := usAt_len6 hu5
          rw [HLEN.out] at hv5
          subst hv5
          have L5 := Lib.hid (L.out.trans l5)
          have S5 := Lib.hid hs5
          clear hu5 hs5 l5 e0 e1 HA L S HLEN
          go_wp2_with fail
          go_loopg [13] k (fun gj vj wi => ∃ j : Nat, vj = .int .i64 (j : Int) ∧ j ≤ k ∧ k - j ≤ gj ∧ Hid (Lw z.ma w3 wi) ∧ Hid (Sto wi z rs))
          case atStart => exact ⟨0, rfl, Nat.zero_le _, Nat.le_refl _, L5, S5⟩
          case round =>
            clear L5 S5 zw1 zw2
            obtain ⟨j, rfl, hj, hgj, L, S⟩ := hrel
            by_cases hjt : j < k
            · have zj : (j : Int) < (k : Int) := by omega
              have hjl : j < ls.length := by rw [HLN.out]; exact hjt
              obtain ⟨bj, oj, hbj, hcj⟩ := HCL.out j hjl
              simp only [Option.some.injEq, Addr.mk.injEq] at hbj
              obtain ⟨rfl, rfl, -⟩ := hbj
              obtain ⟨e0, e1, -⟩ := ee11 (L.out.cells HCI.out)
              obtain ⟨d0, d1, -⟩ := ee11 (L.out.cells hcj)
              rw [HNM.out i hil] at e0 e1
              rw [HNM.out j hjl] at d0 d1
              have e0 := fun p => cls_cell (z := z) (rs := rs) e0 p
              have e1 := fun p => cls_cell (z := z) (rs := rs) e1 p
              have d0 := fun p => cls_cell (z := z) (rs := rs) d0 p
              have d1 := fun p => cls_cell (z := z) (rs := rs) d1 p
              have hin := HIN.out i j hlt hjt
              clear hcj
              by_cases hij : i ≤ j
              · have zij : (i : Int) ≤ (j : Int) := by omega
                rw [decide_eq_true hij] at hin
                have HI := Lib.hid fun p => cls_in (z := z) (W := wr) HG.out (nmU i) (nmU j) hin p
                clear hin
                go_wp2_with fail
                haveI : Nonempty (InC (ClsS z rs wr)) := ⟨⟨wr.drew, ClsS.start S.out⟩⟩
                refine wp_region_cls (ClsS z rs wr) mixed (by kernel_rfl) (ClsS.start S.out) ?_
                repeat (quiet_step ((first | (with_reducible exact HI.out _))))
                refine wpQuiet_nil ?_
                rintro W8 ⟨p8, hW8⟩
                have L8 := Lib.hid (show Lw z.ma wr W8 by rw [hW8]; exact p8.ok.2)
                have S8 := Lib.hid (show Sto W8 z rs by rw [hW8]; exact p8.ok.1)
                clear hW8 p8 e0 e1 d0 d1 HI
                go_wp2_with fail
                go_roundg (k - (j + 1))
                case measure => omega
                case rel => exact ⟨j + 1, by go_num, by omega, by omega, Lib.hid (L.out.trans L8.out), S8⟩
              · have zij : ¬ (i : Int) ≤ (j : Int) := by omega
                rw [decide_eq_false hij] at hin
                have HI := Lib.hid fun p => cls_in (z := z) (W := wr) HG.out (nmU i) (nmU j) hin p
                clear hin
                go_wp2_with fail
                haveI : Nonempty (InC (ClsS z rs wr)) := ⟨⟨wr.drew, ClsS.start S.out⟩⟩
                refine wp_region_cls (ClsS z rs wr) mixed (by kernel_rfl) (ClsS.start S.out) ?_
                repeat (quiet_step ((first | (with_reducible exact HI.out _))))
                refine wpQuiet_nil ?_
                rintro W8 ⟨p8, hW8⟩
                have L8 := Lib.hid (show Lw z.ma wr W8 by rw [hW8]; exact p8.ok.2)
                have S8 := Lib.hid (show Sto W8 z rs by rw [hW8]; exact p8.ok.1)
                clear hW8 p8 e0 e1 d0 d1 HI
                go_wp2_with fail
                go_roundg (k - (j + 1))
                case measure => omega
                case rel => exact ⟨j + 1, by go_num, by omega, by omega, Lib.hid (L.out.trans L8.out), S8⟩
            · have zj : ¬ (j : Int) < (k : Int) := by omega
              go_wp2_with fail
              go_roundg (k - (i + 1))
              case measure => omega
              case rel => exact ⟨i + 1, by go_num, by omega, by omega, L, S⟩
        · have zl : ¬ (i : Int) < (k : Int) := by omega
          go_wp2_with fail
          go_ret
          exact ⟨rfl, L.out.low L3.out HMA.out⟩
end Go.Proofs.YtmkillbanmbafaaGreat
