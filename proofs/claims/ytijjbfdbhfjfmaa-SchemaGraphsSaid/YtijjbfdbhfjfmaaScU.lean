/- schema.round: does some name lead to itself? Conditions: not too many names; each step leads to a name. -/
import Derived.Test.YtijjbfdbhfjfmaaScS
namespace Go.Proofs.Ytijjbfdbhfjfmaa
open Go.RowKit Go.Maps
set_option linter.unusedVariables false
def Shut (g : Gra) : Prop := ∀ x, ∀ y ∈ nxt g x, (look g y).isSome = true
/-- Does some way go round? -/
noncomputable def rounds (g : Gra) : Bool := @decide (∃ a, Way (Stp g) a a) (Classical.propDecidable _)
theorem rounds_iff {g : Gra} : rounds g = true ↔ ∃ a, Way (Stp g) a a := by
  unfold rounds; exact @decide_eq_true_iff _ (Classical.propDecidable _)
theorem step_key {g : Gra} {ks : List Nm} (hs : Shut g) (hk : ∀ a, a ∈ ks ↔ (look g a).isSome = true) {x y : Nm} : Stp g x y ↔ (x ∈ ks ∧ y ∈ nxt g x ∧ y ∈ ks) := by
  unfold Stp
  constructor
  · intro h
    refine ⟨?_, h, (hk y).2 (hs x y h)⟩
    rw [hk]
    unfold nxt at h
    cases e : look g x with
    | none => rw [e] at h; simp at h
    | some l => rfl
  · exact fun h => h.2.1
/-- A counter falls by one. -/
theorem occ_le {g : Gra} {ks : List Nm} (n : Nm) (h : (ks.flatMap (nxt g)).length ≤ 10000) : occ (nxt g) ks n ≤ 10000 := Nat.le_trans List.count_le_length h
set_option maxRecDepth 100000 in
set_option maxHeartbeats 3200000 in
theorem round_c (g : Gra) (w : World) (b n : Nat) (hg : FewG g) (hsh : Shut g) (h : InsAt w b n g) : Calls Try.prog 31 #[.map (some b)] w fun e w' => e = .returned (.bool (rounds g)) ∧ Low w w' := by
  have HST := Lib.hid (step_c g w b n hg h)
  obtain ⟨f, h1, h2, h3⟩ := h
  have HM := Lib.hid h1
  have HS := Lib.hid h2
  have HR := Lib.hid h3
  have HG := Lib.hid hg
  have HSH := Lib.hid hsh
  have hbw := h1.lt
  clear h1 h2 h3 hg hsh
  go_enter Try.func31, Try.ntmps31
  go_wp2_with fail
  refine HST.out.mono ?_
  rintro e w2 ⟨b2, n2, ks, rfl, hb2, hnd, hks, hn2, C2, L2⟩
  have HK := Lib.hid hks
  have HND := Lib.hid hnd
  have HC2 := Lib.hid (show Cnt w2 b2 n2 (fun x => (occ (nxt g) ks x : Int)) from C2)
  have HM2 := Lib.hid (HM.out.block (L2.2.2.2 _ HM.out.lt))
  have HL2 := Lib.hid L2
  have hfl := flat_len2 HG.out hnd fun a ha => (hks a).1 ha
  have hkl : ks.length ≤ 100 := Nat.le_trans (keys_len hnd fun a ha => (hks a).1 ha) HG.out.1
  have hsw := L2.2.2.1
  clear hks hnd C2 HST L2
  go_wp2_with (at_range; refine at_rangeM rfl _ _ rfl keyedNm Try.underlying59 rfl HM2.out ?_; intro w3 cnt0 R3 G3 S3)
  go_frame
  have HR3 := Lib.hid R3
  have HL3 := Lib.hid (show Low w2 w3 from ⟨G3.os, G3.output, G3.size, fun k hk => G3.block k hk (by simp)⟩)
  clear R3 G3
  go_loopg [4] cnt0 (fun gk v wr => ∃ (seen : List Nm) (cnt : Nat) (L : List Nm), cnt ≤ gk ∧ Hid (RangeAt keyNm wr b w2.heap.size n f seen cnt) ∧ Hid (Low w2 wr) ∧ w2.heap.size + 1 ≤ wr.heap.size ∧ Hid (OwnN (w2.heap.size + 1) wr v L) ∧ L.length ≤ seen.length ∧ Hid L.Nodup ∧ Hid (∀ x, x ∈ L ↔ x ∈ seen ∧ (occ (nxt g) ks x : Int) = 0))
  case atStart => exact ⟨[], cnt0, [], Nat.le_refl _, HR3, HL3, by omega, Lib.hid (OwnR.nil _ _ _ _ _), Nat.le_refl _, Lib.hid List.nodup_nil, Lib.hid fun x => by simp⟩
  case round =>
    clear HR3 HL3 S3
    obtain ⟨seen, cnt, L, hck, RR, LL, hsz, OO, hLs, HLN, HL⟩ := hrel
    have hsl : seen.length ≤ 100 := by
      obtain ⟨h1, h2, h3⟩ := seen_fl HG.out HS.out RR.out
      exact Nat.le_trans (keys_len h1 h2) HG.out.1
    go_wp2_with (at_next; refine at_nextM rfl _ rfl keyedNm (fun c : Option Addr × Nat × Nat => .slice c.1 c.2.1 c.2.2) (fun u v hv => by obtain ⟨ao, c, rfl, _⟩ := RowB.sl (HR.out u v hv); exact ⟨(ao, _, c), rfl⟩) rfl RR.out ?_ ?_)
    · intro hall
      go_wp2_with fail
      have hseen : ∀ x, x ∈ seen ↔ x ∈ ks := fun x => by
        rw [HK.out]
        exact ⟨fun hx => (seen_fl HG.out HS.out RR.out).2.1 x hx, fun hx => hall x (by rw [HS.out]; exact hx)⟩
      have HKA := Lib.hid (show KQ (nxt g) ks ks L 0 (fun x => (occ (nxt g) ks x : Int)) from KQ.start (fun _ => rfl) (fun x => by rw [HL.out, hseen]) HLN.out)
      have HMA := Lib.hid RR.out.map
      have HCA := Lib.hid (show Cnt wr b2 n2 (fun x => (occ (nxt g) ks x : Int)) from HC2.out.block (LL.out.2.2.2 _ HC2.out.lt))
      have HLA := Lib.hid (HL2.out.trans LL.out)
      have HBD := Lib.hid (show ∀ x, (0 : Int) ≤ (occ (nxt g) ks x : Int) ∧ (occ (nxt g) ks x : Int) ≤ 10000 from fun x => by have := occ_le (ks := ks) x hfl; omega)
      have hb2s : b2 < w2.heap.size := HC2.out.lt
      clear hall hseen RR LL HL HC2 HM2 HL2 HLN hLs hsl hck
      obtain ⟨B, hB⟩ : ∃ B, B = w2.heap.size + 1 := ⟨_, rfl⟩
      have hB1 : w.heap.size ≤ B := by omega
      have hB2 : b2 < B := by omega
      rw [← hB] at hsz OO
      clear hB hb2s hsw
      go_loopg [4, 6] (ks.length + 1) (fun gk v vi wr => ∃ (i n' : Nat) (M L : List Nm) (c : Nm → Int), vi = .int .i64 (i : Int) ∧ i ≤ L.length ∧ ks.length + 1 - i ≤ gk ∧ Hid (KQ (nxt g) ks M L i c) ∧ Hid M.Nodup ∧ Hid (Cnt wr b2 n' c) ∧ n' + (M.flatMap (nxt g)).length ≤ 20000 ∧ Hid (Low w wr) ∧ B ≤ wr.heap.size ∧ Hid (OwnN B wr v L) ∧ Hid (∀ x, 0 ≤ c x ∧ c x ≤ 10000))
      case atStart => exact ⟨0, n2, ks, L, _, rfl, Nat.zero_le _, by omega, HKA, HND, HCA, by omega, HLA, hsz, OO, HBD⟩
      case round =>
        clear HKA HCA HLA hsz OO HBD
        obtain ⟨i, n', M, L, c, rfl, hi, hgk, K, HN, CC, hn', LL, hsz, OO, BD⟩ := hrel
        obtain ⟨ao, cap, rfl, hc1, hc2, hx⟩ := OO.out.shape
        have hLl := K.out.len
        by_cases hlt : i < L.length
        · have zl : (i : Int) < (L.length : Int) := by omega
          rcases hx with h0 | ⟨g3, rfl, hg3, hg4⟩
          · rw [h0] at hlt; simp at hlt
          obtain ⟨x, hx⟩ : ∃ x, x = L[i] := ⟨_, rfl⟩
          have d0 := OO.out.cell encS_len i 0 hlt (by omega)
          rw [← hx] at d0
          replace d0 : wr.cell? ⟨g3, i, none⟩ = some (.string x.s) := by
            have e : (encS x)[0]? = some (.string x.s) := rfl
            rw [e, Nat.mul_one, Nat.add_zero] at d0
            exact d0
          have HT := Lib.hid (K.out.take (x := x) HN.out (by rw [List.getElem?_eq_getElem hlt, hx]))
          have hML := ((List.perm_cons_erase HT.out.xm).flatMap_right (nxt g)).length_eq
          rw [List.flatMap_cons, List.length_append] at hML
          obtain ⟨p, cp, hv, hns, y1, y2⟩ : ∃ p cp, (f x).getD (.slice none 0 0) = .slice p (nxt g x).length cp ∧ NsAt w (nxt g x) (.slice p (nxt g x).length cp) ∧ (nxt g x).length ≤ cp ∧ cp ≤ 9223372036854775807 := by
            obtain ⟨v9, hv9⟩ := Option.isSome_iff_exists.1 (show (f x).isSome = true by rw [HS.out, ← HK.out]; exact K.out.sub x (hx ▸ List.getElem_mem hlt))
            have h9 := HR.out x v9 hv9
            obtain ⟨p, cp, rfl, z1, z2⟩ := RowB.sl h9
            exact ⟨p, cp, by rw [hv9]; rfl, h9, z1, z2⟩
          have HV := Lib.hid hv
          have HNS := Lib.hid hns
          have HMB := Lib.hid (HM.out.block (LL.out.2.2.2 _ HM.out.lt))
          clear hv hns hx
          go_wp2_with (at_lookup; refine at_look rfl _ _ _ rfl keyedNm Try.underlying59 (zeroNs _) rfl HMB.out x rfl _ HV.out ?_)
          clear d0
          rename World => wo
          go_loopg [4, 38] (nxt g x).length (fun gj v vj wr => ∃ (j n'' : Nat) (L' : List Nm) (c' : Nm → Int), vj = .int .i64 (j : Int) ∧ j ≤ (nxt g x).length ∧ (nxt g x).length - j ≤ gj ∧ Hid (KQi (nxt g) ks M L' i c' x j) ∧ Hid (Cnt wr b2 n'' c') ∧ n'' + ((M.erase x).flatMap (nxt g)).length + ((nxt g x).length - j) ≤ 20000 ∧ Hid (Low w wr) ∧ B ≤ wr.heap.size ∧ Hid (OwnN B wr v L') ∧ Hid (∀ x, 0 ≤ c' x ∧ c' x ≤ 10000))
          case atStart => exact ⟨0, n', L, c, rfl, by omega, by omega, HT, CC, by omega, LL, hsz, OO, BD⟩
          case round =>
            clear HT CC LL hsz OO BD K hLl hi hlt zl hc1 hc2 hg3 hg4 HMB hn'
            obtain ⟨j, n'', L', c', rfl, hj, hgj, K, CC, hn', LL, hsz, OO, BD⟩ := hrel
            obtain ⟨ao4, cap4, rfl, -, -, -⟩ := OO.out.shape
            by_cases hlt : j < (nxt g x).length
            · have zl : (j : Int) < ((nxt g x).length : Int) := by omega
              obtain ⟨pb, po, rfl, e0⟩ := (HNS.out.low LL.out).at hlt
              obtain ⟨p, hp⟩ : ∃ p, p = (nxt g x)[j] := ⟨_, rfl⟩
              rw [← hp] at e0
              have HP := Lib.hid hp.symm
              have HPK := Lib.hid (show p ∈ ks by rw [HK.out]; exact HSH.out x p (hp ▸ List.getElem_mem hlt))
              have hpos : 0 < c' p := by have := K.out.pos hlt; rwa [← hp] at this
              have hle := (BD.out p).2
              obtain ⟨fc, hfc, hfv⟩ := CC.out
              have HFC := Lib.hid hfc
              have HFV := Lib.hid hfv
              obtain ⟨q, hq⟩ : ∃ q, q = c' p := ⟨_, rfl⟩
              have hval : (fc p).getD (.int .i64 0) = .int .i64 q := by rw [hfv, hq]
              have HVL := Lib.hid hval
              rw [← hq] at hpos hle
              have HQ := Lib.hid hq
              have hqw : IntKind.wrap .i64 (q - 1) = q - 1 := by rw [IntKind.wrap_i64]; omega
              have hLl : L'.length ≤ 1000 := Nat.le_trans (len_sub L' ks K.out.nd K.out.sub) (by omega)
              have HBN := Lib.hid (show ∀ z, 0 ≤ lowC c' p z ∧ lowC c' p z ≤ 10000 from fun z => by
                have h1 := BD.out z
                have h2 := BD.out p
                unfold lowC
                by_cases e : z = p
                · rw [if_pos e, e]; omega
                · rw [if_neg e]; exact h1)
              clear hfc hfv hval hq hp
              have HB2 := Lib.hid hB2
              have HLA := Lib.hid LL.out
              have HSA := Lib.hid hsz
              by_cases h1 : q = 1
              · have zq : q - 1 = 0 := by omega
                have HKN := Lib.hid (K.out.zero hlt HP.out HPK.out (by rw [← HQ.out]; exact zq))
                rw [zq] at hqw
                go_wp2_with (first
                  | (at_lookup; refine at_look rfl _ _ _ rfl keyedNm Try.underlying80 (zeroI _) rfl HFC.out p rfl _ HVL.out ?_)
                  | (at_mapUpdate; refine at_store rfl _ _ _ _ rfl keyedNm Try.underlying80 rfl HFC.out (by unfold maxLen; omega) p rfl _ rfl ?_; intro w4 M4 T4
                     have HM4 := Lib.hid M4
                     have HV4 := Lib.hid (show (updF fc p (some (.int .i64 0)) p).getD (.int .i64 0) = .int .i64 0 by unfold updF; rw [if_pos rfl]; rfl)
                     have HO4 := Lib.hid (OwnR.to OO.out fun k hk => turned_block T4 k (by have := (World.ownsRow.lt OO.out k hk).1; have := HB2.out; omega))
                     have HL4 := Lib.hid (HLA.out.turned T4 hb2)
                     have hs4 := Nat.le_trans HSA.out T4.grown.size
                     clear M4 T4)
                  | (at_lookup; refine at_look rfl _ _ _ rfl keyedNm Try.underlying80 (zeroI _) rfl HM4.out p rfl _ HV4.out ?_)
                  | (at_builtin; go_loud (refine appR rfl _ _ _ rfl Try.underlying30 s_info rfl (by decide) (by decide) encS_len encS_one B _ L' rfl (OwnR.alloc HO4.out _) p ⟨w4.heap.size, 0, none⟩ 1 rfl (fun j u hj => newcell_at _ _ _ _ _ rfl hj) (by omega) (by simp; omega) ?_); intro v5 w5 O5 B5 K5 N5))
                have HO5 := Lib.hid O5
                have HL5 := Lib.hid (low_setN (low_new HL4.out (.cells #[.string p.s] 9)) B5 hB1)
                have HC5 := Lib.hid ((Cnt.store (c' := lowC c' p) (v := 0) HFV.out HM4.out fun z => by
                  unfold lowC
                  by_cases e : z = p
                  · rw [if_pos e, if_pos e, e, ← HQ.out]; exact zq
                  · rw [if_neg e, if_neg e]).block ((B5.block _ hB2).trans ((low_new (Low.refl w4) _).2.2.2 _ HM4.out.lt)))
                have hs5 : B ≤ w5.heap.size := Nat.le_trans (by simp; omega) B5.size
                clear O5 B5 K5 N5
                go_roundg ((nxt g x).length - (j + 1))
                case measure => omega
                case rel => exact ⟨j + 1, n'' + 1, L' ++ [p], _, by go_num, by omega, by omega, HKN, HC5, by omega, HL5, hs5, HO5, HBN⟩
              · have zq : ¬ (q - 1 = 0) := by omega
                have HKN := Lib.hid (K.out.keep hlt HP.out (by rw [← HQ.out]; exact zq))
                go_wp2_with (first
                  | (at_lookup; refine at_look rfl _ _ _ rfl keyedNm Try.underlying80 (zeroI _) rfl HFC.out p rfl _ HVL.out ?_)
                  | (at_mapUpdate; refine at_store rfl _ _ _ _ rfl keyedNm Try.underlying80 rfl HFC.out (by unfold maxLen; omega) p rfl _ rfl ?_; intro w4 M4 T4
                     have HM4 := Lib.hid M4
                     have HV4 := Lib.hid (show (updF fc p (some (.int .i64 (q - 1))) p).getD (.int .i64 0) = .int .i64 (q - 1) by unfold updF; rw [if_pos rfl]; rfl)
                     have HO4 := Lib.hid (OwnR.to OO.out fun k hk => turned_block T4 k (by have := (World.ownsRow.lt OO.out k hk).1; have := HB2.out; omega))
                     have HL4 := Lib.hid (HLA.out.turned T4 hb2)
                     have hs4 := Nat.le_trans HSA.out T4.grown.size
                     clear M4 T4)
                  | (at_lookup; refine at_look rfl _ _ _ rfl keyedNm Try.underlying80 (zeroI _) rfl HM4.out p rfl _ HV4.out ?_))
                have HC5 := Lib.hid (Cnt.store (c' := lowC c' p) (v := q - 1) HFV.out HM4.out fun z => by
                  unfold lowC
                  by_cases e : z = p
                  · rw [if_pos e, if_pos e, e, ← HQ.out]
                  · rw [if_neg e, if_neg e])
                go_roundg ((nxt g x).length - (j + 1))
                case measure => omega
                case rel => exact ⟨j + 1, n'' + 1, L', _, by go_num, by omega, by omega, HKN, HC5, by omega, HL4, hs4, HO4, HBN⟩
            · have zl : ¬ (j : Int) < ((nxt g x).length : Int) := by omega
              have HD := Lib.hid (K.out.done (by omega))
              have hlx := K.out.lx
              have hLl := len_sub L' ks K.out.nd K.out.sub
              go_wp2_with fail
              go_roundg (ks.length + 1 - (i + 1))
              case measure => omega
              case rel => exact ⟨i + 1, n'', M.erase x, L', c', by go_num, by omega, by omega, HD, Lib.hid (HN.out.erase x), CC, by omega, LL, hsz, OO, BD⟩
        · have zl : ¬ (i : Int) < (L.length : Int) := by omega
          have HF := Lib.hid (K.out.fin (by omega))
          have HMB := Lib.hid (HM.out.block (LL.out.2.2.2 _ HM.out.lt))
          go_wp2_with (at_len; refine at_size rfl _ _ rfl Try.underlying59 rfl HMB.out ?_; intro ks2 hnd2 hm2)
          have hkk : ks2.length = ks.length := by
            have h1 : ∀ x, x ∈ ks2 ↔ x ∈ ks := fun x => by rw [hm2, HS.out, HK.out]
            exact Nat.le_antisymm (len_sub ks2 ks hnd2 fun x hx => (h1 x).1 hx) (len_sub ks ks2 HND.out fun x hx => (h1 x).2 hx)
          have HKK := Lib.hid hkk
          clear hm2 hnd2 hkk
          obtain ⟨qq, hqq⟩ : ∃ qq, Hid (qq = decide (L.length < ks2.length)) := ⟨_, Lib.hid rfl⟩
          have hres : qq = rounds g := by
            rw [hqq.out, HKK.out, Bool.eq_iff_iff, decide_eq_true_iff, HF.out, rounds_iff]
            have hw : (fun x y => x ∈ ks ∧ y ∈ nxt g x ∧ y ∈ ks) = Stp g := by
              funext x y
              exact propext (step_key HSH.out HK.out).symm
            rw [hw]
          have HRS := Lib.hid (hqq.out.symm.trans hres)
          clear hres
          go_ret
          exact ⟨retB HRS.out, LL.out⟩
    · intro u ao2 ln cp w4 cnt2 hfu hns R4 hlt4 G4 S4 hen
      have HR4 := Lib.hid R4
      have HL4 := Lib.hid (LL.out.of_range G4 (Nat.le_refl _))
      have hb4 := Lib.hid (But.of_grown G4)
      have HNS := Lib.hid hns
      have OO4 := Lib.hid (show OwnN (w2.heap.size + 1) w4 _ L from OO.out.to fun k hk => hb4.out k (World.ownsRow.lt OO.out k hk).2 (by have := (World.ownsRow.lt OO.out k hk).1; omega))
      clear R4 G4 hfu hns
      obtain ⟨q, hq⟩ : ∃ q, Hid (q = occ (nxt g) ks u) := ⟨_, Lib.hid rfl⟩
      have hsz4 : w2.heap.size + 1 ≤ w4.heap.size := by omega
      have HS4 := Lib.hid S4
      clear S4
      have HCB := Lib.hid (show Cnt w4 b2 n2 (fun x => (occ (nxt g) ks x : Int)) from HC2.out.block (HL4.out.2.2.2 _ HC2.out.lt))
      obtain ⟨fc, hfc, hfv⟩ := HCB.out
      have HFC := Lib.hid hfc
      have hval : (fc u).getD (.int .i64 0) = .int .i64 (q : Int) := by rw [hfv, hq.out]
      have HV := Lib.hid hval
      clear hfc hfv hval
      obtain ⟨ao7, cap7, rfl, -, -, -⟩ := OO4.out.shape
      have hkv : keyNm.kv u = .string u.s := rfl
      by_cases hq0 : q = 0
      · have HV0 := Lib.hid (show (fc u).getD (.int .i64 0) = .int .i64 0 by rw [HV.out, hq0]; rfl)
        go_wp2_with (first
          | (at_lookup; refine at_look rfl _ _ _ rfl keyedNm Try.underlying80 (zeroI _) rfl HFC.out u rfl _ HV0.out ?_)
          | (at_builtin; go_loud (refine appR rfl _ _ _ rfl Try.underlying30 s_info rfl (by decide) (by decide) encS_len encS_one (w2.heap.size + 1) _ L rfl (OwnR.alloc OO4.out _) u ⟨w4.heap.size, 0, none⟩ 1 rfl (fun j u hj => newcell_at _ _ _ _ _ rfl hj) (by omega) (by simp; omega) ?_); intro v5 w5 O5 B5 K5 N5))
        have H5 := Lib.hid O5
        have L5 := Lib.hid (low_setN (low_new HL4.out (.cells #[.string u.s] 9)) B5 (Nat.le_succ _))
        have hbk : ∀ k, k < w2.heap.size + 1 → k < w4.heap.size → w5.heap[k]? = w4.heap[k]? := fun k h1 h2 => (B5.block k h1).trans ((low_new (Low.refl w4) _).2.2.2 k h2)
        have HR5 := Lib.hid (HR4.out.block (hbk _ (by omega) (by omega)) (hbk _ (by omega) (by omega)))
        have hsz5 : w2.heap.size + 1 ≤ w5.heap.size := Nat.le_trans (by simp; omega) B5.size
        clear O5 B5 K5 N5
        go_roundg cnt2
        case measure => omega
        case rel =>
          have h0 : (occ (nxt g) ks u : Int) = 0 := by have := hq.out; omega
          refine ⟨seen ++ [u], cnt2, L ++ [u], Nat.le_refl _, HR5, L5, hsz5, H5, by simp; omega, Lib.hid ?_, Lib.hid fun x => ?_⟩
          · rw [List.nodup_append]
            refine ⟨HLN.out, by simp, fun a ha d hd => ?_⟩
            simp at hd
            rw [hd]
            exact fun e => HNS.out (e ▸ ((HL.out a).1 ha).1)
          · rw [List.mem_append, List.mem_append, HL.out x]
            constructor
            · rintro (⟨h1, h2⟩ | h1)
              · exact ⟨.inl h1, h2⟩
              · simp at h1; subst h1; exact ⟨.inr (by simp), h0⟩
            · rintro ⟨h1 | h1, h2⟩
              · exact .inl ⟨h1, h2⟩
              · exact .inr h1
      · have zq : ¬ ((q : Int) = 0) := by omega
        go_wp2_with (at_lookup; refine at_look rfl _ _ _ rfl keyedNm Try.underlying80 (zeroI _) rfl HFC.out u rfl _ HV.out ?_)
        go_roundg cnt2
        case measure => omega
        case rel =>
          have h0 : ¬ (occ (nxt g) ks u : Int) = 0 := by have := hq.out; omega
          refine ⟨seen ++ [u], cnt2, L, Nat.le_refl _, HR4, HL4, hsz4, OO4, by simp; omega, HLN, Lib.hid fun x => ?_⟩
          rw [List.mem_append, HL.out x]
          constructor
          · rintro ⟨h1, h2⟩
            exact ⟨.inl h1, h2⟩
          · rintro ⟨h1 | h1, h2⟩
            · exact ⟨h1, h2⟩
            · simp at h1; subst h1; exact absurd h2 h0
end Go.Proofs.Ytijjbfdbhfjfmaa
