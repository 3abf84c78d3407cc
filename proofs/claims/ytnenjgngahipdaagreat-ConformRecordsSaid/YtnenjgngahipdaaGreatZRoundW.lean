/- entity.Round: whether some way goes round. Condition: no more than 100000 entities, and steps. -/
import Derived.Test.YtnenjgngahipdaaGreatZg03
import Derived.Test.YtnenjgngahipdaaGreatZg00
set_option linter.unusedVariables false
set_option linter.unusedSimpArgs false
set_option linter.unnecessarySimpa false
namespace Go.Proofs.YtnenjgngahipdaaGreat
open Go.RowKit Go.Maps Go.Sort
theorem RowsAt.low {w w' : World} {f : Us → Option Value} {g : Us → List Us} (h : RowsAt w f g) (hl : Low w w') : RowsAt w' f g := ⟨fun u v hv => (h.row u v hv).low hl, h.few⟩
theorem Low.trans_belowU {a b d : World} (h : Low a b) {B : Nat} (k : RowKit.Below B b d) (hB : a.heap.size ≤ B) : Low a d :=
  ⟨k.os.trans h.1, k.output.trans h.2.1, Nat.le_trans h.2.2.1 k.size, fun i hi => (k.block i (Nat.lt_of_lt_of_le hi hB)).trans (h.2.2.2 i hi)⟩
theorem low_newU {a b : World} (h : Low a b) (o : Obj) : Low a (b.alloc o) := h.trans (Low.of_below ((Below.refl b.heap.size b).alloc (Nat.le_refl _) o))
theorem u_info : (Tryz.prog.info? 23).map (fun i => (i.zero, i.size, i.bytes)) = some (some (.agg #[.string ⟨#[]⟩, .string ⟨#[]⟩]), 2, 32) := by kernel_rfl
theorem encU_len (x : Us) : x.cs.length = 2 := rfl
theorem encU_one (x : Us) : ∀ u ∈ x.cs, u.oneCell' = true := by
  intro u hu
  simp [Us.cs] at hu
  rcases hu with rfl | rfl <;> rfl
abbrev OwnU (B : Nat) (w : World) (v : Value) (l : List Us) : Prop := OwnR 23 2 Us.cs B w v l
/-- The counts as a map has them: none is nought. -/
def Cntv (w : World) (b n : Nat) (c : Us → Int) : Prop := ∃ fc, MapAt keyUs w b n fc ∧ ∀ x, (fc x).getD (.int .i64 0) = .int .i64 (c x)
theorem Cntv.block {w w' : World} {b n : Nat} {c : Us → Int} (h : Cntv w b n c) (e : w'.heap[b]? = w.heap[b]?) : Cntv w' b n c := by
  obtain ⟨fc, h1, h2⟩ := h
  exact ⟨fc, h1.block e, h2⟩
theorem Cntv.lt {w : World} {b n : Nat} {c : Us → Int} (h : Cntv w b n c) : b < w.heap.size := by
  obtain ⟨fc, h1, h2⟩ := h
  exact h1.lt
theorem sub_len {α : Type} [DecidableEq α] : ∀ {a m : List α}, a.Nodup → (∀ x ∈ a, x ∈ m) → a.length ≤ m.length
  | [], _, _, _ => Nat.zero_le _
  | x :: a, m, hn, h => by
    have hn' := List.nodup_cons.1 hn
    have hx : x ∈ m := h x (by simp)
    have := sub_len (a := a) (m := m.erase x) hn'.2 fun y hy => (List.mem_erase_of_ne (fun e : y = x => hn'.1 (e ▸ hy))).2 (h y (by simp [hy]))
    rw [List.length_erase_of_mem hx] at this
    have : 0 < m.length := List.length_pos_of_mem hx
    simp; omega
theorem seen_len {l : List Sh} {seen : List Us} (hn : seen.Nodup) (h : ∀ a ∈ seen, (fS l a).isSome = true) : seen.length ≤ l.length := by
  have e : (l.map Sh.u).length = l.length := by simp
  rw [← e]
  refine sub_len hn fun x hx => ?_
  have h1 := h x hx
  unfold fS at h1
  simp at h1
  obtain ⟨s, hs, rfl⟩ := h1
  exact List.mem_map_of_mem hs
theorem ownU_pop {B : Nat} {w : World} {g n c : Nat} {L : List Us} {x : Us} (h : OwnU B w (.slice (some ⟨g, 0, none⟩) n c) (L.concat x)) : OwnU B w (.slice (some ⟨g, 0, none⟩) L.length c) L := by
  obtain ⟨h1, ⟨h2, _⟩ | ⟨g', cap, cur, hv, h3, h4, h5, h6, h7, h8⟩⟩ := h
  · simp at h2
  · simp only [Value.slice.injEq, Option.some.injEq, Addr.mk.injEq] at hv
    obtain ⟨⟨rfl, -, -⟩, -, rfl⟩ := hv
    simp at h5 h8
    refine ⟨flat_len encU_len L, .inr ⟨_, _, cur, rfl, h3, h4, by omega, h6, h7, ?_⟩⟩
    have hf := flat_len encU_len L
    have h9 := congrArg (List.take (L.length * 2)) h8
    rw [List.take_take, List.take_append_of_le_length (by omega), List.take_of_length_le (l := L.flatMap Us.cs) (by omega)] at h9
    rw [← h9]
    congr 1
    omega
/-- What Round answers. -/
def RoundP (f : Us → Option Value) (g : Us → List Us) (w : World) (e : Ending) (w' : World) : Prop := ∃ q : Bool, e = .returned (.bool q) ∧ (q = true ↔ ∃ a, Way (fun x y => (f x).isSome = true ∧ y ∈ g x ∧ (f y).isSome = true) a a) ∧ Low w w'
set_option maxRecDepth 100000 in
set_option maxHeartbeats 3200000 in
theorem round_cv (l : List Sh) (g : Us → List Us) (w : World) (r : Value) (hl : l.length ≤ 100000) (hE : EsAt w r l) (hR : RowsAt w (fS l) g) : Calls Tryz.prog 71 #[r] w (RoundP (fS l) g w) := by
  have hpar := par_c l w r hE
  obtain ⟨ao, c, rfl, ⟨hlc, hc9⟩, -⟩ := id hE
  have HE := Lib.hid hE
  have HR := Lib.hid hR
  have HP := Lib.hid hpar
  clear hE hR hpar
  go_enter Tryz.func71, Tryz.ntmps71
  go_wp2_with fail
  refine HP.out.mono ?_
  rintro e w1 ⟨b1, rfl, hb1, M1, L1⟩
  have HM1 := Lib.hid M1
  have HL1 := Lib.hid L1
  have hst := Lib.hid (step_cv (fS l) g w1 b1 l.length M1 (HR.out.low L1))
  clear M1 L1 HP
  go_wp2_with fail
  refine hst.out.mono ?_
  rintro e w2 ⟨b2, n2, ks, rfl, hb2, hnd, hks, hn2, C2, L2⟩
  have HK := Lib.hid hks
  have HND := Lib.hid hnd
  have HC2 := Lib.hid (show Cntv w2 b2 n2 (fun x => (occ g ks x : Int)) from ⟨_, C2, fun x => cntV_get _ x⟩)
  have HM2 := Lib.hid (HM1.out.block (L2.2.2.2 _ HM1.out.lt))
  have HL2 := Lib.hid (HL1.out.trans L2)
  have hs1 : b1 < b2 := Nat.lt_of_lt_of_le HM1.out.lt hb2
  clear hks hnd C2 HM1 HL1 hst L2
  go_wp2_with (at_range; refine at_rangeM rfl _ _ rfl keyedUs Tryz.underlying105 rfl HM2.out ?_; intro w3 cnt0 R3 G3 S3)
  go_frame
  have HR3 := Lib.hid R3
  have HL3 := Lib.hid (show Low w2 w3 from ⟨G3.os, G3.output, G3.size, fun k hk => G3.block k hk (by simp)⟩)
  clear R3 G3
  have hR3' := S3
  go_loopg [5] cnt0 (fun gk v wr => ∃ (seen : List Us) (cnt : Nat) (L : List Us), cnt ≤ gk ∧ Hid (RangeAt keyUs wr b1 w2.heap.size l.length (fS l) seen cnt) ∧ Hid (Low w2 wr) ∧ w2.heap.size + 1 ≤ wr.heap.size ∧ Hid (OwnU (w2.heap.size + 1) wr v L) ∧ L.length ≤ seen.length ∧ Hid (∀ x, x ∈ L ↔ x ∈ seen ∧ (occ g ks x : Int) = 0))
  case atStart => exact ⟨[], cnt0, [], Nat.le_refl _, HR3, HL3, by omega, Lib.hid (OwnR.nil _ _ _ _ _), Nat.le_refl _, Lib.hid fun x => by simp⟩
  case round =>
    clear HR3 HL3 S3 hR3'
    obtain ⟨seen, cnt, L, hck, RR, LL, hsz, OO, hLs, HL⟩ := hrel
    have hsl : seen.length ≤ l.length := by
      obtain ⟨_, _, _, _, h1, h2, _⟩ := RR.out
      exact seen_len h1 h2
    go_wp2_with (at_next; refine at_nextM rfl _ rfl keyedUs (fun c : Option Addr × Nat × Nat => .slice c.1 c.2.1 c.2.2) (fun u v hv => by obtain ⟨ao, c, rfl, _⟩ := HR.out.row u v hv; exact ⟨(ao, _, c), rfl⟩) rfl RR.out ?_ ?_)
    · intro hall
      go_wp2_with fail
      have hseen : ∀ x, x ∈ seen ↔ (fS l x).isSome = true := fun x => ⟨fun hx => by
        obtain ⟨_, _, _, _, h1, h2, _⟩ := RR.out
        exact h2 x hx, hall x⟩
      have HKA := Lib.hid (show Kahn g ks ks L (fun x => (occ g ks x : Int)) from Kahn.start (fun _ => rfl) fun n => by rw [HL.out, hseen, HK.out])
      have HMA := Lib.hid (show MapAt keyUs wr b1 l.length (fun x => if x ∈ ks then fS l x else none) from RR.out.map.congr fun x => by
        by_cases h : (fS l x).isSome = true
        · rw [if_pos ((HK.out x).2 h)]
        · rw [if_neg (fun hx => h ((HK.out x).1 hx))]
          cases e : fS l x with
          | none => rfl
          | some v => rw [e] at h; simp at h)
      have HCA := Lib.hid (show Cntv wr b2 n2 (fun x => (occ g ks x : Int)) from HC2.out.block (LL.out.2.2.2 _ HC2.out.lt))
      have HLA := Lib.hid (HL2.out.trans LL.out)
      have hT : (ks.flatMap g).length ≤ 100000 := HR.out.few ks HND.out fun a ha => (HK.out a).1 ha
      have hb2s : b2 < w2.heap.size := HC2.out.lt
      have hb1s : b1 < w2.heap.size := HM2.out.lt
      have hb1w : w.heap.size ≤ b1 := hb1
      have hb2w : w.heap.size ≤ b2 := by omega
      clear hall hseen RR LL HL HC2 HM2 HL2
      obtain ⟨B, hB⟩ : ∃ B, B = w2.heap.size + 1 := ⟨_, rfl⟩
      have HBw := Lib.hid (show w.heap.size ≤ B ∧ b1 < B ∧ b2 < B by omega)
      rw [← hB] at hsz OO
      go_loopg [5] (L.length + (ks.flatMap g).length) (fun gk v wr => ∃ (M L : List Us) (c : Us → Int) (n' : Nat), Hid (Kahn g ks M L c) ∧ Hid M.Nodup ∧ Hid (MapAt keyUs wr b1 l.length (fun x => if x ∈ M then fS l x else none)) ∧ Hid (Cntv wr b2 n' c) ∧ n' + (M.flatMap g).length ≤ 200000 ∧ Hid (Low w wr) ∧ B ≤ wr.heap.size ∧ Hid (OwnU B wr v L) ∧ L.length + (M.flatMap g).length ≤ gk ∧ L.length + (M.flatMap g).length ≤ 200000)
      case atStart => exact ⟨ks, L, _, n2, HKA, HND, HMA, HCA, by omega, HLA, hsz, OO, Nat.le_refl _, by omega⟩
      case round =>
        clear HKA HMA HCA HLA hsz OO
        obtain ⟨M, L, c, n', K, HN, MM, CC, hn', LL, hsz, OO, hgk, hbd⟩ := hrel
        rcases List.eq_nil_or_concat L with rfl | ⟨L0, x, rfl⟩
        · obtain ⟨ao3, cp3, rfl, hc1, hc2, -⟩ := OO.out.shape
          go_wp2_with (at_len; refine at_size rfl _ _ rfl Tryz.underlying105 rfl MM.out ?_; intro ks2 hnd2 hm2)
          have H2 := Lib.hid hm2
          clear hm2 hnd2
          go_ret
          refine ⟨_, rfl, ?_, LL.out⟩
          have hw : (fun x y => (fS l x).isSome = true ∧ y ∈ g x ∧ (fS l y).isSome = true) = fun x y => x ∈ ks ∧ y ∈ g x ∧ y ∈ ks := by
            funext x y
            rw [HK.out, HK.out]
          rw [hw, ← K.out.fin]
          have hk2 : ks2 ≠ [] ↔ M ≠ [] := by
            have hmm : ∀ x, x ∈ ks2 ↔ x ∈ M := fun x => by
              rw [H2.out]
              by_cases h : x ∈ M
              · rw [if_pos h]; exact ⟨fun _ => h, fun _ => (HK.out x).1 (K.out.sub x h)⟩
              · rw [if_neg h]; exact ⟨fun h2 => by simp at h2, fun h2 => absurd h2 h⟩
            constructor
            · intro h e
              obtain ⟨y, hy⟩ := List.exists_mem_of_ne_nil _ h
              have := (hmm y).1 hy
              rw [e] at this; simp at this
            · intro h e
              obtain ⟨y, hy⟩ := List.exists_mem_of_ne_nil _ h
              have := (hmm y).2 hy
              rw [e] at this; simp at this
          rw [← hk2]
          cases ks2 with
          | nil => simp
          | cons y t => simp
        · obtain ⟨ao3, cp3, rfl, hc1, hc2, hx3⟩ := OO.out.shape
          have hl3 : (L0.concat x).length = L0.length + 1 := by simp
          rw [hl3] at hc1 OO hgk hbd ⊢
          rcases hx3 with h0 | ⟨g3, rfl, hg3, hg4⟩
          · simp at h0
          have d0 := OO.out.cell encU_len L0.length 0 (by omega) (by omega)
          have d1 := OO.out.cell encU_len L0.length 1 (by omega) (by omega)
          have hgx : (L0.concat x)[L0.length]'(by omega) = x := by simp
          rw [hgx] at d0 d1
          replace d0 : wr.cell? ⟨g3, L0.length * 2, none⟩ = some (.string x.t) := d0
          replace d1 : wr.cell? ⟨g3, L0.length * 2 + 1, none⟩ = some (.string x.i) := d1
          have hq1 : IntKind.i64.wrap ((L0.length : Int) + 1 - 1) = (L0.length : Int) := by rw [IntKind.wrap_i64]; omega
          have HO := Lib.hid (show OwnU B wr (.slice (some ⟨g3, 0, none⟩) L0.length cp3) L0 from ownU_pop OO.out)
          have HKT := Lib.hid (Kahn.take HN.out (show Kahn g ks M (L0 ++ [x]) c by rw [← List.concat_eq_append]; exact K.out))
          have HSUB := Lib.hid K.out.sub
          clear OO K hgx hl3
          have HMB := Lib.hid (show MapAt keyUs (wr.alloc (.cells #[.string x.t, .string x.i] 23)) b1 l.length (fun x => if x ∈ M then fS l x else none) from MM.out.block ((low_newU (Low.refl wr) _).2.2.2 _ MM.out.lt))
          obtain ⟨ps, HPS⟩ : ∃ ps, Hid (ps = if x ∈ M then g x else []) := ⟨_, Lib.hid rfl⟩
          have hv : ∃ ao9 cp9, (if x ∈ M then fS l x else none).getD (.slice none 0 0) = .slice ao9 ps.length cp9 ∧ ps.length ≤ cp9 ∧ cp9 ≤ 9223372036854775807 ∧ ∀ j (hj : j < ps.length), ∃ b o, ao9 = some ⟨b, o, none⟩ ∧ CellsAtv w b (o + j * 2) ps[j].cs := by
            rw [HPS.out]
            by_cases hxM : x ∈ M
            · obtain ⟨v9, hv9⟩ := Option.isSome_iff_exists.1 ((HK.out x).1 (HSUB.out x hxM))
              obtain ⟨ao9, cp9, rfl, ⟨h1, h2⟩, h3⟩ := HR.out.row x v9 hv9
              simp only [if_pos hxM, hv9]
              exact ⟨ao9, cp9, rfl, h1, h2, h3⟩
            · simp only [if_neg hxM]
              exact ⟨none, 0, rfl, by simp, by simp, fun j hj => by simp at hj⟩
          obtain ⟨ao9, cp9, hv9, hp1, hp2, hp3⟩ := hv
          have HV9 := Lib.hid hv9
          have HP3 := Lib.hid hp3
          clear hv9 hp3
          have hML : (M.flatMap g).length = ps.length + ((M.erase x).flatMap g).length := by
            rw [HPS.out]
            by_cases hxM : x ∈ M
            · rw [if_pos hxM, ((List.perm_cons_erase hxM).flatMap_right g).length_eq, List.flatMap_cons, List.length_append]
            · rw [if_neg hxM, List.erase_of_not_mem hxM]; simp
          go_wp2_with (at_lookup; refine at_look rfl _ _ _ rfl keyedUs Tryz.underlying105 (zeroUs _) rfl HMB.out x rfl _ HV9.out ?_)
          have HBX0 : Hid ((wr.alloc (.cells #[.string x.t, .string x.i] 23)).heap[wr.heap.size]? = (wr.alloc (.cells #[.string x.t, .string x.i] 23)).heap[wr.heap.size]?) := Lib.hid rfl
          have HLa := Lib.hid (low_newU LL.out (.cells #[.string x.t, .string x.i] 23))
          have HCa := Lib.hid (show Cntv (wr.alloc (.cells #[.string x.t, .string x.i] 23)) b2 n' c from CC.out.block ((low_newU (Low.refl wr) _).2.2.2 _ CC.out.lt))
          have HOa := Lib.hid (OwnR.alloc HO.out (.cells #[.string x.t, .string x.i] 23))
          have HNa : Hid ((Value.slice (some ⟨g3, 0, none⟩) L0.length cp3).ownBlock ≠ some wr.heap.size) := Lib.hid (by intro e; simp [Value.ownBlock] at e; omega)
          clear CC LL MM HO d0 d1
          rename World => wo
          go_loopg [5, 46] ps.length (fun gj v vj wi => ∃ (j : Nat) (L' : List Us) (c' : Us → Int) (n'' : Nat), vj = .int .i64 (j : Int) ∧ j ≤ ps.length ∧ ps.length - j ≤ gj ∧ Hid (KahnIn g ks M L' c' x j) ∧ Hid (MapAt keyUs wi b1 l.length (fun x => if x ∈ M then fS l x else none)) ∧ Hid (Cntv wi b2 n'' c') ∧ n'' + ((M.erase x).flatMap g).length + (ps.length - j) ≤ 200000 ∧ Hid (Low w wi) ∧ wo.heap.size + 1 ≤ wi.heap.size ∧ Hid (OwnU B wi v L') ∧ Hid (v.ownBlock ≠ some wo.heap.size) ∧ Hid (wi.heap[wo.heap.size]? = (wo.alloc (.cells #[.string x.t, .string x.i] 23)).heap[wo.heap.size]?) ∧ L'.length + ((M.erase x).flatMap g).length + (ps.length - j) + 1 ≤ gk ∧ L'.length + ((M.erase x).flatMap g).length + (ps.length - j) ≤ 200000)
          case atStart => exact ⟨0, L0, c, n', rfl, Nat.zero_le _, Nat.le_refl _, HKT, HMB, HCa, by omega, HLa, by simp, HOa, HNa, HBX0, by omega, by omega⟩
          case round =>
            clear HBX0 HLa HCa HOa HNa HMB HKT
            obtain ⟨j, L', c', n'', rfl, hj, hgj, KI, MI, CI, hni, LI, hszi, OI, NI, BI, hgi, hbi⟩ := hrel
            by_cases hlt : j < ps.length
            · have zl : (j : Int) < (ps.length : Int) := by omega
              obtain ⟨pb, po, rfl, hcs⟩ := HP3.out j hlt
              obtain ⟨e0, e1⟩ := cells2 (LI.out.cells hcs)
              clear hcs
              obtain ⟨p, hp⟩ : ∃ p, p = ps[j] := ⟨_, rfl⟩
              rw [← hp] at e0 e1
              have hxM : x ∈ M := by
                apply Classical.byContradiction
                intro h
                have := HPS.out
                rw [if_neg h] at this
                rw [this] at hlt; simp at hlt
              have hpx : ps = g x := by have := HPS.out; rwa [if_pos hxM] at this
              have hjg : j < (g x).length := by rw [← hpx]; exact hlt
              have hpg : (g x)[j] = p := by rw [hp]; simp only [hpx]
              have hstep := KI.out.step hxM hjg
              rw [hpg] at hstep
              have hcp := KI.out.cnt p
              rw [if_pos hxM] at hcp
              have hdr : (g x).drop j = p :: (g x).drop (j + 1) := by rw [List.drop_eq_getElem_cons hjg, hpg]
              have hc1 : 1 ≤ ((g x).drop j).count p := by rw [hdr]; simp
              have hc2 : ((g x).drop j).count p ≤ ps.length - j := by
                refine Nat.le_trans List.count_le_length ?_
                rw [List.length_drop, hpx]; exact Nat.le_refl _
              have hc3 : occ g (M.erase x) p ≤ ((M.erase x).flatMap g).length := List.count_le_length
              obtain ⟨q, hq⟩ : ∃ q, q = c' p := ⟨_, rfl⟩
              have hq1 : 1 ≤ q ∧ q ≤ 200000 := by omega
              have HSTEP := Lib.hid hstep
              have HQ := Lib.hid hq
              clear hstep hcp hdr hc1 hc2 hc3 hpg hp hjg hpx
              have LW : Low wr (wr.alloc (.cells #[.string p.t, .string p.i] 23)).drew := (Gr.drew (Gr.alloc (Gr.refl wr) _)).low
              obtain ⟨fc, hfc, hfv⟩ := CI.out
              have M0 : MapAt keyUs (wr.alloc (.cells #[.string p.t, .string p.i] 23)).drew b2 n'' fc := hfc.block (LW.2.2.2 _ hfc.lt)
              obtain ⟨v0, st, w3, hent, hlk3, ht3, hst⟩ := M0.entry lawUs Tryz.underlying137 zeroIv (by unfold maxLen; omega) p
              have hlk0 := M0.look keyedUs Tryz.underlying137 (zeroIv _) p
              rw [hfv, ← hq] at hlk0 hlk3
              obtain ⟨w4, hst4, M4, ht4⟩ := hst (.int .i64 (q - 1))
              have hqw : IntKind.wrap .i64 (q - 1) = q - 1 := by rw [IntKind.wrap_i64]; omega
              have HM4 := Lib.hid M4
              have HT4 := Lib.hid ht4
              have HFV := Lib.hid hfv
              clear M4 ht4 hst M0 ht3 hfc hfv
              simp only [keyUs, usV] at hent hlk3 hlk0
              simp only [goInt] at hst4 hent
              have hb4 : Butv (wr.alloc (.cells #[.string p.t, .string p.i] 23)).drew w4 b2 := Butv.of (Low.refl _) HT4.out
              have hwsz : (wr.alloc (.cells #[.string p.t, .string p.i] 23)).drew.heap.size = wr.heap.size + 1 := by
                show (wr.alloc _).heap.size = _
                simp
              have hbw := HBw.out
              have f0 : w4.cell? ⟨wr.heap.size, 0, none⟩ = some (.string p.t) := by
                rw [World.cell?_of_block (hb4 wr.heap.size (by omega) (by omega))]
                show (wr.alloc _).cell? _ = _
                rw [World.cell?_alloc_mark]; rfl
              have f1 : w4.cell? ⟨wr.heap.size, 1, none⟩ = some (.string p.i) := by
                rw [World.cell?_of_block (hb4 wr.heap.size (by omega) (by omega))]
                show (wr.alloc _).cell? _ = _
                rw [World.cell?_alloc_mark]; rfl
              have HB4 := Lib.hid hb4
              have hs4 : wr.heap.size + 1 ≤ w4.heap.size := by have := HT4.out.grown.size; omega
              have HCN := Lib.hid (show Cntv w4 b2 (n'' + 1) (fun n => if n = p then c' n - 1 else c' n) from ⟨_, HM4.out, fun y => by
                show (if y = p then some (Value.int .i64 (q - 1)) else fc y).getD (.int .i64 0) = .int .i64 (if y = p then c' y - 1 else c' y)
                by_cases e : y = p
                · rw [if_pos e, if_pos e, e, ← HQ.out]; rfl
                · rw [if_neg e, if_neg e, HFV.out]⟩)
              have HOI := Lib.hid (show OwnU B w4 _ L' from OI.out.to fun k hk => (hb4 k (by have := (World.ownsRow.lt OI.out k hk).2; omega) (by have := (World.ownsRow.lt OI.out k hk).1; omega)).trans (LW.2.2.2 k (World.ownsRow.lt OI.out k hk).2))
              have HL4 := Lib.hid ((LI.out.trans LW).turned HT4.out hb2w)
              have HMI4 := Lib.hid (MI.out.block ((hb4 b1 (by have := MI.out.lt; omega) (by omega)).trans (LW.2.2.2 b1 MI.out.lt)))
              have HBI4 := Lib.hid (((hb4 wo.heap.size (by omega) (by omega)).trans (LW.2.2.2 wo.heap.size (by omega))).trans BI.out)
              have HVL : Hid ((updF fc p (some (.int .i64 (q - 1))) p).getD (.int .i64 0) = .int .i64 (q - 1)) := Lib.hid (by unfold updF; simp)
              clear hb4 hwsz hq
              go_wp2_with fail
              by_cases hq0 : q - 1 = 0
              · have HV0 : Hid ((updF fc p (some (.int .i64 (q - 1))) p).getD (.int .i64 0) = .int .i64 0) := Lib.hid (by rw [HVL.out, hq0])
                have hst5 : (Instr.entryStore 137 (.map (some b2)) (.int .i64 (st : Int)) (.int .i64 0)).run Tryz.prog w3 = .ok () w4 := by rw [← hq0]; exact hst4
                go_region
                all_goals
                  go_wp2_with (first
                    | (at_lookup; refine at_look rfl _ _ _ rfl keyedUs Tryz.underlying137 (zeroIv _) rfl HM4.out p rfl _ HV0.out ?_)
                    | (at_builtin; go_loud (refine appR rfl _ _ _ rfl Tryz.underlying69 u_info rfl (by decide) (by decide) encU_len encU_one B _ L' rfl (OwnR.alloc HOI.out _) p ⟨w4.heap.size, 0, none⟩ 1 rfl (fun j u hj => newcell_at _ _ _ _ _ rfl hj) (by omega) (by show B ≤ (w4.alloc _).heap.size; simp; omega) ?_); intro v5 w5 O5 B5 K5 N5))
                  go_roundg (ps.length - (j + 1))
                  case measure => omega
                  case rel =>
                    have hal := low_newU (Low.refl w4) (.cells #[.string p.t, .string p.i] 23)
                    have hsal : (w4.alloc (.cells #[.string p.t, .string p.i] 23)).heap.size = w4.heap.size + 1 := by simp
                    have hS := HSTEP.out
                    rw [← HQ.out, if_pos hq0] at hS
                    have hB5 := B5.size
                    refine ⟨j + 1, L' ++ [p], _, n'' + 1, by go_num, by omega, by omega, Lib.hid hS, Lib.hid (HMI4.out.block ((B5.block b1 (by omega)).trans (hal.2.2.2 b1 HMI4.out.lt))), Lib.hid (HCN.out.block ((B5.block b2 (by omega)).trans (hal.2.2.2 b2 HCN.out.lt))), by omega, Lib.hid ((low_newU HL4.out _).trans_belowU B5 hbw.1), by omega, Lib.hid O5, Lib.hid ?_, Lib.hid ?_, by rw [List.length_append, List.length_singleton]; omega, by rw [List.length_append, List.length_singleton]; omega⟩
                    · intro e
                      rcases N5 with h | h
                      · exact NI.out (h ▸ e)
                      · have := h _ e
                        omega
                    · exact (K5 wo.heap.size (by omega) (fun e => NI.out e.symm)).trans ((hal.2.2.2 wo.heap.size (by omega)).trans HBI4.out)
              · have zq : ¬ (q = 1) := by omega
                go_region
                all_goals
                  go_wp2_with (at_lookup; refine at_look rfl _ _ _ rfl keyedUs Tryz.underlying137 (zeroIv _) rfl HM4.out p rfl _ HVL.out ?_)
                  go_roundg (ps.length - (j + 1))
                  case measure => omega
                  case rel =>
                    have hS := HSTEP.out
                    rw [← HQ.out, if_neg hq0] at hS
                    exact ⟨j + 1, L', _, n'' + 1, by go_num, by omega, by omega, Lib.hid hS, HMI4, HCN, by omega, HL4, by omega, HOI, NI, HBI4, by omega, by omega⟩
            · have zl : ¬ (j : Int) < (ps.length : Int) := by omega
              have hx0 : wr.cell? ⟨wo.heap.size, 0, none⟩ = some (.string x.t) := by rw [World.cell?_of_block BI.out]; rw [World.cell?_alloc_mark]; rfl
              have hx1 : wr.cell? ⟨wo.heap.size, 1, none⟩ = some (.string x.i) := by rw [World.cell?_of_block BI.out]; rw [World.cell?_alloc_mark]; rfl
              go_wp2_with (at_delete; refine at_drop rfl _ _ _ rfl keyedUs Tryz.underlying105 rfl MI.out x rfl ?_; intro w8 M8 T8)
              have hbt := Butv.of (Low.refl wr) T8
              have hszz := T8.grown.size
              have hlo := LI.out.turned T8 hb1w
              clear T8
              go_roundg (L'.length + ((M.erase x).flatMap g).length)
              case measure => omega
              case rel =>
                refine ⟨M.erase x, L', c', n'', Lib.hid (KI.out.done fun hxM => ?_), Lib.hid (HN.out.erase x), Lib.hid (M8.congr fun y => ?_), Lib.hid (CI.out.block (hbt _ CI.out.lt (by omega))), by omega, Lib.hid hlo, by omega, Lib.hid (OI.out.to fun k hk => hbt k (World.ownsRow.lt OI.out k hk).2 (by have := (World.ownsRow.lt OI.out k hk).1; have := HBw.out; omega)), Nat.le_refl _, by omega⟩
                · have := HPS.out
                  rw [if_pos hxM] at this
                  rw [← this]; omega
                · unfold updF
                  by_cases e : y = x
                  · rw [if_pos e, e, if_neg (by rw [HN.out.mem_erase_iff]; simp)]
                  · rw [if_neg e]
                    show (if y ∈ M then fS l y else none) = _
                    by_cases h : y ∈ M
                    · rw [if_pos h, if_pos ((List.mem_erase_of_ne e).2 h)]
                    · rw [if_neg h, if_neg fun h2 => h (List.mem_of_mem_erase h2)]
    · intro u ao2 ln cp w4 cnt2 hfu hns R4 hlt4 G4 S4 hen
      have HR4 := Lib.hid R4
      have HL4 := Lib.hid (LL.out.of_range G4 (Nat.le_refl _))
      have hb4 := Lib.hid (Butv.of_grown G4)
      have HFU := Lib.hid hfu
      have HNS := Lib.hid hns
      have OO4 := Lib.hid (show OwnU (w2.heap.size + 1) w4 _ L from OO.out.to fun k hk => hb4.out k (World.ownsRow.lt OO.out k hk).2 (by have := (World.ownsRow.lt OO.out k hk).1; omega))
      clear R4 G4 hfu hns
      obtain ⟨q, hq⟩ : ∃ q, Hid (q = occ g ks u) := ⟨_, Lib.hid rfl⟩
      have hsz4 : w2.heap.size + 1 ≤ w4.heap.size := by omega
      have HS4 := Lib.hid S4
      clear S4
      have HCB := Lib.hid (show Cntv (w4.alloc (.cells #[.string u.t, .string u.i] 23)) b2 n2 (fun x => (occ g ks x : Int)) from HC2.out.block ((Gr.alloc (Gr.refl w4) _).low.2.2.2 _ (Nat.lt_of_lt_of_le HC2.out.lt (by omega)) |>.trans (HL4.out.2.2.2 _ HC2.out.lt)))
      obtain ⟨fc, hfc, hfv⟩ := HCB.out
      have HFC := Lib.hid hfc
      have hval : (fc u).getD (.int .i64 0) = .int .i64 (q : Int) := by rw [hfv, hq.out]
      have HV := Lib.hid hval
      clear hfc hfv hval
      have hkv : keyUs.kv u = .agg #[.string u.t, .string u.i] := rfl
      by_cases hq0 : q = 0
      · have HV0 := Lib.hid (show (fc u).getD (.int .i64 0) = .int .i64 0 by rw [HV.out, hq0]; rfl)
        go_wp2_with (first
          | (at_lookup; refine at_look rfl _ _ _ rfl keyedUs Tryz.underlying137 (zeroIv _) rfl HFC.out u rfl _ HV0.out ?_)
          | (at_builtin; go_loud (refine appR rfl _ _ _ rfl Tryz.underlying69 u_info rfl (by decide) (by decide) encU_len encU_one (w2.heap.size + 1) _ L rfl (OwnR.alloc (OwnR.alloc OO4.out _) _) u ⟨w4.heap.size + 1, 0, none⟩ 1 rfl (fun j u hj => newcell_at _ _ _ _ _ rfl hj) (by omega) (by show w2.heap.size + 1 ≤ ((w4.alloc _).alloc _).heap.size; simp; omega) ?_); intro v5 w5 O5 B5 K5 N5))
        have H5 := Lib.hid O5
        have L5 := Lib.hid ((low_newU (low_newU HL4.out _) _).trans_belowU B5 (Nat.le_succ _))
        have HR5 := Lib.hid (HR4.out.block ((B5.block _ (by have := HR4.out.lt.2.1; have := HM2.out.lt; omega)).trans ((low_newU (low_newU (Low.refl w4) _) _).2.2.2 _ HR4.out.lt.2.1)) ((B5.block _ (by omega)).trans ((low_newU (low_newU (Low.refl w4) _) _).2.2.2 _ HR4.out.lt.1)))
        have hsz5 : w2.heap.size + 1 ≤ w5.heap.size := Nat.le_trans (by simp; omega) B5.size
        clear O5 B5 K5 N5
        go_roundg cnt2
        case measure => omega
        case rel =>
          refine ⟨seen ++ [u], cnt2, L ++ [u], Nat.le_refl _, HR5, L5, hsz5, H5, by simp; omega, Lib.hid fun x => ?_⟩
          have h0 : (occ g ks u : Int) = 0 := by have := hq.out; omega
          rw [List.mem_append, List.mem_append, HL.out x]
          constructor
          · rintro (⟨h1, h2⟩ | h1)
            · exact ⟨.inl h1, h2⟩
            · simp at h1; subst h1; exact ⟨.inr (by simp), h0⟩
          · rintro ⟨h1 | h1, h2⟩
            · exact .inl ⟨h1, h2⟩
            · exact .inr h1
      · have zq : ¬ ((q : Int) = 0) := by omega
        go_wp2_with (at_lookup; refine at_look rfl _ _ _ rfl keyedUs Tryz.underlying137 (zeroIv _) rfl HFC.out u rfl _ HV.out ?_)
        have HR5 := Lib.hid (HR4.out.block ((low_newU (Low.refl w4) (.cells #[.string u.t, .string u.i] 23)).2.2.2 _ HR4.out.lt.2.1) ((low_newU (Low.refl w4) (.cells #[.string u.t, .string u.i] 23)).2.2.2 _ HR4.out.lt.1))
        go_roundg cnt2
        case measure => omega
        case rel =>
          refine ⟨seen ++ [u], cnt2, L, Nat.le_refl _, HR5, Lib.hid (low_newU HL4.out _), by simp; omega, Lib.hid (OwnR.alloc OO4.out _), by simp; omega, Lib.hid fun x => ?_⟩
          have h0 : ¬ (occ g ks u : Int) = 0 := by have := hq.out; omega
          rw [List.mem_append, HL.out x]
          constructor
          · rintro ⟨h1, h2⟩
            exact ⟨.inl h1, h2⟩
          · rintro ⟨h1 | h1, h2⟩
            · exact ⟨h1, h2⟩
            · simp at h1; subst h1; exact absurd h2 h0
end Go.Proofs.YtnenjgngahipdaaGreat
