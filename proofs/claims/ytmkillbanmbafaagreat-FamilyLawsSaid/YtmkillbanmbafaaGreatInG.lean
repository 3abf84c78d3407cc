/- Names compared, as one operation. No condition. Ways by numbers of a list of entities of different names are those by names; those above a name, in the list's order. No condition. family.Store.In: whether one is, or is below, another one. Condition: the store is of a list as it must be. family.Store.Above: all that are above an entity, rising. Condition: the store is of a list as it must be. -/
import Derived.Test.YtmkillbanmbafaaGreatParX
import Derived.Test.YtmkillbanmbafaaGreatAbvs
import Derived.Test.YtmkillbanmbafaaGreatStoG
import Derived.Test.YtmkillbanmbafaaGreatRCanE
import Derived.Test.YtmkillbanmbafaaGreatClmG
namespace Go.Proofs.YtmkillbanmbafaaGreat
open Go.RowKit Go.Maps
theorem us_eql (a b : Us) (w : World) : (binOp .eql 24 (.agg #[.string a.t, .string a.i]) (.agg #[.string b.t, .string b.i])).run Tryz.prog w = .ok (.bool (decide (a = b))) w := by
  by_cases h : a = b
  · subst h
    rw [decide_eq_true rfl]
    go_simp
  · rw [decide_eq_false h]
    by_cases ht : a.t.toList = b.t.toList
    · have hi : ¬ a.i.toList = b.i.toList := fun hi => h (Us.ext' (tl_injE ht) (tl_injE hi))
      go_simp
    · go_simp
theorem us_neq (a b : Us) (w : World) : (binOp .neq 24 (.agg #[.string a.t, .string a.i]) (.agg #[.string b.t, .string b.i])).run Tryz.prog w = .ok (.bool (!decide (a = b))) w := by
  by_cases h : a = b
  · subst h
    rw [decide_eq_true rfl]
    go_simp
  · rw [decide_eq_false h]
    by_cases ht : a.t.toList = b.t.toList
    · have hi : ¬ a.i.toList = b.i.toList := fun hi => h (Us.ext' (tl_injE ht) (tl_injE hi))
      go_simp
    · go_simp
end Go.Proofs.YtmkillbanmbafaaGreat
namespace Go.Proofs.YtmkillbanmbafaaGreat
open Go.RowKit Go.Sort Go.Maps
def Rq (qs : List Ee) (i : Nat) : List Us := ((ensOf qs)[i]?.map (·.ps)).getD []
theorem Rq_at {qs : List Ee} {i : Nat} (hi : i < qs.length) : Rq qs i = qs[i].e.ps := by
  unfold Rq ensOf
  simp [hi]
theorem mem_ens {qs : List Ee} {i : Nat} (hi : i < qs.length) : qs[i].e ∈ ensOf qs := List.mem_map_of_mem (List.getElem_mem hi)
theorem num_step {qs : List Ee} (hn : (namesE (ensOf qs)).Nodup) {i j : Nat} : stepS (qs.map Ee.sh) (Rq qs) i j ↔ ∃ (hi : i < qs.length) (hj : j < qs.length), stepE (ensOf qs) qs[i].e.u qs[j].e.u := by
  constructor
  · rintro ⟨hi, p, hp, hf⟩
    have hi' : i < qs.length := by simpa using hi
    obtain ⟨hj, e⟩ := findI_nat hf
    have hj' : j < qs.length := by simpa using hj
    rw [List.getElem_map] at e
    replace e : qs[j].e.u = p := e
    rw [Rq_at hi'] at hp
    refine ⟨hi', hj', List.mem_map.2 ⟨_, mem_ens hi', rfl⟩, ?_, List.mem_map.2 ⟨_, mem_ens hj', rfl⟩⟩
    rw [PE_of hn (mem_ens hi'), e]; exact hp
  · rintro ⟨hi, hj, -, h2, -⟩
    rw [PE_of hn (mem_ens hi)] at h2
    exact ⟨by simpa using hi, _, by rw [Rq_at hi]; exact h2, find_nod hn hj⟩
theorem num_way {qs : List Ee} (hn : (namesE (ensOf qs)).Nodup) {i j : Nat} (hi : i < qs.length) (hj : j < qs.length) : Way (stepS (qs.map Ee.sh) (Rq qs)) i j ↔ Way (stepE (ensOf qs)) qs[i].e.u qs[j].e.u := by
  constructor
  · intro h
    have key : ∀ {a b : Nat}, Way (stepS (qs.map Ee.sh) (Rq qs)) a b → ∃ (ha : a < qs.length) (hb : b < qs.length), Way (stepE (ensOf qs)) qs[a].e.u qs[b].e.u := fun {a b} h => by
      induction h with
      | one s =>
        obtain ⟨ha, hb, h⟩ := (num_step hn).1 s
        exact ⟨ha, hb, .one h⟩
      | more _ s ih =>
        obtain ⟨ha, hb, h⟩ := ih
        obtain ⟨hb', hc, h2⟩ := (num_step hn).1 s
        exact ⟨ha, hc, .more h h2⟩
    obtain ⟨_, _, h⟩ := key h
    exact h
  · intro h
    have key : ∀ {x y : Us}, Way (stepE (ensOf qs)) x y → ∀ a (ha : a < qs.length), qs[a].e.u = x → ∃ (b : Nat) (hb : b < qs.length), qs[b].e.u = y ∧ Way (stepS (qs.map Ee.sh) (Rq qs)) a b := fun {x y} h => by
      induction h with
      | @one y s =>
        intro a ha e
        obtain ⟨d, hd, e2⟩ := List.mem_map.1 s.2.2
        obtain ⟨b, hb, e3⟩ := List.getElem_of_mem hd
        have hb' : b < qs.length := by simpa [ensOf] using hb
        have e4 : qs[b].e.u = y := by rw [← e2, ← e3]; simp [ensOf]
        exact ⟨b, hb', e4, .one ((num_step hn).2 ⟨ha, hb', by rw [e, e4]; exact s⟩)⟩
      | @more y z _ s ih =>
        intro a ha e
        obtain ⟨m, hm, e1, hw⟩ := ih a ha e
        obtain ⟨d, hd, e2⟩ := List.mem_map.1 s.2.2
        obtain ⟨b, hb, e3⟩ := List.getElem_of_mem hd
        have hb' : b < qs.length := by simpa [ensOf] using hb
        have e4 : qs[b].e.u = z := by rw [← e2, ← e3]; simp [ensOf]
        exact ⟨b, hb', e4, .more hw ((num_step hn).2 ⟨hm, hb', by rw [e1, e4]; exact s⟩)⟩
    obtain ⟨b, hb, e, hw⟩ := key h i hi rfl
    have h1 := find_nod hn hb
    have h2 := find_nod hn hj
    rw [e, h2] at h1
    have : b = j := by omega
    rw [← this]; exact hw
/-- Those above a name, in the list's order. -/
noncomputable def abvN (c : List En) (u : Us) : List Us := (namesE c).filter fun n => @decide (Way (stepE c) u n) (Classical.propDecidable _)
theorem abvN_step {l : List Us} {u : Us} {c : List En} {i : Nat} (hi : i < l.length) : ((l.take (i + 1)).filter fun n => @decide (Way (stepE c) u n) (Classical.propDecidable _)) = ((l.take i).filter fun n => @decide (Way (stepE c) u n) (Classical.propDecidable _)) ++ (open Classical in if Way (stepE c) u l[i] then [l[i]] else []) := by
  rw [List.take_succ_eq_append_getElem hi, List.filter_append]
  congr 1
  by_cases h : Way (stepE c) u l[i]
  · rw [if_pos h, List.filter_cons_of_pos (by simpa using h)]; rfl
  · rw [if_neg h, List.filter_cons_of_neg (by simpa using h)]; rfl
theorem abvN_no {c : List En} {u : Us} (h : u ∉ namesE c) : abvN c u = [] := by
  unfold abvN
  rw [List.filter_eq_nil_iff]
  intro x _ hx
  have hw : Way (stepE c) u x := by simpa using hx
  exact h (way_from hw)
/-- A name put behind a row in which all come ahead of it. -/
theorem putS_last {u : Us} : ∀ {l : List Us}, (∀ x ∈ l, cmpUs x u < 0) → putS u l false = l ++ [u]
  | [], _ => rfl
  | x :: r, h => by
    have h1 := h x (by simp)
    have hne : x ≠ u := fun e => by rw [e, us_refl] at h1; omega
    rw [putS_step, putS_last_aux h1 hne, putS_last fun y hy => h y (by simp [hy])]
    rfl
where
  putS_last_aux {x u : Us} {r : List Us} (h1 : cmpUs x u < 0) (hne : x ≠ u) : (if (!false && decide (0 ≤ cmpUs x u)) = true then [u] else []) ++ ((if x = u then [] else [x]) ++ putS u r (false || decide (0 ≤ cmpUs x u))) = x :: putS u r false := by
    have hd : decide (0 ≤ cmpUs x u) = false := by simp; omega
    rw [hd, if_neg hne]
    rfl
end Go.Proofs.YtmkillbanmbafaaGreat
namespace Go.Proofs.YtmkillbanmbafaaGreat
open Go.RowKit Go.Sort Go.Maps
noncomputable def inB (c : List En) (a b : Us) : Bool := @decide (a = b ∨ Way (stepE c) a b) (Classical.propDecidable _)
theorem inB_iff {c : List En} {a b : Us} : inB c a b = true ↔ a = b ∨ Way (stepE c) a b := by simp [inB]
def StP (z : St) (qs : List Ee) (v : Value) (w : World) (e : Ending) (w' : World) : Prop := e = .returned v ∧ Sto w' z qs ∧ Lw z.ma w w'
set_option maxRecDepth 100000 in
set_option maxHeartbeats 3200000 in
theorem in_c (w : World) (z : St) (qs : List Ee) (a b : Us) (hS : Sto w z qs) (hg : GoodC (ensOf qs)) :
    Calls Tryz.prog 18 #[.pointer (some ⟨z.p, 0, none⟩), .agg #[.string a.t, .string a.i], .agg #[.string b.t, .string b.i]] w (StP z qs (.bool (inB (ensOf qs) a b)) w) := by
  obtain ⟨U0, hU0⟩ : ∃ W, W = (w.alloc (.cells #[.string a.t, .string a.i] 24)).alloc (.cells #[.string b.t, .string b.i] 24) := ⟨_, rfl⟩
  have HU0 := Lib.hid hU0
  have L0 := Lib.hid (show Low w U0 by rw [hU0]; exact Low.alloc (Low.alloc (Low.refl w) _) _)
  have BA := Lib.hid (show BoxAt U0 w.heap.size [.string a.t, .string a.i] from BoxAt.low (BoxAt.made (w := w) (W := w.alloc (.cells #[.string a.t, .string a.i] 24)) rfl rfl rfl) (show Low (w.alloc (.cells #[.string a.t, .string a.i] 24)) U0 by rw [hU0]; exact Low.alloc (Low.refl _) _))
  have BB := Lib.hid (show BoxAt U0 (w.heap.size + 1) [.string b.t, .string b.i] from BoxAt.made hU0 (by simp) rfl)
  have HMM := Lib.hid hS.isMap
  have HMA := Lib.hid (show z.ma < w.heap.size from hS.isMap.lt)
  have HG := Lib.hid hg
  have HS0 := Lib.hid (hS.low L0.out)
  have HC := Lib.hid (climb_c U0 z qs a HS0.out hg)
  have qE := fun W => us_eql a b W
  obtain ⟨q, hq⟩ : ∃ q, q = decide (a = b) := ⟨_, rfl⟩
  rw [← hq] at qE
  have HQ := Lib.hid hq
  clear hU0 hS hg hq
  go_enter Tryz.func18, Tryz.ntmps18
  go_upto_region 1 with fail
  rw [← HU0.out]
  clear HU0
  obtain ⟨a0, a1⟩ := BA.out.at2
  obtain ⟨b0, b1⟩ := BB.out.at2
  cases q with
  | true =>
    go_wp2_with fail
    go_ret
    refine ⟨?_, HS0.out, Lw.of_low L0.out HMM.out⟩
    have : inB (ensOf qs) a b = true := inB_iff.2 (.inl (by have := HQ.out; simpa using this.symm))
    rw [this]; rfl
  | false =>
    go_wp2_with fail
    refine HC.out.mono ?_
    rintro e w1 ⟨rfl, ⟨ks, hab, hst⟩, l1⟩
    have HAB := Lib.hid hab
    have HST := Lib.hid hst
    have L1 := Lib.hid l1
    have BA1 := Lib.hid (BA.out.lw l1 (by have := HMA.out; omega))
    have BB1 := Lib.hid (BB.out.lw l1 (by have := HMA.out; omega))
    have HLD := Lib.hid (leads_c w1 z qs ks hst a b)
    clear hab hst l1 a0 a1 b0 b1 HC
    obtain ⟨a0, a1⟩ := BA1.out.at2
    obtain ⟨b0, b1⟩ := BB1.out.at2
    go_wp2_with fail
    refine HLD.out.mono ?_
    rintro e w2 ⟨rfl, g2⟩
    have G2 := Lib.hid g2
    clear g2 a0 a1 b0 b1 HLD qE
    go_wp2_with fail
    go_ret
    refine ⟨?_, ⟨ks, HAB.out.1, HST.out.low G2.out.low⟩, (Lw.of_low L0.out HMM.out).trans (L1.out.trans (Lw.of_low G2.out.low HST.out.isMap))⟩
    have hne : a ≠ b := by have := HQ.out; simpa using this.symm
    have h1 := HAB.out.2 b
    have : inB (ensOf qs) a b = decide ((a, b) ∈ ks) := by
      rw [Bool.eq_iff_iff, inB_iff, decide_eq_true_eq, h1]
      exact ⟨fun h => h.resolve_left hne, .inr⟩
    rw [this]; rfl
end Go.Proofs.YtmkillbanmbafaaGreat
namespace Go.Proofs.YtmkillbanmbafaaGreat
open Go.RowKit Go.Sort Go.Maps
/-- What Above answers. -/
def AbvP (z : St) (qs : List Ee) (u : Us) (w : World) (e : Ending) (w' : World) : Prop := ∃ v, e = .returned v ∧ UsAt w' v (abvN (ensOf qs) u) ∧ Sto w' z qs ∧ Lw z.ma w w'
set_option maxRecDepth 100000 in
set_option maxHeartbeats 3200000 in
theorem above6_c (w : World) (z : St) (qs : List Ee) (u : Us) (hS : Sto w z qs) (hg : GoodC (ensOf qs)) :
    Calls Tryz.prog 16 #[.pointer (some ⟨z.p, 0, none⟩), .agg #[.string u.t, .string u.i]] w (AbvP z qs u w) := by
  obtain ⟨U0, hU0⟩ : ∃ W, W = w.alloc (.cells #[.string u.t, .string u.i] 24) := ⟨_, rfl⟩
  have HU0 := Lib.hid hU0
  have L0 := Lib.hid (show Low w U0 by rw [hU0]; exact Low.alloc (Low.refl w) _)
  have BU := Lib.hid (show BoxAt U0 w.heap.size [.string u.t, .string u.i] from BoxAt.made hU0 rfl rfl)
  have HMM := Lib.hid hS.isMap
  have HMA := Lib.hid (show z.ma < w.heap.size from hS.isMap.lt)
  have HG := Lib.hid hg
  have HC := Lib.hid (climb_c U0 z qs u (hS.low L0.out) hg)
  clear hU0 hS hg
  go_enter Tryz.func16, Tryz.ntmps16
  go_upto_region 1 with fail
  rw [← HU0.out]
  clear HU0
  obtain ⟨a0, a1⟩ := BU.out.at2
  go_wp2_with fail
  refine HC.out.mono ?_
  rintro e w1 ⟨rfl, ⟨ks, hab, hst⟩, l1⟩
  have HAB := Lib.hid hab
  have HST := Lib.hid hst
  have L1 := Lib.hid ((Lw.of_low L0.out HMM.out).trans l1)
  have BU1 := Lib.hid (BU.out.lw l1 (by have := HMA.out; omega))
  clear hab hst l1 a0 a1 HC BU L0
  obtain ⟨N, hN⟩ : ∃ N, N = qs.length := ⟨_, rfl⟩
  have c0 := HST.out.c0
  have hNM := HST.out.names
  obtain ⟨az, haz⟩ : ∃ a, a = z.ao := ⟨_, rfl⟩
  rw [← hN, ← haz] at c0 hNM
  clear haz
  obtain ⟨an, cn, hv, ⟨hc1, hc2⟩, hx⟩ := hNM
  have hnl : (namesE (ensOf qs)).length = N := by rw [names_len, hN]; simp [ensOf]
  simp only [Value.slice.injEq] at hv
  obtain ⟨rfl, -, rfl⟩ := hv
  have HX := Lib.hid hx
  have HNL := Lib.hid hnl
  have hN3 : N ≤ 300 := by rw [← hnl, names_len]; exact HG.out.len
  clear hx hnl hN
  go_wp2_with fail
  clear c0
  obtain ⟨l, hl⟩ : ∃ l, l = namesE (ensOf qs) := ⟨_, rfl⟩
  have HL := Lib.hid hl
  rw [← hl] at HX HNL hc1
  clear hl
  go_loopg [5, 18] N (fun gk vs vi wr => ∃ (vr : Value) (i : Nat) (R : List Us), vr = vs ∧ vi = .int .i64 (i : Int) ∧ i ≤ N ∧ N - i ≤ gk ∧ R.length ≤ i ∧ Hid (Low w1 wr) ∧ Hid (OwnU w1.heap.size wr vr R) ∧ Hid (R = (l.take i).filter fun n => @decide (Way (stepE (ensOf qs)) u n) (Classical.propDecidable _)))
  case atStart => exact ⟨_, 0, [], rfl, rfl, Nat.zero_le _, Nat.le_refl _, Nat.le_refl _, Lib.hid (Low.refl _), Lib.hid (OwnR.nil _ _ _ _ _), Lib.hid rfl⟩
  case round =>
    obtain ⟨vr, i, R, rfl, rfl, hi, hg, hR, G, O, K⟩ := hrel
    by_cases hlt : i < N
    · have zl : (i : Int) < (N : Int) := by omega
      have hil : i < l.length := by rw [HNL.out]; exact hlt
      obtain ⟨b, o, rfl, hcs⟩ := HX.out i hil
      obtain ⟨e0, e1⟩ := cells2 (G.out.cells hcs)
      have hst := abvN_step (u := u) (c := ensOf qs) hil
      obtain ⟨n, hn⟩ : ∃ n, n = l[i] := ⟨_, rfl⟩
      rw [← hn] at e0 e1 hst
      have HSTEP := Lib.hid hst
      obtain ⟨W3, hW3⟩ : ∃ W, W = wr.alloc (.cells #[.string n.t, .string n.i] 24) := ⟨_, rfl⟩
      have HW3 := Lib.hid hW3
      have L3 := Lib.hid (show Low wr W3 by rw [hW3]; exact Low.alloc (Low.refl wr) _)
      have BN := Lib.hid (show BoxAt W3 wr.heap.size [.string n.t, .string n.i] from BoxAt.made hW3 rfl rfl)
      have BU3 := Lib.hid (BU1.out.low (G.out.trans L3.out))
      have HC := Lib.hid (leads_c W3 z qs ks (HST.out.low (G.out.trans L3.out)) u n)
      clear hn hcs hW3 hst
      go_upto_region 8 with fail
      rw [← HW3.out]
      clear HW3 e0 e1
      obtain ⟨b0, b1⟩ := BU3.out.at2
      obtain ⟨n0, n1⟩ := BN.out.at2
      obtain ⟨t, ht⟩ : ∃ t, t = decide ((u, n) ∈ ks) := ⟨_, rfl⟩
      rw [← ht] at HC
      have HT := Lib.hid (show t = true ↔ Way (stepE (ensOf qs)) u n by rw [ht, decide_eq_true_eq]; exact HAB.out.2 n)
      clear ht
      go_wp2_with fail
      refine HC.out.mono ?_
      rintro e w4 ⟨rfl, g4⟩
      have L4 := Lib.hid (L3.out.trans g4.low)
      have BN4 := Lib.hid (BN.out.low g4.low)
      have O4 := Lib.hid (OwnR.low O.out L4.out)
      have hsz4 : w1.heap.size ≤ w4.heap.size := Nat.le_trans G.out.size L4.out.size
      clear g4 HC b0 b1 n0 n1 BN BU3 L3
      obtain ⟨n0, n1⟩ := BN4.out.at2
      cases t with
      | true =>
        have HW := Lib.hid (HT.out.1 rfl)
        go_wp2_with (first
          | (at_builtin; go_loud (refine appR rfl _ _ _ rfl Tryz.underlying33 u_info rfl (by decide) (by decide) encU_len encU_one w1.heap.size _ R rfl (OwnR.alloc O4.out _) n ⟨w4.heap.size, 0, none⟩ 1 rfl (fun j u hj => newcell_at _ _ _ _ _ rfl hj) (by omega) (by show w1.heap.size ≤ (w4.alloc _).heap.size; simp; omega) ?_); intro v6 w6 O6 B6 K6 N6))
        have O6' := Lib.hid O6
        have L6 := Lib.hid (show Low w1 w6 from (low_newU (G.out.trans L4.out) _).trans_belowU B6 (Nat.le_refl _))
        clear O6 B6 K6 N6
        go_roundg (N - (i + 1))
        case measure => omega
        case rel => exact ⟨_, i + 1, R ++ [n], rfl, by go_num, by omega, by omega, by simp; omega, L6, O6', Lib.hid (by rw [HSTEP.out, if_pos HW.out, K.out])⟩
      | false =>
        have HW := Lib.hid (show ¬ Way (stepE (ensOf qs)) u n from fun h => by have := HT.out.2 h; simp at this)
        go_wp2_with fail
        go_roundg (N - (i + 1))
        case measure => omega
        case rel => exact ⟨_, i + 1, R, rfl, by go_num, by omega, by omega, by omega, Lib.hid (G.out.trans L4.out), O4, Lib.hid (by rw [HSTEP.out, if_neg HW.out, List.append_nil, K.out])⟩
    · have zl : ¬ (i : Int) < (N : Int) := by omega
      obtain rfl : i = N := by omega
      go_wp2_with fail
      go_ret
      refine ⟨_, rfl, ?_, ⟨ks, HAB.out.1, HST.out.low G.out⟩, L1.out.trans (Lw.of_low G.out HST.out.isMap)⟩
      have hR2 : R = abvN (ensOf qs) u := by
        rw [K.out, ← HNL.out, List.take_length, HL.out]; rfl
      rw [← hR2]
      exact (OwnR.usIn (A := fun _ => True) O.out fun _ _ => trivial).any
end Go.Proofs.YtmkillbanmbafaaGreat
