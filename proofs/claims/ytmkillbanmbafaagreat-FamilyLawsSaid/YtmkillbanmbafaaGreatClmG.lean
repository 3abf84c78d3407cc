/- family.Store.leads: whether a way is laid down. No condition. The parents of an entity, read out of its cells. No condition. family.Store.climb: all names above an entity are laid down. Condition: the store is of a list as it must be, of no more than 300 entities. -/
import Derived.Test.YtmkillbanmbafaaGreatStoG
namespace Go.Proofs.YtmkillbanmbafaaGreat
open Go.RowKit Go.Sort Go.Maps
theorem zeroSt (w : World) : (zeroValue 78).run Tryz.prog w = .ok (.agg #[]) w := by kernel_rfl
theorem zeroEn (w : World) : (zeroValue 39).run Tryz.prog w = .ok eeNo.val w := by kernel_rfl
theorem abF_get (ks : List (Us × Us)) (p : Us × Us) : (abF ks p).getD (.agg #[]) = .agg #[] := by
  unfold abF
  split <;> rfl
theorem look_ab {w : World} {z : St} {qs : List Ee} {ks : List (Us × Us)} (h : StAt w z qs ks) (a b : Us) :
    (Instr.lookup 56 (.map (some z.ma)) (.agg #[.string a.t, .string a.i, .string b.t, .string b.i]) true).run Tryz.prog w = .ok (.tuple #[.agg #[], .bool (decide ((a, b) ∈ ks))]) w := by
  obtain ⟨n, -, hm⟩ := h.abv
  have := hm.lookOk keyedUU Tryz.underlying56 (zeroSt _) (a, b)
  rw [abF_get, abF_there] at this
  exact this
theorem look_en {w : World} {z : St} {qs : List Ee} {ks : List (Us × Us)} (h : StAt w z qs ks) (x : Us) :
    (Instr.lookup 55 (.map (some z.me)) (.agg #[.string x.t, .string x.i]) false).run Tryz.prog w = .ok ((fstQ qs x).getD eeNo).val w := by
  have := h.ents.look keyedUs Tryz.underlying55 (zeroEn _) x
  rw [enF_get] at this
  exact this
theorem look_enOk {w : World} {z : St} {qs : List Ee} {ks : List (Us × Us)} (h : StAt w z qs ks) (x : Us) :
    (Instr.lookup 55 (.map (some z.me)) (.agg #[.string x.t, .string x.i]) true).run Tryz.prog w = .ok (.tuple #[((fstQ qs x).getD eeNo).val, .bool (decide (x ∈ namesE (ensOf qs)))]) w := by
  have := h.ents.lookOk keyedUs Tryz.underlying55 (zeroEn _) x
  rw [enF_get, enF_there] at this
  exact this
set_option maxHeartbeats 1600000 in
theorem leads_c (w : World) (z : St) (qs : List Ee) (ks : List (Us × Us)) (h : StAt w z qs ks) (a b : Us) :
    Calls Tryz.prog 29 #[.pointer (some ⟨z.p, 0, none⟩), .agg #[.string a.t, .string a.i], .agg #[.string b.t, .string b.i]] w fun e w' => e = .returned (.bool (decide ((a, b) ∈ ks))) ∧ Gr w w' := by
  obtain ⟨W0, hW0⟩ : ∃ W, W = (w.alloc (.cells #[.string a.t, .string a.i] 24)).alloc (.cells #[.string b.t, .string b.i] 24) := ⟨_, rfl⟩
  have HW0 := Lib.hid hW0
  have G0 := Lib.hid (show Gr w W0 from hW0 ▸ (Gr.alloc (Gr.alloc (Gr.refl w) _) _))
  have hs := h.low (G0.out.drew).low
  have hsX := fun X => h.low ((G0.out.alloc X).drew).low
  have hl := look_ab hs a b
  have hlX := fun X => look_ab (hsX X) a b
  have c2 := (h.low G0.out.low).c2
  have c2X := fun X => (h.low (G0.out.alloc X).low).c2
  have BA := BoxAt.new (C := #[.string a.t, .string a.i]) (cs := [.string a.t, .string a.i]) (t := 24) w.heap.size (show Low (w.alloc (.cells #[.string a.t, .string a.i] 24)) W0 from hW0 ▸ Low.alloc (Low.refl _) _) rfl rfl
  have BB := BoxAt.new (C := #[.string b.t, .string b.i]) (cs := [.string b.t, .string b.i]) (t := 24) (w.heap.size + 1) (show Low ((w.alloc (.cells #[.string a.t, .string a.i] 24)).alloc (.cells #[.string b.t, .string b.i] 24)) W0 from hW0 ▸ Low.refl _) rfl (by simp)
  obtain ⟨a0, a1⟩ := BA.at2
  obtain ⟨b0, b1⟩ := BB.at2
  have a0X := fun X => (BA.low (Low.alloc (Low.refl W0) X)).at2.1
  have a1X := fun X => (BA.low (Low.alloc (Low.refl W0) X)).at2.2
  have b0X := fun X => (BB.low (Low.alloc (Low.refl W0) X)).at2.1
  have b1X := fun X => (BB.low (Low.alloc (Low.refl W0) X)).at2.2
  obtain ⟨q, hq⟩ : ∃ q, q = decide ((a, b) ∈ ks) := ⟨_, rfl⟩
  rw [← hq] at hl hlX ⊢
  clear hq hW0 hs hsX BA BB h
  go_enter Tryz.func29, Tryz.ntmps29
  go_upto_region 1 with fail
  rw [← HW0.out]
  clear HW0
  go_region
  all_goals
    go_wp2_with fail
    go_ret
    exact ⟨rfl, (G0.out.alloc _).drew⟩
end Go.Proofs.YtmkillbanmbafaaGreat
namespace Go.Proofs.YtmkillbanmbafaaGreat
open Go.RowKit Go.Sort Go.Maps
theorem field_ps (q : Ee) (w : World) : (Instr.field 39 (.agg #[.string q.e.u.t, .string q.e.u.i, .slice q.ap q.e.ps.length q.cp, .int .i64 q.e.a.h.k, .bool q.e.a.h.b, .int .i64 q.e.a.h.n, .string q.e.a.h.s, .string q.e.a.h.t, .string q.e.a.h.i, .slice q.ai q.e.a.l.length q.ci, .slice q.an q.e.a.ns.length q.cn]) 1).run Tryz.prog w = .ok (.slice q.ap q.e.ps.length q.cp) w := by
  first | kernel_rfl | (go_simp; done) | (simp [go_sem]; done) | rfl
end Go.Proofs.YtmkillbanmbafaaGreat
namespace Go.Proofs.YtmkillbanmbafaaGreat
open Go.RowKit Go.Sort Go.Maps
/-- A store in which a name was climbed. -/
def StoU (w : World) (z : St) (qs : List Ee) (u : Us) : Prop := ∃ ks, AbvFor (ensOf qs) ks u ∧ StAt w z qs ks
theorem StoU.sto {w : World} {z : St} {qs : List Ee} {u : Us} (h : StoU w z qs u) : Sto w z qs := by
  obtain ⟨ks, h1, h2⟩ := h
  exact ⟨ks, h1.1, h2⟩
def ClimbP (z : St) (qs : List Ee) (u : Us) (w : World) (e : Ending) (w' : World) : Prop := e = .returned (.tuple #[]) ∧ StoU w' z qs u ∧ Lw z.ma w w'
theorem OwnR.lw {α : Type} {e : TypeId} {k : Nat} {enc : α → List Value} {B m : Nat} {w w' : World} {v : Value} {l : List α} (h : OwnR e k enc B w v l) (L : Lw m w w') (hm : m < B) : OwnR e k enc B w' v l :=
  h.to fun g hg => L.block g (World.ownsRow.lt h g hg).2 (by have := (World.ownsRow.lt h g hg).1; omega)
theorem BoxAt.lw {m n : Nat} {w w' : World} {cs : List Value} (h : BoxAt w n cs) (L : Lw m w w') (hn : n ≠ m) : BoxAt w' n cs where
  cells := fun j v hj => by
    have := h.cells j v hj
    rw [World.cell?_of_block (w := w) (w' := w') (a := ⟨n, 0 + j, none⟩) (L.block n h.lt hn)]
    exact this
  open' := fun o => by
    rw [World.frozen?_of_block (w := w) (w' := w') (a := ⟨n, o, none⟩) (L.block n h.lt hn)]
    exact h.open' o
  lt := Nat.lt_of_lt_of_le h.lt L.size
theorem ownU_box {B : Nat} {w W : World} (u : Us) (hW : W = w.alloc (.cells #[.string u.t, .string u.i] 24)) (hB : B ≤ w.heap.size) : OwnU B W (.slice (some ⟨w.heap.size, 0, none⟩) 1 1) [u] := by
  subst hW
  refine ⟨by simp [Us.cs], .inr ⟨w.heap.size, 1, #[.string u.t, .string u.i], rfl, hB, ?_, Nat.le_refl _, by decide, rfl, rfl⟩⟩
  show (w.heap.push _)[w.heap.size]? = _
  simp
theorem gr_keep {w : World} {a : Addr} {v : Value} (h : w.cell? a = some v) (n : Nat) (os : Array Obj) : (Sort.grow (w.drewN n) os).cell? a = some v := (Gr.grow (Gr.refl w) n os).cell h
set_option maxRecDepth 100000 in
set_option maxHeartbeats 6400000 in
theorem climb_c (w : World) (z : St) (qs : List Ee) (u : Us) (hS : Sto w z qs) (hg : GoodC (ensOf qs)) : Calls Tryz.prog 28 #[.pointer (some ⟨z.p, 0, none⟩), .agg #[.string u.t, .string u.i]] w (ClimbP z qs u w) := by
  obtain ⟨ks, hab, hst⟩ := hS
  obtain ⟨U0, hU0⟩ : ∃ W, W = w.alloc (.cells #[.string u.t, .string u.i] 24) := ⟨_, rfl⟩
  have HU0 := Lib.hid hU0
  have L0 := Lib.hid (show Low w U0 by rw [hU0]; exact Low.alloc (Low.refl w) _)
  have B0 := Lib.hid (show BoxAt U0 w.heap.size [.string u.t, .string u.i] from BoxAt.made hU0 rfl rfl)
  have HSZ := Lib.hid (show U0.heap.size = w.heap.size + 1 by rw [hU0]; simp)
  have S0 := Lib.hid (hst.low L0.out)
  have S1 := Lib.hid (show StAt U0.drew z qs ks from (hst.low L0.out).low (Gr.refl U0).drew.low)
  have HMA := Lib.hid (show z.ma < w.heap.size from hst.isMap.lt)
  have HMM := Lib.hid hst.isMap
  have HAB := Lib.hid hab
  have HST := Lib.hid hst
  have HG := Lib.hid hg
  clear hU0 hst hab hg
  have mixed : Tryz.prog.follows .mixedOrders = true := by kernel_rfl
  go_enter Tryz.func28, Tryz.ntmps28
  go_upto_region 1 with fail
  rw [← HU0.out]
  clear HU0
  obtain ⟨x, hx⟩ : ∃ x, (fstQ qs u).getD eeNo = x := ⟨_, rfl⟩
  have hlk := look_en S1.out u
  rw [hx] at hlk
  have HPS := Lib.hid (show x.e.ps = PE (ensOf qs) u by rw [← hx]; exact fstQ_ps qs u)
  have HOK := Lib.hid (show UsAt U0 (.slice x.ap x.e.ps.length x.cp) x.e.ps by rw [← hx]; exact (fstQ_ok S0.out.ok u).1.any)
  have c1 := S0.out.c1
  obtain ⟨b0, b1⟩ := B0.out.at2
  unfold Ee.val at hlk
  have hfl := fun W => field_ps x W
  clear hx
  go_region
  obtain ⟨U1, hU1⟩ : ∃ W, W = U0.drew := ⟨_, rfl⟩
  have HU1 := Lib.hid hU1
  have L01 := Lib.hid (show Low U0 U1 by rw [hU1]; exact Low.drewN _ 1)
  have G01 := Lib.hid (show Gr U0 U1 by rw [hU1]; exact (Gr.refl U0).drew)
  have S2 := Lib.hid (S0.out.low L01.out)
  have B1 := Lib.hid (B0.out.low L01.out)
  rw [← hU1]
  clear hU1 hlk c1 b0 b1 hfl
  obtain ⟨ps, hps⟩ : ∃ ps, ps = x.e.ps := ⟨_, rfl⟩
  rw [← hps] at HPS HOK ⊢
  clear hps
  obtain ⟨ap, hap⟩ : ∃ a, a = x.ap := ⟨_, rfl⟩
  obtain ⟨cp, hcp⟩ : ∃ a, a = x.cp := ⟨_, rfl⟩
  rw [← hap, ← hcp] at HOK ⊢
  clear hap hcp
  cases ps with
  | nil =>
    have HPE := Lib.hid (show PE (ensOf qs) u = [] from HPS.out.symm)
    simp only [List.length_nil]
    go_wp2_with fail
    go_quiet (fail)
    have LQ := Lib.hid ((L0.out.trans L01.out).trans (Low.drewN U1 nq))
    have SQ := Lib.hid (S2.out.low (Low.drewN U1 nq))
    obtain ⟨V1, hV1⟩ : ∃ W, W = U1.drewN nq := ⟨_, rfl⟩
    rw [← hV1] at LQ SQ ⊢
    clear hV1
    go_wp2_with fail
    refine bodyPost_ret (v := .tuple #[]) (by simp [results, Tryz.results28]) rfl ?_
    exact ⟨rfl, ⟨ks, HAB.out.none HPE.out, SQ.out⟩, Lw.of_low LQ.out HMM.out⟩
  | cons p0 pr =>
    obtain ⟨ap', cp', hpv, ⟨hp1, hp2⟩, hp3⟩ := HOK.out
    simp only [Value.slice.injEq, true_and] at hpv
    obtain ⟨rfl, rfl⟩ := hpv
    obtain ⟨pb, po, rfl, hpc⟩ := hp3 0 (by simp)
    have e0 := hpc 0 _ rfl
    have e1 := hpc 1 _ rfl
    simp only [Nat.zero_mul, Nat.add_zero, List.getElem_cons_zero] at e0 e1
    have e0 := gr_keep (L01.out.keep e0)
    have e1 := gr_keep (L01.out.keep e1)
    obtain ⟨b0, b1⟩ := B1.out.at2
    have b0 := gr_keep b0
    have b1 := gr_keep b1
    obtain ⟨t, ht⟩ : ∃ t, t = decide ((u, p0) ∈ ks) := ⟨_, rfl⟩
    have HC := Lib.hid (show ∀ n os, Calls Tryz.prog 29 #[.pointer (some ⟨z.p, 0, none⟩), .agg #[.string u.t, .string u.i], .agg #[.string p0.t, .string p0.i]] (Sort.grow (U1.drewN n) os) fun e w'' => e = .returned (.bool t) ∧ ∃ p : GrownBy, w'' = Sort.grow (U1.drewN p.n) p.os from fun n os => by
      rw [ht]
      exact Calls.grown_of (leads_c _ z qs ks (S2.out.low (Gr.grow (Gr.refl U1) n os).low) u p0))
    have HT := Lib.hid ht
    have HP0 := Lib.hid (show p0 ∈ PE (ensOf qs) u by rw [← HPS.out]; simp)
    have HP3 := Lib.hid hp3
    clear ht hpc hp3
    obtain ⟨N, hN⟩ : ∃ N, N = (p0 :: pr).length := ⟨_, rfl⟩
    have zN : ¬ ((N : Int) = 0) := by rw [hN]; simp; omega
    have zN1 : (0 : Int) < (N : Int) := by omega
    have zNb : ((N : Int) == 0) = false := by simpa using zN
    have zN2 : 0 < N := by omega
    rw [← hN]
    have HNP := Lib.hid hN
    rw [← hN] at hp1
    clear hN
    go_wp2_with fail
    go_quiet_grown (first | (with_reducible exact HC.out _ _))
    have G1 := Lib.hid (show Gr U1 (Sort.grow (U1.drewN nq) osq) from Gr.grow (Gr.refl U1) nq osq)
    obtain ⟨V1, hV1⟩ : ∃ W, W = Sort.grow (U1.drewN nq) osq := ⟨_, rfl⟩
    rw [← hV1] at G1 ⊢
    have S3 := Lib.hid (S2.out.low G1.out.low)
    have B2 := Lib.hid (B1.out.low G1.out.low)
    have L3 := Lib.hid ((L0.out.trans L01.out).trans G1.out.low)
    clear hV1 e0 e1 b0 b1 HC
    cases t with
    | true =>
      have HM := Lib.hid (show (u, p0) ∈ ks from by have := HT.out; simpa using this.symm)
      clear zN zN1 zN2 zNb
      go_wp2_with fail
      refine bodyPost_ret (v := .tuple #[]) (by simp [results, Tryz.results28]) rfl ?_
      exact ⟨rfl, ⟨ks, HAB.out.again HM.out, S3.out⟩, Lw.of_low L3.out HMM.out⟩
    | false =>
      have HNO := Lib.hid (show ∀ b, (u, b) ∉ ks from HAB.out.fresh HG.out.closed HP0.out (by have := HT.out; simpa using this.symm))
      clear zN zN1 zN2 zNb
      obtain ⟨V2, hV2⟩ : ∃ W, W = V1.alloc (.cells #[.string u.t, .string u.i] 24) := ⟨_, rfl⟩
      have HV2 := Lib.hid hV2
      have L23 := Lib.hid (show Low V1 V2 by rw [hV2]; exact Low.alloc (Low.refl V1) _)
      obtain ⟨B, hB⟩ : ∃ B, B = w.heap.size + 1 := ⟨_, rfl⟩
      have HB := Lib.hid hB
      have OW := Lib.hid (show OwnU B V2 (.slice (some ⟨V1.heap.size, 0, none⟩) 1 1) [u] from ownU_box u hV2 (by have := B2.out.lt; omega))
      have B3 := Lib.hid (B2.out.low L23.out)
      have S4 := Lib.hid (S3.out.low L23.out)
      have L4 := Lib.hid (show Lw z.ma w V2 from Lw.of_low (L3.out.trans L23.out) HMM.out)
      have HBS := Lib.hid (show B ≤ V2.heap.size by have := B3.out.lt; omega)
      have HKS := Lib.hid HAB.out.1
      obtain ⟨b0, b1⟩ := B2.out.at2
      clear hV2 hB
      go_upto_region 4 with fail
      rw [← HV2.out]
      clear HV2 b0 b1 B2 S3 L3 G1 B1 S2 B0 S0 S1
      obtain ⟨N, hN⟩ : ∃ N, N = (ensOf qs).length := ⟨_, rfl⟩
      have HN := Lib.hid hN
      have hN3 : N ≤ 300 := by rw [hN]; exact HG.out.len
      clear hN
      go_loopg [5] (2 * N + 1) (fun gk vs wr => ∃ (vr : Value) (Q R : List Us) (kz : List (Us × Us)), vr = vs ∧ Q.length ≤ N ∧ 2 * (N - Q.length) + R.length ≤ gk ∧ R.length ≤ Q.length + 1 ∧ Hid (Clo (ensOf qs) u Q R) ∧ Hid kz.Nodup ∧ Hid (∀ a b, (a, b) ∈ kz ↔ (a, b) ∈ ks ∨ (a = u ∧ b ∈ Q)) ∧ Hid (StAt wr z qs kz) ∧ Hid (Lw z.ma w wr) ∧ Hid (OwnU B wr vr R) ∧ Hid (BoxAt wr w.heap.size [.string u.t, .string u.i]) ∧ B ≤ wr.heap.size)
      case atStart => exact ⟨_, [], [u], ks, rfl, Nat.zero_le _, by simp, Nat.le_refl _, Lib.hid (Clo.start _ _), HKS, Lib.hid fun a b => by simp, S4, L4, OW, B3, HBS.out⟩
      case round =>
        clear S4 L4 OW B3 HBS HKS
        obtain ⟨vr, Q, R, kz, rfl, hQ, hgk, hRQ, CL, KN, KK, SS, LL, OO, BB, hsz⟩ := hrel
        rcases List.eq_nil_or_concat R with rfl | ⟨R0, m, rfl⟩
        · obtain ⟨ao3, cp3, rfl, hc1, hc2, -⟩ := OO.out.shape
          go_wp2_with fail
          refine bodyPost_ret (v := .tuple #[]) (by simp [results, Tryz.results28]) rfl ?_
          exact ⟨rfl, ⟨kz, HAB.out.climbed KN.out HNO.out KK.out CL.out, SS.out⟩, LL.out⟩
        · obtain ⟨ao3, cp3, rfl, hc1, hc2, hx3⟩ := OO.out.shape
          have hl3 : (R0.concat m).length = R0.length + 1 := by simp
          rw [hl3] at hc1 OO hgk hRQ ⊢
          rcases hx3 with h0 | ⟨g3, rfl, hg3, hg4⟩
          · simp at h0
          have d0 := OO.out.cell encU_len R0.length 0 (by omega) (by omega)
          have d1 := OO.out.cell encU_len R0.length 1 (by omega) (by omega)
          have hgx : (R0.concat m)[R0.length]'(by omega) = m := by simp
          rw [hgx] at d0 d1
          replace d0 : wr.cell? ⟨g3, R0.length * 2, none⟩ = some (.string m.t) := d0
          replace d1 : wr.cell? ⟨g3, R0.length * 2 + 1, none⟩ = some (.string m.i) := d1
          have hq1 : IntKind.i64.wrap ((R0.length : Int) + 1 - 1) = (R0.length : Int) := by rw [IntKind.wrap_i64]; omega
          have HO := Lib.hid (show OwnU B wr (.slice (some ⟨g3, 0, none⟩) R0.length cp3) R0 from ownU_pop OO.out)
          have HCL := Lib.hid (show CloIn (ensOf qs) u Q R0 m 0 from Clo.take (show Clo (ensOf qs) u Q (R0 ++ [m]) by rw [← List.concat_eq_append]; exact CL.out))
          clear OO hgx hl3 CL
          obtain ⟨W1, hW1⟩ : ∃ W, W = wr.alloc (.cells #[.string m.t, .string m.i] 24) := ⟨_, rfl⟩
          have HW1 := Lib.hid hW1
          have LW := Lib.hid (show Low wr W1 by rw [hW1]; exact Low.alloc (Low.refl wr) _)
          have BM := Lib.hid (show BoxAt W1 wr.heap.size [.string m.t, .string m.i] from BoxAt.made hW1 rfl rfl)
          have SW := Lib.hid (SS.out.low LW.out)
          have SWD := Lib.hid (show StAt W1.drew z qs kz from SW.out.low (Gr.refl W1).drew.low)
          have LWD := Lib.hid (show Low wr W1.drew from LW.out.trans (Gr.refl W1).drew.low)
          clear hW1
          go_upto_region 6 with fail
          rw [← HW1.out]
          clear HW1 d0 d1
          obtain ⟨em, hem⟩ : ∃ x, (fstQ qs m).getD eeNo = x := ⟨_, rfl⟩
          have hlk := look_en SWD.out m
          rw [hem] at hlk
          have HPM := Lib.hid (show em.e.ps = PE (ensOf qs) m by rw [← hem]; exact fstQ_ps qs m)
          have HOM := Lib.hid (show ∀ W ky, StAt W z qs ky → UsAt W (.slice em.ap em.e.ps.length em.cp) em.e.ps from fun W ky h => by rw [← hem]; exact (fstQ_ok h.ok m).1.any)
          have c1 := SW.out.c1
          obtain ⟨m0, m1⟩ := BM.out.at2
          have hfl := fun W => field_ps em W
          unfold Ee.val at hlk
          clear hem
          go_upto_region 7 with fail
          go_region
          clear hlk hfl c1 m0 m1
          obtain ⟨W2, hW2⟩ : ∃ W, W = W1.drew := ⟨_, rfl⟩
          rw [← hW2] at SWD LWD ⊢
          have L2 := Lib.hid (show Lw z.ma w W2 from LL.out.trans (Lw.of_low LWD.out SS.out.isMap))
          have O2 := Lib.hid (OwnR.low HO.out LWD.out)
          have B2 := Lib.hid (BB.out.low LWD.out)
          have hsz2 : B ≤ W2.heap.size := Nat.le_trans hsz LWD.out.size
          obtain ⟨ps, hps⟩ : ∃ ps, ps = em.e.ps := ⟨_, rfl⟩
          obtain ⟨ap, hap⟩ : ∃ a, a = em.ap := ⟨_, rfl⟩
          obtain ⟨cp, hcp⟩ : ∃ a, a = em.cp := ⟨_, rfl⟩
          rw [← hps] at HPM
          rw [← hps, ← hap, ← hcp] at HOM ⊢
          clear hps hap hcp hW2 SW LW BM SS LL HO BB
          go_wp2_with fail
          go_loopg [5, 51] ps.length (fun gj vs vj wi => ∃ (vr : Value) (j : Nat) (Q' R' : List Us) (ky : List (Us × Us)), vr = vs ∧ vj = .int .i64 (j : Int) ∧ j ≤ ps.length ∧ ps.length - j ≤ gj ∧ Q'.length ≤ N ∧ 2 * (N - Q'.length) + R'.length + 1 ≤ gk ∧ R'.length ≤ Q'.length + 1 ∧ Hid (CloIn (ensOf qs) u Q' R' m j) ∧ Hid ky.Nodup ∧ Hid (∀ a b, (a, b) ∈ ky ↔ (a, b) ∈ ks ∨ (a = u ∧ b ∈ Q')) ∧ Hid (StAt wi z qs ky) ∧ Hid (Lw z.ma w wi) ∧ Hid (OwnU B wi vr R') ∧ Hid (BoxAt wi w.heap.size [.string u.t, .string u.i]) ∧ B ≤ wi.heap.size)
          case atStart => exact ⟨_, 0, Q, R0, kz, rfl, rfl, Nat.zero_le _, Nat.le_refl _, hQ, by omega, by omega, HCL, KN, KK, SWD, L2, O2, B2, hsz2⟩
          case round =>
            clear HCL KN KK SWD L2 O2 B2 hsz2 LWD
            obtain ⟨vr, j, Q', R', ky, rfl, rfl, hj, hgj, hQ', hgk', hRQ', CI, KN, KK, SI, LI, OI, BI, hszi⟩ := hrel
            by_cases hlt : j < ps.length
            · have zl : (j : Int) < (ps.length : Int) := by omega
              obtain ⟨ap', cp', hpv, ⟨hp1, hp2⟩, hp3⟩ := HOM.out wr ky SI.out
              simp only [Value.slice.injEq, true_and] at hpv
              obtain ⟨rfl, rfl⟩ := hpv
              obtain ⟨pb, po, rfl, hcs⟩ := hp3 j hlt
              obtain ⟨e0, e1⟩ := cells2 hcs
              obtain ⟨p, hp⟩ : ∃ p, p = ps[j] := ⟨_, rfl⟩
              rw [← hp] at e0 e1
              have hjm : j < (PE (ensOf qs) m).length := by rw [← HPM.out]; exact hlt
              have HPJ := Lib.hid (show (PE (ensOf qs) m)[j] = p by rw [hp]; simp only [HPM.out])
              obtain ⟨W3, hW3⟩ : ∃ W, W = wr.alloc (.cells #[.string p.t, .string p.i] 24) := ⟨_, rfl⟩
              have HW3 := Lib.hid hW3
              have L3 := Lib.hid (show Low wr W3 by rw [hW3]; exact Low.alloc (Low.refl wr) _)
              have BP := Lib.hid (show BoxAt W3 wr.heap.size [.string p.t, .string p.i] from BoxAt.made hW3 rfl rfl)
              have BU := Lib.hid (BI.out.low L3.out)
              have S3 := Lib.hid (SI.out.low L3.out)
              obtain ⟨t, ht⟩ : ∃ t, t = decide ((u, p) ∈ ky) := ⟨_, rfl⟩
              have hcon := leads_c W3 z qs ky S3.out u p
              rw [← ht] at hcon
              have HC := Lib.hid hcon
              have HTQ := Lib.hid (show t = true ↔ p ∈ Q' by
                rw [ht, decide_eq_true_eq, KK.out]
                exact ⟨fun h => h.elim (fun h => absurd h (HNO.out p)) (fun h => h.2), fun h => .inr ⟨rfl, h⟩⟩)
              clear hcon ht hp hcs hp3 hW3
              go_upto_region 10 with fail
              rw [← HW3.out]
              clear HW3 e0 e1
              obtain ⟨b0, b1⟩ := BU.out.at2
              obtain ⟨p0, p1⟩ := BP.out.at2
              go_wp2_with fail
              refine HC.out.mono ?_
              rintro e w4 ⟨rfl, g4⟩
              have L4 := Lib.hid (L3.out.trans g4.low)
              have BP4 := Lib.hid (BP.out.low g4.low)
              have BU4 := Lib.hid (BU.out.low g4.low)
              have S4 := Lib.hid (S3.out.low g4.low)
              have LL4 := Lib.hid (LI.out.trans (Lw.of_low L4.out SI.out.isMap))
              have O4 := Lib.hid (OwnR.low OI.out L4.out)
              have hsz4 : B ≤ w4.heap.size := Nat.le_trans hszi L4.out.size
              clear g4 HC b0 b1 p0 p1 S3 BP BU L3 OI BI LI SI
              cases t with
              | true =>
                have HM := Lib.hid (show p ∈ Q' from HTQ.out.1 rfl)
                go_wp2_with fail
                go_roundg (ps.length - (j + 1))
                case measure => omega
                case rel => exact ⟨_, j + 1, Q', R', ky, rfl, by go_num, by omega, by omega, hQ', hgk', hRQ', Lib.hid (CI.out.old hjm (by rw [HPJ.out]; exact HM.out)), KN, KK, S4, LL4, O4, BU4, hsz4⟩
              | false =>
                have HM := Lib.hid (show p ∉ Q' from fun h => by have := HTQ.out.2 h; simp at this)
                have HNEW := Lib.hid (show CloIn (ensOf qs) u (Q' ++ [p]) (R' ++ [p]) m (j + 1) by
                  have h1 := CI.out.new HG.out.closed hjm (by rw [HPJ.out]; exact HM.out)
                  rwa [HPJ.out] at h1)
                have hQN : (Q' ++ [p]).length ≤ N := by
                  rw [HN.out, ← names_len]
                  exact len_sub _ _ HNEW.out.nd fun x hx => way_to (HNEW.out.way x hx)
                have hwp : Way (stepE (ensOf qs)) u p := HNEW.out.way p (by simp)
                have HNK := Lib.hid (show (u, p) ∉ ky from fun h => HM.out ((KK.out u p).1 h |>.elim (fun h => absurd h (HNO.out p)) fun h => h.2))
                have hfew : ky.length ≤ 90000 := pairs_few KN.out (fun q hq => by
                  rcases (KK.out q.1 q.2).1 hq with h | ⟨h1, h2⟩
                  · exact HAB.out.in q h
                  · have := CI.out.way q.2 h2
                    rw [h1]
                    exact ⟨way_from this, way_to this⟩) (by rw [names_len]; exact HG.out.len)
                have SD := Lib.hid (show StAt w4.drew z qs ky from S4.out.low (Gr.refl w4).drew.low)
                obtain ⟨n, hn, hm4⟩ := SD.out.abv
                obtain ⟨w5, hrun, hm5, ht5⟩ := hm4.store keyedUU Tryz.underlying56 (by unfold maxLen; omega) (u, p) (.agg #[])
                rw [← abF_more] at hm5
                simp only [keyUU, uuV] at hrun
                have LL5 := Lib.hid (show Lw z.ma w w5 from (LL4.out.trans (Lw.of_low (Gr.refl w4).drew.low S4.out.isMap)).turned ht5 hm5.isMap)
                have LL45 := Lib.hid (show Lw z.ma w4 w5 from (Lw.of_low (Gr.refl w4).drew.low S4.out.isMap).turned ht5 hm5.isMap)
                have HM5 := Lib.hid hm5
                have BU5 := Lib.hid (BU4.out.lw LL45.out (by have := HMA.out; omega))
                have BP5 := Lib.hid (BP4.out.lw LL45.out (by have := HMA.out; have := HB.out; omega))
                have O5 := Lib.hid (OwnR.lw O4.out LL45.out (by have := HMA.out; have := HB.out; omega))
                have hsz5 : B ≤ w5.heap.size := Nat.le_trans hsz4 LL45.out.size
                have c2 := S4.out.c2
                obtain ⟨b0, b1⟩ := BU4.out.at2
                obtain ⟨p0, p1⟩ := BP4.out.at2
                clear hm4 hm5 ht5
                go_wp2_with fail
                go_region
                clear hrun c2 b0 b1 p0 p1 BP4 BU4 S4 LL4 O4 SD
                obtain ⟨p0, p1⟩ := BP5.out.at2
                go_wp2_with (first
                  | (at_builtin; go_loud (refine appR rfl _ _ _ rfl Tryz.underlying33 u_info rfl (by decide) (by decide) encU_len encU_one B _ R' rfl (OwnR.alloc O5.out _) p ⟨w5.heap.size, 0, none⟩ 1 rfl (fun j u hj => newcell_at _ _ _ _ _ rfl hj) (by omega) (by show B ≤ (w5.alloc _).heap.size; simp; omega) ?_); intro v6 w6 O6 B6 K6 N6))
                have hal := Low.alloc (Low.refl w5) (.cells #[.string p.t, .string p.i] 24)
                have LL6 := Lib.hid (show Lw z.ma w w6 from Lw.below (LL5.out.trans (Lw.of_low hal HM5.out.isMap)) B6 (by have := HB.out; omega) (by have := HMA.out; have := HB.out; omega))
                have HM6 := Lib.hid (show MapAt keyUU w6 z.ma (n + 1) (abF (ky ++ [(u, p)])) from HM5.out.block ((B6.block _ (by have := HMA.out; have := HB.out; omega)).trans (hal.2.2.2 _ HM5.out.lt)))
                have S6 := Lib.hid (show StAt w6 z qs (ky ++ [(u, p)]) from HST.out.turned LL6.out (by rw [List.length_append, List.length_singleton]; omega) HM6.out)
                have BU6 := Lib.hid ((BU5.out.low hal).below B6 (by have := HB.out; omega))
                have O6' := Lib.hid O6
                have hsz6 : B ≤ w6.heap.size := Nat.le_trans (Nat.le_trans hsz5 hal.size) B6.size
                clear O6 B6 K6 N6 hal
                go_roundg (ps.length - (j + 1))
                case measure => omega
                case rel =>
                  have hl1 : (Q' ++ [p]).length = Q'.length + 1 := by simp
                  have hl2 : (R' ++ [p]).length = R'.length + 1 := by simp
                  refine ⟨_, j + 1, Q' ++ [p], R' ++ [p], ky ++ [(u, p)], rfl, by go_num, by omega, by omega, hQN, by omega, by omega, HNEW, Lib.hid ?_, Lib.hid fun a b => ?_, S6, LL6, O6', BU6, hsz6⟩
                  · rw [List.nodup_append]
                    exact ⟨KN.out, by simp, fun x hx y hy e => by simp at hy; rw [e, hy] at hx; exact HNK.out hx⟩
                  · rw [List.mem_append, KK.out, List.mem_append]
                    constructor
                    · rintro ((h | ⟨h1, h2⟩) | h)
                      · exact .inl h
                      · exact .inr ⟨h1, .inl h2⟩
                      · simp at h
                        exact .inr ⟨h.1, .inr (by simp [h.2])⟩
                    · rintro (h | ⟨h1, h2 | h2⟩)
                      · exact .inl (.inl h)
                      · exact .inl (.inr ⟨h1, h2⟩)
                      · simp at h2
                        exact .inr (by simp [h1, h2])
            · have zl : ¬ (j : Int) < (ps.length : Int) := by omega
              have HCD := Lib.hid (CI.out.done (by rw [← HPM.out]; omega))
              go_wp2_with fail
              go_roundg (2 * (N - Q'.length) + R'.length)
              case measure => omega
              case rel => exact ⟨_, Q', R', ky, rfl, hQ', Nat.le_refl _, hRQ', HCD, KN, KK, SI, LI, OI, BI, hszi⟩
end Go.Proofs.YtmkillbanmbafaaGreat
