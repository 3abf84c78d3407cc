/- A set as it must be. Condition: all rows are short. Entities as cells of a row of the call's own. No condition. slices.SortFunc at names and at entities, in a row of the call's own; slices.Clone at names. Condition: not too many. Of names in a row that are the same, the first of each run: what slices.Compact leaves; slices.Clone of names. Condition: not too many. Names with their items, the names rising. Condition: not too many. A record as it must be. Condition: all rows are short. A record as it must be. Condition: all rows are short. -/
import Derived.Test.YtnchohglplobeaaGreatZg06
import Derived.Test.YtnchohglplobeaaGreatClone
import Derived.Shelf.SlSortCmp.NoneTotal
import Derived.Shelf.SlicesE.Clone
import Derived.Lib.SliceRun
import Derived.BigQuiet
set_option linter.unusedVariables false
set_option linter.unusedSimpArgs false
set_option linter.unnecessarySimpa false
namespace Go.Proofs.YtnchohglplobeaaGreat
open Go.RowKit Go.Sort
theorem sortV_c (B : Nat) (v : Value) (ps : List El) (w : World) (O : OwnVv B w v ps) (E : ∀ p ∈ ps, ElOk (fun b => B ≤ b ∧ some b ≠ v.ownBlock) w p) (hn : ps.length ≤ 70000) : Calls Tryz.prog 176 #[v, ordV] w (SortP B v ps w) := by
 obtain ⟨ao, cap, rfl, h1, h2, h3⟩ := O.shape
 by_cases h0 : ps = []
 ·subst h0
  have h := AnyF.slices_SortFunc_none Tryz.sortV ao cap ordV w
  change Calls Tryz.prog 176 _ _ _ at h
  refine h.mono ?_
  rintro e w' ⟨rfl, rfl⟩
  exact ⟨rfl, [], List.Perm.refl _, by simp [Sorted], O, by simp, KeptButv.refl _ _⟩
 ·rcases h3 with h3 | ⟨g, rfl, -, -⟩
  ·exact absurd h3 h0
  ·exact sortV_some B g ps.length cap ps w O E h0 (by omega) rfl
set_option maxHeartbeats 800000 in
theorem compV_c (B : Nat) (v : Value) (ps : List El) (w : World) (O : OwnVv B w v ps) (E : ∀ p ∈ ps, ElOk (fun b => B ≤ b ∧ some b ≠ v.ownBlock) w p) (hn : ps.length ≤ 70000) : Calls Tryz.prog 177 #[v, sameV] w (CompP B v.ownBlock (dd ord (ps.map (·.v))) w) := by
 obtain ⟨ao, cap, rfl, h1, h2, h3⟩ := O.shape
 by_cases h0 : ps = []
 ·subst h0
  have HR := Lib.hid (show RowAt (fun b => B ≤ b) w (([] : List El).map (·.v)) (.slice ao 0 cap) from ⟨ao, cap, rfl, ⟨by simp, h2⟩, .inl rfl⟩)
  clear O E hn h3
  unfold sameV
  simp only [List.length_nil]
  go_enter Tryz.func177, Tryz.ntmps177
  go_wp2_with fail
  go_ret
  exact ⟨_, rfl, HR.out, KeptButv.refl _ _⟩
 ·rcases h3 with h3 | ⟨g, rfl, -, -⟩
  ·exact absurd h3 h0
  ·exact comp_some B g cap ps w O E hn
theorem KeptButv.cellAt {w w' : World} {r : Option Nat} (h : KeptButv w w' r) {b o : Nat} {v : Value} (hc : w.cell? ⟨b, o, none⟩ = some v) (hr : some b ≠ r) : w'.cell? ⟨b, o, none⟩ = some v :=
 cell_tov hc fun hb => h.2.2.2 b hb hr
theorem KeptButv.frozenAt {w w' : World} {r : Option Nat} (h : KeptButv w w' r) {b o : Nat} (hc : w.frozen? ⟨b, o, none⟩ = false) (hb : b < w.heap.size) (hr : some b ≠ r) : w'.frozen? ⟨b, o, none⟩ = false := by
 rw [World.frozen?_of_block (w := w) (w' := w') (a := ⟨b, o, none⟩) (h.2.2.2 b hb hr)]; exact hc
def Res (w : World) (r : Nat) : Prop := (r < w.heap.size ∧ CellsAtv w r 0 (hdc hd0 (.slice none 0 0) (.slice none 0 0))) ∧ ∀ o, w.frozen? ⟨r, o, none⟩ = false
theorem Res.kept {w w' : World} {r : Nat} {x : Option Nat} (h : Res w r) (k : KeptButv w w' x) (hr : some r ≠ x) : Res w' r :=
 ⟨⟨Nat.lt_of_lt_of_le h.1.1 k.2.2.1, fun j v hv => k.cellAt (h.1.2 j v hv) hr⟩, fun o => k.frozenAt (h.2 o) h.1.1 hr⟩
theorem Res.low {w w' : World} {r : Nat} (h : Res w r) (k : Low w w') : Res w' r := h.kept (KeptButv.of_low (r := none) k) (by simp)
theorem res_new (w : World) (t : TypeId) : Res (w.alloc (.cells #[.int .i64 0, .bool false, .int .i64 0, .string ⟨#[]⟩, .string ⟨#[]⟩, .string ⟨#[]⟩, .slice none 0 0, .slice none 0 0] t)) w.heap.size := by
 refine ⟨⟨by simp, fun j v hv => ?_⟩, fun o => ?_⟩
 ·rw [Nat.zero_add, World.cell?_alloc_mark]
  simpa [hdc, hd0] using hv
 ·simp [go_sem]
theorem Res.facts {w : World} {r : Nat} (h : Res w r) : (w.cell? ⟨r, 0, none⟩ = some (.int .i64 0) ∧ w.cell? ⟨r, 1, none⟩ = some (.bool false) ∧ w.cell? ⟨r, 2, none⟩ = some (.int .i64 0) ∧ w.cell? ⟨r, 3, none⟩ = some (.string ⟨#[]⟩) ∧ w.cell? ⟨r, 4, none⟩ = some (.string ⟨#[]⟩) ∧
  w.cell? ⟨r, 5, none⟩ = some (.string ⟨#[]⟩) ∧ w.cell? ⟨r, 6, none⟩ = some (.slice none 0 0) ∧ w.cell? ⟨r, 7, none⟩ = some (.slice none 0 0)) ∧
  (w.frozen? ⟨r, 0, none⟩ = false ∧ w.frozen? ⟨r, 1, none⟩ = false ∧ w.frozen? ⟨r, 2, none⟩ = false ∧ w.frozen? ⟨r, 3, none⟩ = false ∧ w.frozen? ⟨r, 4, none⟩ = false ∧ w.frozen? ⟨r, 5, none⟩ = false ∧ w.frozen? ⟨r, 6, none⟩ = false ∧ w.frozen? ⟨r, 7, none⟩ = false) := by
 have h8 := cells8 h.1.2
 simp only [Nat.zero_add] at h8
 exact ⟨h8, h.2 0, h.2 1, h.2 2, h.2 3, h.2 4, h.2 5, h.2 6, h.2 7⟩
theorem kept8 (w : World) (r : Nat) (c0 c1 c2 c3 c4 c5 c6 c7 : Value) : KeptButv w ((((((((w.setCell ⟨r, 0, none⟩ c0).setCell ⟨r, 1, none⟩ c1).setCell ⟨r, 2, none⟩ c2).setCell ⟨r, 3, none⟩ c3).setCell ⟨r, 4, none⟩ c4).setCell ⟨r, 5, none⟩ c5).setCell ⟨r, 6, none⟩ c6).setCell ⟨r, 7, none⟩ c7) (some r) :=
 (kept_setCellv _ _ _ _).trans ((kept_setCellv _ _ _ _).trans ((kept_setCellv _ _ _ _).trans ((kept_setCellv _ _ _ _).trans ((kept_setCellv _ _ _ _).trans ((kept_setCellv _ _ _ _).trans ((kept_setCellv _ _ _ _).trans (kept_setCellv _ _ _ _)))))))
theorem rep_V0 (A : Nat → Prop) (w : World) : Rep A w V0 (.slice none 0 0) (.slice none 0 0) := by
 unfold V0
 rw [Rep]
 exact ⟨⟨by decide, by decide, by decide⟩, ⟨none, 0, rfl, by simp, by simp, .inl rfl⟩, none, 0, rfl, ⟨by simp, by simp⟩, .inl rfl⟩
theorem names_nil (A : Nat → Prop) (w : World) : NamesAt A w [] (.slice none 0 0) := ⟨none, 0, rfl, by simp, by simp, .inl rfl⟩
def setC (l : List V) : Int × V := if (canL l).1 = 0 then (0, .mk { hd0 with k := 5 } (uniq ord (canL l).2) []) else ((canL l).1, V0)
set_option maxHeartbeats 2000000 in
theorem canSet_c (l : List V) (ih : ∀ x ∈ l, CanC 96 x) (hs : l.length ≤ 70000 ∧ ∀ x ∈ l, Smv x) (w : World) (it : Value) (hl : Ro w l it) :
  Calls Tryz.prog 139 #[it] w (CanPost (setC l).2 (setC l).1 w) := by
 obtain ⟨al, cl, rfl, zl, zc⟩ := ro_len hl
 have L0 := Low.alloc (Low.refl w) (.cells #[.int .i64 0, .bool false, .int .i64 0, .string ⟨#[]⟩, .string ⟨#[]⟩, .string ⟨#[]⟩, .slice none 0 0, .slice none 0 0] 27)
 have R0 := Lib.hid (res_new w 27)
 have CC := Lib.hid (canI_c l ih hs _ _ (hl.low L0))
 have HL := Lib.hid L0
 have hlen := Lib.hid hs.1
 clear ih hs hl L0
 go_enter Tryz.func139, Tryz.ntmps139
 go_wp2_with fail
 refine CC.out.mono ?_
 rintro e w1 ⟨v, rfl, L1, hok⟩
 have R1 := Lib.hid (R0.out.low L1)
 have LL := Lib.hid (HL.out.trans L1)
 by_cases h0 : (canL l).1 = 0
 ·obtain ⟨ps, hps, O, E⟩ := hok h0
  have hpl : ps.length ≤ 70000 := by
   have := congrArg List.length hps
   rw [List.length_map, canL_len h0] at this
   have := hlen.out
   omega
  have hsc : setC l = (0, .mk { hd0 with k := 5 } (uniq ord (canL l).2) []) := by unfold setC; rw [if_pos h0]
  have HSC := Lib.hid hsc
  have hvb : ∀ g, v.ownBlock = some g → w.heap.size < g := fun g hg => by
   have := (World.ownsRow.lt O g hg).1
   simp at this
   omega
  have hcn := canL_cn h0
  have CSo := Lib.hid (sortV_c _ v ps w1 O E hpl)
  have HV := Lib.hid hvb
  have HCN := Lib.hid hcn
  have HPS := Lib.hid hps
  have HPL := Lib.hid hpl
  clear hsc O E hok hvb hcn hps hpl L1
  obtain ⟨e0, he⟩ : ∃ e0, e0 = (canL l).1 := ⟨_, rfl⟩
  rw [← he] at h0 ⊢
  subst h0
  clear he
  go_wp2_with fail
  refine CSo.out.mono ?_
  rintro e w2 ⟨rfl, qs, hperm, hsorted, O2, E2, K2⟩
  have hql : qs.length ≤ 70000 := by rw [hperm.length_eq]; exact HPL.out
  have CCo := Lib.hid (compV_c _ v qs w2 O2 E2 hql)
  have hdd : dd ord (qs.map (·.v)) = uniq ord (canL l).2 := by
   have hp := hperm.map (·.v)
   rw [HPS.out] at hp
   exact dd_uniq good_cn (fun y x hy hx h => ord_zero hy hx h) hp hsorted HCN.out
  have HD := Lib.hid hdd
  have R2 := Lib.hid (R1.out.kept K2 fun e => by have := HV.out _ e.symm; omega)
  have KK2 := Lib.hid K2
  clear hperm hsorted O2 E2 K2 hql hdd
  go_wp2_with fail
  refine CCo.out.mono ?_
  rintro e w3 ⟨v3, rfl, R3, K3⟩
  rw [HD.out] at R3
  obtain ⟨ao, cap, rfl, zq, -⟩ := id R3
  have HR3 := Lib.hid R3
  have RR := Lib.hid (R2.out.kept K3 fun e => by have := HV.out _ e.symm; omega)
  have KK3 := Lib.hid K3
  obtain ⟨⟨c0, c1, c2, c3, c4, c5, c6, c7⟩, f0, f1, f2, f3, f4, f5, f6, f7⟩ := RR.out.facts
  clear R3 K3
  go_wp2_with fail
  refine bodyPost_ret (v := .tuple #[.agg #[.int .i64 5, .bool false, .int .i64 0, .string ⟨#[]⟩, .string ⟨#[]⟩, .string ⟨#[]⟩, .slice ao (uniq ord (canL l).2).length cap, .slice none 0 0], .int .i64 0]) (by simp [results, Tryz.results139, go_sem, World.cell?_setCell_same', c0, c1, c2, c3, c4, c5, c6, c7]; try rfl) rfl ?_
  have K8 := kept8 w3 w.heap.size (.int .i64 5) (.bool false) (.int .i64 0) (.string ⟨#[]⟩) (.string ⟨#[]⟩) (.string ⟨#[]⟩) (.slice ao (uniq ord (canL l).2).length cap) (.slice none 0 0)
  rw [HSC.out]
  refine ⟨ao, cap, none, 0, rfl, ?_, (((LL.out.kept KK2.out fun g hg => Nat.le_of_lt (HV.out g hg)).kept KK3.out fun g hg => Nat.le_of_lt (HV.out g hg)).kept K8 fun g hg => by simp at hg; omega)⟩
  refine rep_v.2 ⟨⟨Nat.zero_le _, Nat.zero_le _, Nat.zero_le _⟩, names_nil _ _, RowAt.to (fun b hb hlt => ⟨?_, K8.2.2.2 b hlt fun e => ?_⟩) HR3.out⟩
  ·simp at hb; omega
  ·simp at hb e; omega
 ·have hsc : setC l = ((canL l).1, V0) := by unfold setC; rw [if_neg h0]
  have HSC := Lib.hid hsc
  obtain ⟨⟨c0, c1, c2, c3, c4, c5, c6, c7⟩, f0, f1, f2, f3, f4, f5, f6, f7⟩ := R1.out.facts
  have hb : ((canL l).1 == 0) = false := by simpa using h0
  clear hok hsc L1
  go_wp2_with fail
  refine bodyPost_ret (v := .tuple #[.agg #[.int .i64 0, .bool false, .int .i64 0, .string ⟨#[]⟩, .string ⟨#[]⟩, .string ⟨#[]⟩, .slice none 0 0, .slice none 0 0], .int .i64 (canL l).1]) (by simp [results, Tryz.results139, go_sem, World.cell?_setCell_same', c0, c1, c2, c3, c4, c5, c6, c7]; try rfl) rfl ?_
  have K8 := kept8 w1 w.heap.size (.int .i64 0) (.bool false) (.int .i64 0) (.string ⟨#[]⟩) (.string ⟨#[]⟩) (.string ⟨#[]⟩) (.slice none 0 0) (.slice none 0 0)
  rw [HSC.out]
  exact ⟨none, 0, none, 0, rfl, rep_V0 _ _, LL.out.kept K8 fun g hg => by simp at hg; omega⟩
end Go.Proofs.YtnchohglplobeaaGreat
namespace Go.Proofs.YtnchohglplobeaaGreat
open Go.RowKit Go.Sort Go.Lib
def U0 : Us := ⟨⟨#[]⟩, ⟨#[]⟩, Nat.zero_le _, Nat.zero_le _⟩
def E0 : En := ⟨U0, [], V0⟩
instance : Inhabited Ee := ⟨⟨E0, none, 0, none, 0, none, 0⟩⟩
theorem EeOk.any {A : Nat → Prop} {w : World} {q : Ee} (h : EeOk A w q) : EeOk (fun _ => True) w q := h.to fun _ _ _ => ⟨trivial, rfl⟩
end Go.Proofs.YtnchohglplobeaaGreat
namespace Go.Proofs.YtnchohglplobeaaGreat
open Go.RowKit Go.Sort Go.Lib
instance : Inhabited Us := ⟨⟨⟨#[]⟩, ⟨#[]⟩, Nat.zero_le _, Nat.zero_le _⟩⟩
end Go.Proofs.YtnchohglplobeaaGreat
namespace Go.Proofs.YtnchohglplobeaaGreat
open Go.RowKit Go.Sort
def ClnP (l : List Us) (w : World) (e : Ending) (w' : World) : Prop := ∃ v, e = .returned v ∧ OwnU w.heap.size w' v l ∧ Low w w'
theorem flat_holdsv {w : World} {b o : Nat} {l : List Us} (h : ∀ j (hj : j < l.length), CellsAtv w b (o + j * 2) l[j].cs) (j : Nat) (u : Value) (hu : (l.flatMap Us.cs)[j]? = some u) : w.cell? ⟨b, o + j, none⟩ = some u := by
 have hj : j < l.length * 2 := by have := (List.getElem?_eq_some_iff.1 hu).1; rwa [flat_len encU_len] at this
 have hd : j / 2 < l.length := by omega
 have hm : j % 2 < 2 := Nat.mod_lt _ (by decide)
 have := flat_at encU_len l (j / 2) (j % 2) hd hm
 rw [show j / 2 * 2 + j % 2 = j by omega] at this
 rw [this] at hu
 have := h (j / 2) hd (j % 2) u hu
 rwa [show o + j / 2 * 2 + j % 2 = o + j by omega] at this
theorem flat_one (l : List Us) : ∀ u ∈ l.flatMap Us.cs, u.oneCell' = true := fun u hu => by
 obtain ⟨x, _, hx⟩ := List.mem_flatMap.1 hu
 exact encU_one x u hx
set_option maxRecDepth 100000 in
theorem clone_cv (l : List Us) (w : World) (v : Value) (hn : l.length ≤ 70000) (h : UsAt w v l) : Calls Tryz.prog 80 #[v] w (ClnP l w) := by
 obtain ⟨ao, c, rfl, ⟨h1, h2⟩, h3⟩ := h
 rcases Nat.eq_zero_or_pos l.length with h0 | h0
 ·obtain rfl := List.eq_nil_of_length_eq_zero h0
  clear h3
  simp only [List.length_nil]
  have q22 : ∀ (w : World) (a : Option Addr) (n c n' c' : Nat), (binOp .eql 48 (.slice a n c) (.slice none n' c')).run Tryz.prog w = .ok (.bool a.isNone) w := fun w a n c n' c' => Lib.run_eql_slice_nil w _ _ a n c n' c' Tryz.underlying48
  cases ao with
  | none =>
   go_enter Tryz.func80, Tryz.ntmps80
   go_wp2_with fail
   go_ret
   exact ⟨_, rfl, OwnR.nil _ _ _ _ _, Low.refl _⟩
  | some a =>
   go_enter Tryz.func80, Tryz.ntmps80
   go_wp2_with fail
   go_ret
   exact ⟨_, rfl, World.ownsRow_made w #[] 0 (Nat.le_refl _) (Nat.zero_le _) (by simp), (Low.alloc (Low.refl w) _)⟩
 ·obtain ⟨b, o, rfl, _⟩ := h3 0 h0
  have hx : ∀ j (hj : j < l.length), CellsAtv w b (o + j * 2) l[j].cs := fun j hj => by
   obtain ⟨b', o', e, hc⟩ := h3 j hj
   simp only [Option.some.injEq, Addr.mk.injEq] at e
   obtain ⟨rfl, rfl, -⟩ := e
   exact hc
  obtain ⟨i0, hi, hz0, hz1, hz2⟩ := info_parts u_info
  have hcon := AnyE.slices_Clone Tryz.cloneU i0 _ 2 32 hi hz0 hz1 hz2 rfl (by decide) Tryz.sizeOf23 b o l.length c (l.flatMap Us.cs) w (flat_len encU_len l) (by unfold maxLen; omega) (by omega) (fun j u hu => flat_holdsv hx j u hu) (flat_one l)
  change Calls Tryz.prog 80 _ _ _ at hcon
  refine hcon.mono ?_
  rintro e w' ⟨v', rfl, hO, -, hB⟩
  exact ⟨_, rfl, hO, Low.of_below hB⟩
end Go.Proofs.YtnchohglplobeaaGreat
namespace Go.Proofs.YtnchohglplobeaaGreat
open Go.RowKit Go.Sort Go.Lib
structure Fd where
 name : ByteArray
 p : El
def encF (f : Fd) : List Value := .string f.name :: encVv f.p
theorem encF_len (f : Fd) : (encF f).length = 9 := rfl
theorem encF_one (f : Fd) : ∀ u ∈ encF f, u.oneCell' = true := by
 intro u hu
 rcases List.mem_cons.1 hu with rfl | hu
 ·rfl
 ·exact encV_onev f.p u hu
theorem f_info : (Tryz.prog.info? 201).map (fun i => (i.zero, i.size, i.bytes)) = some (some (.agg #[.string ⟨#[]⟩, .int .i64 0, .bool false, .int .i64 0, .string ⟨#[]⟩, .string ⟨#[]⟩, .string ⟨#[]⟩, .slice none 0 0, .slice none 0 0]), 9, 136) := by kernel_rfl
instance : Inhabited Fd := ⟨⟨⟨#[]⟩, ⟨V0, none, 0, none, 0⟩⟩⟩
def cfF (x y : Fd) : Int := cmpT x.name y.name
def fldV : Value := .func (.func 195) #[] #[]
theorem fldCmp_c (x y : Fd) (w : World) : Calls Tryz.prog 195 #[.agg (encF x).toArray, .agg (encF y).toArray] w fun e w' => e = .returned (.int .i64 (cfF x y)) ∧ Gr w w' := by
 show Calls Tryz.prog 195 #[.agg #[.string x.name, .int .i64 x.p.v.h.k, .bool x.p.v.h.b, .int .i64 x.p.v.h.n, .string x.p.v.h.s, .string x.p.v.h.t, .string x.p.v.h.i, .slice x.p.ai x.p.v.l.length x.p.ci, .slice x.p.an x.p.v.ns.length x.p.cn], .agg #[.string y.name, .int .i64 y.p.v.h.k, .bool y.p.v.h.b, .int .i64 y.p.v.h.n, .string y.p.v.h.s, .string y.p.v.h.t, .string y.p.v.h.i, .slice y.p.ai y.p.v.l.length y.p.ci, .slice y.p.an y.p.v.ns.length y.p.cn]] w _
 have HC := Lib.hid fun W => sCmp_c x.name y.name W
 unfold cfF
 generalize cmpT x.name y.name = r at HC ⊢
 go_enter Tryz.func195, Tryz.ntmps195
 go_wp2_with fail
 refine (HC.out _).mono ?_
 rintro e w1 ⟨rfl, rfl⟩
 go_wp2_with fail
 go_ret
 exact ⟨rfl, Gr.alloc (Gr.alloc (Gr.refl w) _) _⟩
theorem sortF_raw (B g cap : Nat) (w : World) (l : List Fd) (hown : OwnR 201 9 encF B w (.slice (some ⟨g, 0, none⟩) l.length cap) l) (hn : l.length < 4611686018427387904) :
  Calls Tryz.prog 194 #[.slice (some ⟨g, 0, none⟩) l.length cap, fldV] w fun e w' =>
   e = .returned (.tuple #[]) ∧ ∃ d' n os, PermIn 0 l.toArray.size l.toArray d' ∧ SortedIn (ltOf cfF) 0 l.toArray.size d' ∧ w' = sortWorldK encF 9 w g 0 n d' os := by
 have hg := (World.ownsRow.lt hown g rfl).2
 have hcmp : CmpLays (α := Fd) Tryz.prog 195 #[] encF 9 cfF g 0 l.toArray.size w := fun m os dk hdk x y => fldCmp_c x y _
 have eg : ∀ args w, (callFunc 195 args).run Tryz.prog w = .ok (.enter 195 args) w := enters_of Tryz.func195 (by kernel_rfl) rfl
 have hcon := AnyQ.slices_SortFunc Tryz.sortF 9 Tryz.isAgg201 Tryz.sizeOf201 encF encF_len encF_one cfF (swo_of good_text fun a : Fd => a.name) 195 #[] g 0 cap l.toArray w eg hcmp (row_holds encF_len hown) hg (by simpa using hn)
 change Calls Tryz.prog 194 _ _ _ at hcon
 exact hcon
def SortFP (B : Nat) (v : Value) (ps : List Fd) (w : World) (e : Ending) (w' : World) : Prop :=
 e = .returned (.tuple #[]) ∧ ∃ qs : List Fd, qs.Perm ps ∧ Sorted cmpT (qs.map (·.name)) ∧ OwnR 201 9 encF B w' v qs ∧ KeptButv w w' v.ownBlock
theorem sortF_c (B : Nat) (v : Value) (ps : List Fd) (w : World) (O : OwnR 201 9 encF B w v ps) (hn : ps.length ≤ 70000) : Calls Tryz.prog 194 #[v, fldV] w (SortFP B v ps w) := by
 obtain ⟨ao, cap, rfl, h1, h2, h3⟩ := O.shape
 by_cases h0 : ps = []
 ·subst h0
  have h := AnyF.slices_SortFunc_none Tryz.sortF ao cap fldV w
  change Calls Tryz.prog 194 _ _ _ at h
  refine h.mono ?_
  rintro e w' ⟨rfl, rfl⟩
  exact ⟨rfl, [], List.Perm.refl _, by simp [Sorted], O, KeptButv.refl _ _⟩
 ·rcases h3 with h3 | ⟨g, rfl, -, -⟩
  ·exact absurd h3 h0
  ·refine (sortF_raw B g cap w ps O (by omega)).mono ?_
   rintro e w' ⟨rfl, d', m, os, hp, hs, rfl⟩
   obtain ⟨hsz, -, hperm⟩ := hp
   have hsz' : d'.size = ps.length := by simpa using hsz
   have hperm' : d'.toList.Perm ps := by
    have : (d'.extract 0 d'.size).toList.Perm (ps.toArray.extract 0 ps.toArray.size).toList := by
     rw [show d'.size = ps.toArray.size from hsz]; exact hperm
    simpa using this
   refine ⟨rfl, d'.toList, hperm', ?_, ?_, rfl, rfl, size_sortWorldK_c encF 9 w g 0 m d' os, fun b hb hne => sort_other w g m d' os b hb fun e => hne (by rw [e]; rfl)⟩
   ·exact sorted_of (c := cmpT) (fun a : Fd => a.name) (d := d') (by rw [hsz]; exact hs)
   ·have h := row_after encF_len O m d' os hsz'
    exact h
def zipF (ns : List ByteArray) (ps : List El) : List Fd := List.zipWith Fd.mk ns ps
def FldP (ns : List ByteArray) (ps : List El) (w : World) (e : Ending) (w' : World) : Prop :=
 ∃ v fs, e = .returned v ∧ OwnR 201 9 encF w.heap.size w' v fs ∧ fs.Perm (zipF ns ps) ∧ Sorted cmpT (fs.map (·.name)) ∧ Low w w'
set_option maxHeartbeats 2000000 in
theorem rising_c (ns : List ByteArray) (ps : List El) (B : Nat) (w : World) (nm v : Value) (hn : Na w ns nm) (hl : ns.length = ps.length) (hs : ns.length ≤ 70000) (O : OwnVv B w v ps) :
  Calls Tryz.prog 178 #[nm, v] w (FldP ns ps w) := by
 obtain ⟨an, cn, rfl, zn, -⟩ := id hn
 obtain ⟨ao, cap, rfl, zl, zc, -⟩ := O.shape
 have HN := Lib.hid hn
 have HO := Lib.hid O
 have hl1 : ns.length ≤ ps.length := by omega
 have hl2 : ps.length ≤ ns.length := by omega
 clear hn O hl
 go_enter Tryz.func178, Tryz.ntmps178
 go_wp2_with fail
 go_loopg [5, 10] ns.length (fun gk vs vi wr => ∃ (x : Value) (i : Nat) (fs : List Fd), x = vs ∧ vi = .int .i64 (i : Int) ∧ i ≤ ns.length ∧ ns.length - i ≤ gk ∧ Hid (Low w wr) ∧ Hid (fs = (zipF ns ps).take i) ∧ Hid (OwnR 201 9 encF w.heap.size wr x fs))
 case atStart => exact ⟨_, 0, [], rfl, rfl, Nat.zero_le _, Nat.le_refl _, Lib.hid (Low.refl _), Lib.hid (by simp), Lib.hid (OwnR.nil _ _ _ _ _)⟩
 case round =>
  obtain ⟨x, i, fs, rfl, rfl, hi, hg, G, K, X⟩ := hrel
  have hzl : (zipF ns ps).length = ns.length := by unfold zipF; rw [List.length_zipWith]; omega
  have hpl : fs.length = i := by rw [K.out, List.length_take]; omega
  by_cases hlt : i < ns.length
  ·have z1 : (i : Int) < (ns.length : Int) := by omega
   have hlp : i < ps.length := by omega
   have z2 : (i : Int) < (ps.length : Int) := by omega
   obtain ⟨b, o, rfl, hc, -⟩ := na_at (HN.out.low G.out) hlt
   obtain ⟨_, _, hsh, _, _, hor⟩ := OwnR.shape (HO.out.low G.out)
   simp only [Value.slice.injEq] at hsh
   obtain ⟨rfl, -, rfl⟩ := hsh
   rcases hor with h0 | ⟨g, rfl, -, -⟩
   ·rw [h0] at hlp; simp at hlp
   have hcs := ownV_cells (show OwnVv B wr (.slice (some ⟨g, 0, none⟩) ps.length cap) ps from HO.out.low G.out) hlp
   obtain ⟨e0, e1, e2, e3, e4, e5, e6, e7⟩ := cells8 hcs
   have hst : (zipF ns ps).take (i + 1) = fs ++ [⟨ns[i], ps[i]⟩] := by
    rw [take_snoc (by omega), ← K.out]
    unfold zipF
    rw [List.getElem_zipWith]
   have HS := Lib.hid hst
   have hsz : w.heap.size ≤ wr.heap.size := G.out.size
   clear hcs hst
   go_wp2_with (first
    | (at_builtin; refine appR rfl _ _ _ rfl Tryz.underlying198 f_info rfl (by decide) (by decide) encF_len encF_one w.heap.size x fs rfl (X.out.alloc _) ⟨ns[i], ps[i]⟩ ⟨wr.heap.size, 0, none⟩ 1 rfl (fun j u hj => newcell_at _ _ _ _ _ rfl hj) (by omega) (by simp; omega) ?_; intro v2 w2 h2 b2 k2 n2))
   have W1 := Lib.hid ((G.out.alloc (.cells #[.string ns[i], .int .i64 ps[i].v.h.k, .bool ps[i].v.h.b, .int .i64 ps[i].v.h.n, .string ps[i].v.h.s, .string ps[i].v.h.t, .string ps[i].v.h.i, .slice ps[i].ai ps[i].v.l.length ps[i].ci, .slice ps[i].an ps[i].v.ns.length ps[i].cn] 201)).trans_below b2 (Nat.le_refl _))
   have H2 := Lib.hid h2
   clear h2 b2 k2 n2
   go_wp2_with fail
   go_roundg (ns.length - (i + 1))
   case measure => omega
   case rel => exact ⟨v2, i + 1, _, rfl, by go_num, by omega, by omega, W1, Lib.hid HS.out.symm, H2⟩
  ·have z1 : ¬ (i : Int) < (ns.length : Int) := by omega
   have hf : fs = zipF ns ps := by rw [K.out, List.take_of_length_le (by omega)]
   have HF := Lib.hid hf
   have CSo := Lib.hid (sortF_c w.heap.size x fs wr X.out (by omega))
   have hx := fun g (h : x.ownBlock = some g) => (World.ownsRow.lt X.out g h).1
   have HX := Lib.hid hx
   clear hf hx
   go_wp2_with fail
   refine CSo.out.mono ?_
   rintro e w2 ⟨rfl, qs, hperm, hsorted, O2, K2⟩
   have P1 := Lib.hid hperm
   have P2 := Lib.hid hsorted
   have P3 := Lib.hid O2
   have P4 := Lib.hid K2
   clear hperm hsorted O2 K2
   go_wp2_with fail
   go_ret
   exact ⟨_, qs, rfl, P3.out, by rw [← HF.out]; exact P1.out, P2.out, G.out.kept P4.out HX.out⟩
end Go.Proofs.YtnchohglplobeaaGreat
namespace Go.Proofs.YtnchohglplobeaaGreat
open Go.RowKit Go.Sort
def recS (ns : List ByteArray) (l : List V) : Int × V := if ns.length = l.length then (if (canL l).1 = 0 then recC ns (canL l).2 else ((canL l).1, V0)) else (1, V0)
theorem zipF_names {ns : List ByteArray} {ps : List El} (h : ns.length = ps.length) : (zipF ns ps).map (·.name) = ns := by
 unfold zipF
 rw [List.map_zipWith]
 apply List.ext_getElem
 ·simp; omega
 ·intro i h1 h2; simp
theorem zipF_pairs {ns : List ByteArray} {ps : List El} : (zipF ns ps).map (fun f => (f.name, f.p.v)) = ns.zip (ps.map (·.v)) := by
 unfold zipF
 rw [List.map_zipWith]
 apply List.ext_getElem
 ·simp
 ·intro i h1 h2; simp
theorem rises_nodup {l : List ByteArray} (h : Rises cmpT l) : l.Nodup :=
 List.Pairwise.imp (fun {a b} (hab : cmpT a b < 0) e => by subst e; rw [good_text.refl trivial] at hab; omega) h
theorem recC_ok {ns : List ByteArray} {ps : List El} {fs : List Fd} (hl : ns.length = ps.length) (hp : fs.Perm (zipF ns ps)) (hr : Rises cmpT (fs.map (·.name))) :
  recC ns (ps.map (·.v)) = (0, .mk { hd0 with k := 6 } (fs.map fun f => f.p.v) (fs.map (·.name))) := by
 have hn : ns.Nodup := by
  have h1 := hp.map (·.name)
  rw [zipF_names hl] at h1
  exact (h1.nodup_iff).1 (rises_nodup hr)
 have hL : (fs.map fun f => (f.name, f.p.v)).Perm (ns.zip (ps.map (·.v))) := by
  have h1 := hp.map fun f => (f.name, f.p.v)
  rwa [zipF_pairs] at h1
 have hR : Rises cmpP (fs.map fun f => (f.name, f.p.v)) := by
  unfold Rises at hr ⊢
  rw [List.pairwise_map] at hr ⊢
  exact hr
 have hE : ∀ y x : ByteArray × V, y ∈ ns.zip (ps.map (·.v)) → x ∈ ns.zip (ps.map (·.v)) → cmpP y x = 0 → y = x := by
  intro y x hy hx h
  rw [← hL.mem_iff] at hy hx
  obtain ⟨i, hi, rfl⟩ := List.getElem_of_mem hy
  obtain ⟨j, hj, rfl⟩ := List.getElem_of_mem hx
  rcases Nat.lt_trichotomy i j with hij | hij | hij
  ·have := List.pairwise_iff_getElem.1 hR i j hi hj hij
   omega
  ·subst hij; rfl
  ·have h1 := List.pairwise_iff_getElem.1 hR j i hj hi hij
   have h2 := good_pair.anti ((fs.map fun f => (f.name, f.p.v))[i]) ((fs.map fun f => (f.name, f.p.v))[j]) trivial trivial
   omega
 have g : Good cmpP fun z => z ∈ ns.zip (ps.map (·.v)) := good_pair.mono fun _ _ => trivial
 have hu : uniq cmpP (ns.zip (ps.map (·.v))) = fs.map fun f => (f.name, f.p.v) :=
  rises_unique g (fun x hx => (mem_uniq g hE (fun _ h => h)).1 hx) (fun x hx => hL.mem_iff.1 hx) (uniq_rises g hE fun _ h => h) hR fun z => by rw [mem_uniq g hE fun _ h => h, hL.mem_iff]
 unfold recC
 rw [if_pos hn, hu, List.map_map, List.map_map]
 rfl
theorem recC_twice {ns : List ByteArray} {ps : List El} {fs : List Fd} {m : List V} (hl : ns.length = ps.length) (hp : fs.Perm (zipF ns ps)) {i : Nat} (hi : i + 1 < fs.length) (he : fs[i + 1].name = fs[i].name) : recC ns m = (13, V0) := by
 have hn : ¬ ns.Nodup := fun h => by
  have h1 := hp.map (·.name)
  rw [zipF_names hl] at h1
  have h2 := (h1.nodup_iff).2 h
  have h3 := List.pairwise_iff_getElem.1 h2 i (i + 1) (by simp; omega) (by simpa using hi) (by omega)
  simp at h3
  exact h3 he.symm
 unfold recC
 rw [if_neg hn]
def encN (s : ByteArray) : List Value := [.string s]
theorem encN_len (s : ByteArray) : (encN s).length = 1 := rfl
theorem encN_one (s : ByteArray) : ∀ u ∈ encN s, u.oneCell' = true := by
 intro u hu
 simp [encN] at hu
 subst hu
 rfl
theorem n_info : (Tryz.prog.info? 9).map (fun i => (i.zero, i.size, i.bytes)) = some (some (.string ⟨#[]⟩), 1, 16) := by kernel_rfl
def RecAt (w : World) (r : Nat) (a b : Value) : Prop := (r < w.heap.size ∧ CellsAtv w r 0 (hdc { hd0 with k := 6 } a b)) ∧ ∀ o, w.frozen? ⟨r, o, none⟩ = false
theorem RecAt.kept {w w' : World} {r : Nat} {a b : Value} {x : Option Nat} (h : RecAt w r a b) (k : KeptButv w w' x) (hr : some r ≠ x) : RecAt w' r a b :=
 ⟨⟨Nat.lt_of_lt_of_le h.1.1 k.2.2.1, fun j v hv => k.cellAt (h.1.2 j v hv) hr⟩, fun o => k.frozenAt (h.2 o) h.1.1 hr⟩
theorem RecAt.low {w w' : World} {r : Nat} {a b : Value} (h : RecAt w r a b) (k : Low w w') : RecAt w' r a b := h.kept (KeptButv.of_low (r := none) k) (by simp)
theorem rec_new (w : World) (t : TypeId) : RecAt (w.alloc (.cells #[.int .i64 6, .bool false, .int .i64 0, .string ⟨#[]⟩, .string ⟨#[]⟩, .string ⟨#[]⟩, .slice none 0 0, .slice none 0 0] t)) w.heap.size (.slice none 0 0) (.slice none 0 0) := by
 refine ⟨⟨by simp, fun j v hv => ?_⟩, fun o => ?_⟩
 ·rw [Nat.zero_add, World.cell?_alloc_mark]
  simpa [hdc, hd0] using hv
 ·simp [go_sem]
theorem RecAt.facts {w : World} {r : Nat} {a b : Value} (h : RecAt w r a b) : (w.cell? ⟨r, 0, none⟩ = some (.int .i64 6) ∧ w.cell? ⟨r, 1, none⟩ = some (.bool false) ∧ w.cell? ⟨r, 2, none⟩ = some (.int .i64 0) ∧ w.cell? ⟨r, 3, none⟩ = some (.string ⟨#[]⟩) ∧ w.cell? ⟨r, 4, none⟩ = some (.string ⟨#[]⟩) ∧
  w.cell? ⟨r, 5, none⟩ = some (.string ⟨#[]⟩) ∧ w.cell? ⟨r, 6, none⟩ = some a ∧ w.cell? ⟨r, 7, none⟩ = some b) ∧ w.frozen? ⟨r, 6, none⟩ = false ∧ w.frozen? ⟨r, 7, none⟩ = false := by
 have h8 := cells8 h.1.2
 simp only [Nat.zero_add] at h8
 exact ⟨h8, h.2 6, h.2 7⟩
theorem RecAt.names {w : World} {r : Nat} {a b : Value} (h : RecAt w r a b) (c : Value) : RecAt (w.setCell ⟨r, 7, none⟩ c) r a c := by
 refine ⟨⟨by simpa using h.1.1, fun j v hv => ?_⟩, fun o => by rw [World.frozen?_setCell]; exact h.2 o⟩
 have hj : j < 8 := by have := (List.getElem?_eq_some_iff.1 hv).1; simpa [hdc] using this
 rw [Nat.zero_add]
 by_cases h7 : j = 7
 ·subst h7
  have : v = c := by simpa [hdc] using hv.symm
  subst this
  have hb : (w.cell? ⟨r, 7, none⟩).isSome = true := by rw [h.facts.1.2.2.2.2.2.2.2]; rfl
  exact World.cell?_setCell_same' _ _ _ hb
 ·rw [World.cell?_setCell_other _ _ _ _ (by first | (simp; done) | (simp; omega))]
  have := h.1.2 j v (by
   match j, hj, h7 with
   | 0, _, _ => exact hv
   | 1, _, _ => exact hv
   | 2, _, _ => exact hv
   | 3, _, _ => exact hv
   | 4, _, _ => exact hv
   | 5, _, _ => exact hv
   | 6, _, _ => exact hv
   | 7, _, h => exact absurd rfl h)
  rwa [Nat.zero_add] at this
theorem RecAt.items {w : World} {r : Nat} {a b : Value} (h : RecAt w r a b) (c : Value) : RecAt (w.setCell ⟨r, 6, none⟩ c) r c b := by
 refine ⟨⟨by simpa using h.1.1, fun j v hv => ?_⟩, fun o => by rw [World.frozen?_setCell]; exact h.2 o⟩
 have hj : j < 8 := by have := (List.getElem?_eq_some_iff.1 hv).1; simpa [hdc] using this
 rw [Nat.zero_add]
 by_cases h7 : j = 6
 ·subst h7
  have : v = c := by simpa [hdc] using hv.symm
  subst this
  have hb : (w.cell? ⟨r, 6, none⟩).isSome = true := by rw [h.facts.1.2.2.2.2.2.2.1]; rfl
  exact World.cell?_setCell_same' _ _ _ hb
 ·rw [World.cell?_setCell_other _ _ _ _ (by first | (simp; done) | (simp; omega))]
  have := h.1.2 j v (by
   match j, hj, h7 with
   | 0, _, _ => exact hv
   | 1, _, _ => exact hv
   | 2, _, _ => exact hv
   | 3, _, _ => exact hv
   | 4, _, _ => exact hv
   | 5, _, _ => exact hv
   | 6, _, h => exact absurd rfl h
   | 7, _, _ => exact hv)
  rwa [Nat.zero_add] at this
theorem kept_of {w w' : World} {B : Nat} {r : Option Nat} (h : RowKit.Below B w w') (k : ∀ b, b < w.heap.size → some b ≠ r → w'.heap[b]? = w.heap[b]?) : KeptButv w w' r := ⟨h.os, h.output, h.size, k⟩
theorem rises_snoc {l : List ByteArray} {x y : ByteArray} (h : Rises cmpT (l ++ [y])) (hs : cmpT y x < 0) : Rises cmpT ((l ++ [y]) ++ [x]) := by
 unfold Rises at *
 rw [List.pairwise_append]
 refine ⟨h, by simp, fun a ha b hb => ?_⟩
 simp at hb
 subst hb
 rcases List.mem_append.1 ha with ha | ha
 ·have := (List.pairwise_append.1 h).2.2 a ha y (by simp)
  exact good_text.lt a y b trivial trivial trivial this hs
 ·simp at ha; subst ha; exact hs
end Go.Proofs.YtnchohglplobeaaGreat
namespace Go.Proofs.YtnchohglplobeaaGreat
open Go.RowKit Go.Sort
theorem fs_cells {B : Nat} {w : World} {g cap n : Nat} {l : List Fd} (h : OwnR 201 9 encF B w (.slice (some ⟨g, 0, none⟩) n cap) l) {j : Nat} (hj : j < l.length) :
  (w.cell? ⟨g, j * 9, none⟩ = some (.string l[j].name) ∧ w.cell? ⟨g, j * 9 + 1, none⟩ = some (.int .i64 l[j].p.v.h.k) ∧ w.cell? ⟨g, j * 9 + 2, none⟩ = some (.bool l[j].p.v.h.b) ∧ w.cell? ⟨g, j * 9 + 3, none⟩ = some (.int .i64 l[j].p.v.h.n) ∧ w.cell? ⟨g, j * 9 + 4, none⟩ = some (.string l[j].p.v.h.s) ∧
  w.cell? ⟨g, j * 9 + 5, none⟩ = some (.string l[j].p.v.h.t) ∧ w.cell? ⟨g, j * 9 + 6, none⟩ = some (.string l[j].p.v.h.i) ∧ w.cell? ⟨g, j * 9 + 7, none⟩ = some (.slice l[j].p.ai l[j].p.v.l.length l[j].p.ci) ∧ w.cell? ⟨g, j * 9 + 8, none⟩ = some (.slice l[j].p.an l[j].p.v.ns.length l[j].p.cn)) := by
 have k := fun c (hc : c < 9) => OwnR.cell encF_len h j c hj hc
 exact ⟨k 0 (by decide), k 1 (by decide), k 2 (by decide), k 3 (by decide), k 4 (by decide), k 5 (by decide), k 6 (by decide), k 7 (by decide), k 8 (by decide)⟩
def FdAt (w : World) (r : Nat) (f : Fd) : Prop := r < w.heap.size ∧ ∀ j u, (encF f)[j]? = some u → w.cell? ⟨r, j, none⟩ = some u
theorem FdAt.kept {w w' : World} {r : Nat} {f : Fd} {x : Option Nat} (h : FdAt w r f) (k : KeptButv w w' x) (hr : some r ≠ x) : FdAt w' r f :=
 ⟨Nat.lt_of_lt_of_le h.1 k.2.2.1, fun j v hv => k.cellAt (h.2 j v hv) hr⟩
theorem fd_new (w : World) (f : Fd) (t : TypeId) : FdAt (w.alloc (.cells #[.string f.name, .int .i64 f.p.v.h.k, .bool f.p.v.h.b, .int .i64 f.p.v.h.n, .string f.p.v.h.s, .string f.p.v.h.t, .string f.p.v.h.i, .slice f.p.ai f.p.v.l.length f.p.ci, .slice f.p.an f.p.v.ns.length f.p.cn] t)) w.heap.size f := by
 refine ⟨by simp, fun j v hv => ?_⟩
 rw [World.cell?_alloc_mark]
 simpa [encF, encVv, hdc, El.it, El.nm] using hv
theorem FdAt.facts {w : World} {r : Nat} {f : Fd} (h : FdAt w r f) : w.cell? ⟨r, 1, none⟩ = some (.int .i64 f.p.v.h.k) ∧ w.cell? ⟨r, 2, none⟩ = some (.bool f.p.v.h.b) ∧ w.cell? ⟨r, 3, none⟩ = some (.int .i64 f.p.v.h.n) ∧ w.cell? ⟨r, 4, none⟩ = some (.string f.p.v.h.s) ∧
  w.cell? ⟨r, 5, none⟩ = some (.string f.p.v.h.t) ∧ w.cell? ⟨r, 6, none⟩ = some (.string f.p.v.h.i) ∧ w.cell? ⟨r, 7, none⟩ = some (.slice f.p.ai f.p.v.l.length f.p.ci) ∧ w.cell? ⟨r, 8, none⟩ = some (.slice f.p.an f.p.v.ns.length f.p.cn) :=
 ⟨h.2 1 _ rfl, h.2 2 _ rfl, h.2 3 _ rfl, h.2 4 _ rfl, h.2 5 _ rfl, h.2 6 _ rfl, h.2 7 _ rfl, h.2 8 _ rfl⟩
theorem mem_zipW {f : Fd} : ∀ {ns : List ByteArray} {ps : List El}, f ∈ List.zipWith Fd.mk ns ps → ∃ a b, a ∈ ns ∧ b ∈ ps ∧ f = ⟨a, b⟩
 | [], _, h => by simp at h
 | _ :: _, [], h => by simp at h
 | n :: ns, p :: ps, h => by
  rw [List.zipWith_cons_cons] at h
  rcases List.mem_cons.1 h with rfl | h
  ·exact ⟨n, p, by simp, by simp, rfl⟩
  ·obtain ⟨a, b, h1, h2, h3⟩ := mem_zipW h
   exact ⟨a, b, by simp [h1], by simp [h2], h3⟩
theorem KeptButv.more {a b c : World} {r r' : Option Nat} (h : KeptButv a b r) (k : KeptButv b c r') (hr : ∀ g, r' = some g → a.heap.size ≤ g) : KeptButv a c r :=
 ⟨k.1.trans h.1, k.2.1.trans h.2.1, Nat.le_trans h.2.2.1 k.2.2.1, fun i hi hne => (k.2.2.2 i (Nat.lt_of_lt_of_le hi h.2.2.1) fun e => by have := hr i e.symm; omega).trans (h.2.2.2 i hi hne)⟩
structure LoopSt (W0 : World) (rb fb : Nat) (f : Fd) (W : World) (a b : Value) (xs : List El) (ys : List ByteArray) : Prop where
 rec' : RecAt W rb a b
 fd : FdAt W fb f
 its : OwnVv W0.heap.size W a xs
 nms : OwnR 9 1 encN W0.heap.size W b ys
 dj : ∀ g, a.ownBlock = some g → b.ownBlock ≠ some g
 rbl : rb < W0.heap.size
 fba : ∀ g, a.ownBlock = some g → g ≠ fb
 fbb : ∀ g, b.ownBlock = some g → g ≠ fb
 fbl : W0.heap.size ≤ fb
 kept : KeptButv W0 W (some rb)
theorem LoopSt.drewN {W0 W : World} {rb fb : Nat} {f : Fd} {a b : Value} {xs : List El} {ys : List ByteArray} (h : LoopSt W0 rb fb f W a b xs ys) (n : Nat) : LoopSt W0 rb fb f (W.drewN n) a b xs ys :=
 ⟨h.rec'.low (Low.drewN W n), h.fd.kept (KeptButv.of_low (r := none) (Low.drewN W n)) (by simp), h.its, h.nms, h.dj, h.rbl, h.fba, h.fbb, h.fbl, h.kept.trans (KeptButv.of_low (Low.drewN W n))⟩
theorem names_step {W0 W w2 : World} {rb fb : Nat} {f : Fd} {a b b2 : Value} {xs : List El} {ys ys2 : List ByteArray} (h : LoopSt W0 rb fb f W a b xs ys) {o : Obj} (h2 : OwnR 9 1 encN W0.heap.size w2 b2 ys2) (bl : RowKit.Below W0.heap.size (W.alloc o) w2)
  (k2 : ∀ x, x < (W.alloc o).heap.size → some x ≠ b.ownBlock → w2.heap[x]? = (W.alloc o).heap[x]?) (n2 : b2.ownBlock = b.ownBlock ∨ ∀ g, b2.ownBlock = some g → (W.alloc o).heap.size ≤ g) :
  RecAt w2 rb a b ∧ LoopSt W0 rb fb f (w2.setCell ⟨rb, 7, none⟩ b2) a b2 xs ys2 := by
 have LA : Low W (W.alloc o) := Low.alloc (Low.refl W) o
 have K2 := kept_of bl k2
 have sA : W.heap.size < (W.alloc o).heap.size := by simp
 have bB : ∀ g, b.ownBlock = some g → W0.heap.size ≤ g ∧ g < W.heap.size := World.ownsRow.lt h.nms
 have aB : ∀ g, a.ownBlock = some g → W0.heap.size ≤ g ∧ g < W.heap.size := World.ownsRow.lt h.its
 have b2B : ∀ g, b2.ownBlock = some g → W0.heap.size ≤ g ∧ g < w2.heap.size := World.ownsRow.lt h2
 have hrb : some rb ≠ b.ownBlock := fun e => by have := bB rb e.symm; have := h.rbl; omega
 have hfb : some fb ≠ b.ownBlock := fun e => h.fbb fb e.symm rfl
 have KS := kept_setCellv w2 rb 7 b2
 have R2 : RecAt w2 rb a b := (h.rec'.low LA).kept K2 hrb
 refine ⟨R2, R2.names b2, ?_, ?_, ?_, ?_, h.rbl, h.fba, ?_, h.fbl, ?_⟩
 ·exact (h.fd.kept (KeptButv.of_low (r := none) LA) (by simp)).kept K2 hfb |>.kept KS (by simp; have := h.rbl; have := h.fbl; omega)
 ·refine (OwnR.low (show OwnR _ _ _ _ _ _ _ from h.its) LA).to fun g hg => ?_
  have hl := aB g hg
  rw [KS.2.2.2 g (Nat.lt_of_lt_of_le (Nat.lt_trans hl.2 sA) K2.2.2.1) (by simp; have := h.rbl; omega), K2.2.2.2 g (Nat.lt_trans hl.2 sA) fun e => h.dj g hg e.symm]
 ·refine OwnR.to h2 fun g hg => KS.2.2.2 g (b2B g hg).2 (by simp; have := (b2B g hg).1; have := h.rbl; omega)
 ·intro g hg e
  rcases n2 with n | n
  ·rw [n] at e; exact h.dj g hg e
  ·have := n g e; have := (aB g hg).2; omega
 ·intro g hg e
  subst e
  rcases n2 with n | n
  ·rw [n] at hg; exact h.fbb g hg rfl
  ·have := n g hg; have := h.fd.1; omega
 ·exact ((h.kept.trans (KeptButv.of_low LA)).more K2 fun g hg => (bB g hg).1).trans KS
theorem items_step {W0 W w2 : World} {rb fb : Nat} {f : Fd} {a b a2 : Value} {xs xs2 : List El} {ys : List ByteArray} (h : LoopSt W0 rb fb f W a b xs ys) {o : Obj} (h2 : OwnVv W0.heap.size w2 a2 xs2) (bl : RowKit.Below W0.heap.size (W.alloc o) w2)
  (k2 : ∀ x, x < (W.alloc o).heap.size → some x ≠ a.ownBlock → w2.heap[x]? = (W.alloc o).heap[x]?) (n2 : a2.ownBlock = a.ownBlock ∨ ∀ g, a2.ownBlock = some g → (W.alloc o).heap.size ≤ g) :
  RecAt w2 rb a b ∧ LoopSt W0 rb fb f (w2.setCell ⟨rb, 6, none⟩ a2) a2 b xs2 ys := by
 have LA : Low W (W.alloc o) := Low.alloc (Low.refl W) o
 have K2 := kept_of bl k2
 have sA : W.heap.size < (W.alloc o).heap.size := by simp
 have bB : ∀ g, b.ownBlock = some g → W0.heap.size ≤ g ∧ g < W.heap.size := World.ownsRow.lt h.nms
 have aB : ∀ g, a.ownBlock = some g → W0.heap.size ≤ g ∧ g < W.heap.size := World.ownsRow.lt h.its
 have b2B : ∀ g, a2.ownBlock = some g → W0.heap.size ≤ g ∧ g < w2.heap.size := World.ownsRow.lt h2
 have hrb : some rb ≠ a.ownBlock := fun e => by have := aB rb e.symm; have := h.rbl; omega
 have hfb : some fb ≠ a.ownBlock := fun e => h.fba fb e.symm rfl
 have KS := kept_setCellv w2 rb 6 a2
 have R2 : RecAt w2 rb a b := (h.rec'.low LA).kept K2 hrb
 refine ⟨R2, R2.items a2, ?_, ?_, ?_, ?_, h.rbl, ?_, h.fbb, h.fbl, ?_⟩
 ·exact (h.fd.kept (KeptButv.of_low (r := none) LA) (by simp)).kept K2 hfb |>.kept KS (by simp; have := h.rbl; have := h.fbl; omega)
 ·refine OwnR.to h2 fun g hg => KS.2.2.2 g (b2B g hg).2 (by simp; have := (b2B g hg).1; have := h.rbl; omega)
 ·refine (OwnR.low h.nms LA).to fun g hg => ?_
  have hl := bB g hg
  rw [KS.2.2.2 g (Nat.lt_of_lt_of_le (Nat.lt_trans hl.2 sA) K2.2.2.1) (by simp; have := h.rbl; omega), K2.2.2.2 g (Nat.lt_trans hl.2 sA) fun e => h.dj g e.symm hg]
 ·intro g hg e
  rcases n2 with n | n
  ·rw [n] at hg; exact h.dj g hg e
  ·have := n g hg; have := (bB g e).2; omega
 ·intro g hg e
  subst e
  rcases n2 with n | n
  ·rw [n] at hg; exact h.fba g hg rfl
  ·have := n g hg; have := h.fd.1; omega
 ·exact ((h.kept.trans (KeptButv.of_low LA)).more K2 fun g hg => (aB g hg).1).trans KS
set_option maxHeartbeats 8000000 in
set_option maxRecDepth 100000 in
theorem canRec_c (ns : List ByteArray) (l : List V) (ih : ∀ x ∈ l, CanC 96 x) (hs : l.length ≤ 70000 ∧ ∀ x ∈ l, Smv x) (hns : ns.length ≤ 70000) (w : World) (nm it : Value) (hn : Na w ns nm) (hl : Ro w l it) :
  Calls Tryz.prog 140 #[nm, it] w (CanPost (recS ns l).2 (recS ns l).1 w) := by
 obtain ⟨al, cl, rfl, zl, zc⟩ := ro_len hl
 obtain ⟨an, cn, rfl, zn, hnb, hnx⟩ := id hn
 have L0 := Low.alloc (Low.refl w) (.cells #[.int .i64 0, .bool false, .int .i64 0, .string ⟨#[]⟩, .string ⟨#[]⟩, .string ⟨#[]⟩, .slice none 0 0, .slice none 0 0] 27)
 have R0 := Lib.hid (res_new w 27)
 have CC := Lib.hid (canI_c l ih hs _ _ (hl.low L0))
 have HL := Lib.hid L0
 have HN := Lib.hid hn
 have HX := Lib.hid hnx
 clear ih hl L0 hn hnx
 by_cases hlen : ns.length = l.length
 ·have hz : ((ns.length : Int) != (l.length : Int)) = false := by simp; omega
  obtain ⟨hs1, -⟩ := hs
  have HLEN := Lib.hid hlen
  clear hlen
  go_enter Tryz.func140, Tryz.ntmps140
  go_wp2_with fail
  refine CC.out.mono ?_
  rintro e w1 ⟨v, rfl, L1, hok⟩
  have R1 := Lib.hid (R0.out.low L1)
  have LL := Lib.hid (HL.out.trans L1)
  have LS := Lib.hid L1.size
  by_cases h0 : (canL l).1 = 0
  ·obtain ⟨ps, hps, O, E⟩ := hok h0
   have hpl : ns.length = ps.length := by
    have := congrArg List.length hps
    rw [List.length_map, canL_len h0] at this
    have := HLEN.out
    omega
   have hrs : recS ns l = recC ns (ps.map (·.v)) := by unfold recS; rw [if_pos HLEN.out, if_pos h0, hps]
   have HRS := Lib.hid hrs
   have E1 : ∀ p ∈ ps, ElOk (fun b => w.heap.size + 1 ≤ b ∧ b < w1.heap.size) w1 p := fun p hp => Rep.to (fun b ha hb => ⟨⟨by have := ha.1; simp at this; omega, hb⟩, rfl⟩) _ (E p hp)
   have HE := Lib.hid E1
   have HO := Lib.hid O
   have HPL := Lib.hid hpl
   have CF := Lib.hid fun W (h : Low w1 W) => rising_c ns ps _ W _ v ((HN.out.low LL.out).low h) hpl hns (O.low h)
   have CF' := CF
   clear hok O E E1 hrs hps hpl L1 CF'
   obtain ⟨e0, he⟩ : ∃ e0, e0 = (canL l).1 := ⟨_, rfl⟩
   rw [← he] at h0 ⊢
   subst h0
   clear he
   go_wp2_with fail
   refine (CF.out _ (Low.alloc (Low.refl w1) _)).mono ?_
   rintro e W0 ⟨vf, fs, rfl, OF, hperm, hsort, LF⟩
   obtain ⟨af, cf, rfl, zf, zf2, hgf⟩ := OF.shape
   have hfl : fs.length ≤ 70000 := by
    have h1 := hperm.length_eq
    unfold zipF at h1
    rw [List.length_zipWith] at h1
    omega
   have HP := Lib.hid hperm
   have HS := Lib.hid hsort
   have HF := Lib.hid OF
   have HG := Lib.hid hgf
   have RR0 := Lib.hid ((rec_new w1 27).low LF)
   have LW := Lib.hid ((LL.out.alloc (.cells #[.int .i64 6, .bool false, .int .i64 0, .string ⟨#[]⟩, .string ⟨#[]⟩, .string ⟨#[]⟩, .slice none 0 0, .slice none 0 0] 27)).trans LF)
   have RZ := Lib.hid ((R1.out.low (Low.alloc (Low.refl w1) (.cells #[.int .i64 6, .bool false, .int .i64 0, .string ⟨#[]⟩, .string ⟨#[]⟩, .string ⟨#[]⟩, .slice none 0 0, .slice none 0 0] 27))).low LF)
   have LWS := Lib.hid (show w1.heap.size + 1 ≤ W0.heap.size by have := LF.size; simpa using this)
   have hz0 : w.heap.size < w1.heap.size := by have := LS.out; simp at this; omega
   have HE0 := Lib.hid (show ∀ p ∈ ps, ElOk (fun b => w.heap.size + 1 ≤ b ∧ b < w1.heap.size) W0 p from fun p hp => Rep.low (Rep.low (HE.out p hp) (Low.alloc (Low.refl w1) (.cells #[.int .i64 6, .bool false, .int .i64 0, .string ⟨#[]⟩, .string ⟨#[]⟩, .string ⟨#[]⟩, .slice none 0 0, .slice none 0 0] 27))) LF)
   clear OF hperm hsort LF hgf
   go_wp2_with fail
   go_loopg [30] fs.length (fun gk vi wr => ∃ (i : Nat) (ai : Option Addr) (ci : Nat) (bi : Option Addr) (di : Nat), vi = .int .i64 (i : Int) ∧ i ≤ fs.length ∧ fs.length - i ≤ gk ∧ i ≤ di ∧ Hid (KeptButv W0 wr (some w1.heap.size)) ∧ Hid (RecAt wr w1.heap.size (.slice ai i ci) (.slice bi i di)) ∧
    Hid (OwnVv W0.heap.size wr (.slice ai i ci) ((fs.take i).map (·.p))) ∧ Hid (OwnR 9 1 encN W0.heap.size wr (.slice bi i di) ((fs.take i).map (·.name))) ∧ Hid (∀ g, (Value.slice ai i ci).ownBlock = some g → (Value.slice bi i di).ownBlock ≠ some g) ∧ Hid (Rises cmpT ((fs.take i).map (·.name))))
   case atStart => exact ⟨0, none, 0, none, 0, rfl, Nat.zero_le _, Nat.le_refl _, Nat.le_refl _, Lib.hid (KeptButv.refl _ _), RR0, Lib.hid (OwnR.nil _ _ _ _ _), Lib.hid (OwnR.nil _ _ _ _ _), Lib.hid (fun g h => by simp [Value.ownBlock] at h), Lib.hid (by simp [Rises])⟩
   case round =>
    obtain ⟨i, ai, ci, bi, di, rfl, hi, hg, hdi, K, RR, OI, ON, DJ, RS⟩ := hrel
    by_cases hlt : i < fs.length
    ·have z1 : (i : Int) < (fs.length : Int) := by omega
     have hrbW : w1.heap.size < W0.heap.size := by have := LWS.out; omega
     rcases HG.out with h9 | ⟨gf, rfl, hgf1, hgf2⟩
     ·rw [h9] at hlt; simp at hlt
     have hgf3 : w1.heap.size < gf := by simp at hgf1; omega
     have hF := OwnR.to HF.out (w' := wr) fun g hg => by
      simp [Value.ownBlock] at hg
      subst hg
      exact K.out.2.2.2 gf hgf2 (by simp; omega)
     obtain ⟨e0, e1, e2, e3, e4, e5, e6, e7, e8⟩ := fs_cells hF hlt
     obtain ⟨f, hf⟩ : ∃ f, f = fs[i] := ⟨_, rfl⟩
     rw [← hf] at e0 e1 e2 e3 e4 e5 e6 e7 e8
     have hst : LoopSt W0 w1.heap.size wr.heap.size f (wr.alloc (.cells #[.string f.name, .int .i64 f.p.v.h.k, .bool f.p.v.h.b, .int .i64 f.p.v.h.n, .string f.p.v.h.s, .string f.p.v.h.t, .string f.p.v.h.i, .slice f.p.ai f.p.v.l.length f.p.ci, .slice f.p.an f.p.v.ns.length f.p.cn] 201)) (.slice ai i ci) (.slice bi i di) ((fs.take i).map (·.p)) ((fs.take i).map (·.name)) := by
      have LA : Low wr (wr.alloc (.cells #[.string f.name, .int .i64 f.p.v.h.k, .bool f.p.v.h.b, .int .i64 f.p.v.h.n, .string f.p.v.h.s, .string f.p.v.h.t, .string f.p.v.h.i, .slice f.p.ai f.p.v.l.length f.p.ci, .slice f.p.an f.p.v.ns.length f.p.cn] 201)) := Low.alloc (Low.refl wr) _
      refine ⟨RR.out.low LA, fd_new wr f _, OwnR.low (show OwnR _ _ _ _ _ _ _ from OI.out) LA, OwnR.low ON.out LA, DJ.out, hrbW, fun g hg => ?_, fun g hg => ?_, K.out.2.2.1, K.out.trans (KeptButv.of_low LA)⟩
      ·have := (World.ownsRow.lt OI.out g hg).2; omega
      ·have := (World.ownsRow.lt ON.out g hg).2; omega
     have ST0 := Lib.hid hst
     have HFI := Lib.hid hf
     have hil : ((fs.take i).map (·.p)).length = i := by simp; omega
     have hnl : ((fs.take i).map (·.name)).length = i := by simp; omega
     have HIL := Lib.hid hil
     have HNL := Lib.hid hnl
     have hi20 : i ≤ 70000 := by omega
     have hw0 : W0.heap.size ≤ wr.heap.size := K.out.2.2.1
     clear hF hf hst hil hnl
     cases i with
     | zero =>
      go_wp2_with fail
      go_quiet (fail)
      obtain ⟨W, hW⟩ : ∃ W, W = (wr.alloc (.cells #[.string f.name, .int .i64 f.p.v.h.k, .bool f.p.v.h.b, .int .i64 f.p.v.h.n, .string f.p.v.h.s, .string f.p.v.h.t, .string f.p.v.h.i, .slice f.p.ai f.p.v.l.length f.p.ci, .slice f.p.an f.p.v.ns.length f.p.cn] 201)).drewN nq := ⟨_, rfl⟩
      rw [← hW]
      have ST1 : Hid (LoopSt W0 w1.heap.size wr.heap.size f W (.slice ai (0) ci) (.slice bi (0) di) ((fs.take (0)).map (·.p)) ((fs.take (0)).map (·.name))) := by rw [hW]; exact ST0.out.drewN nq
      clear hW
      obtain ⟨⟨u0, u1, u2, u3, u4, u5, u6, u7⟩, -, -⟩ := ST1.out.rec'.facts
      have uf := ST1.out.fd.2 0 _ rfl
      have RISE : Hid (Rises cmpT ((fs.take (0)).map (·.name) ++ [f.name])) := Lib.hid (by simp [Rises])
      have hlN := Lib.hid (show (((fs.take (0)).map (·.name)) ++ [f.name]).length = 0 + 1 by rw [List.length_append, HNL.out]; rfl)
      have hlV := Lib.hid (show (((fs.take (0)).map (·.p)) ++ [f.p]).length = 0 + 1 by rw [List.length_append, HIL.out]; rfl)
      go_wp2_with (first
       | (at_builtin; refine appR rfl _ _ _ rfl Tryz.underlying25 n_info rfl (by decide) (by decide) encN_len encN_one W0.heap.size (.slice bi (0) di) ((fs.take (0)).map (·.name)) rfl (ST1.out.nms.alloc _) f.name ⟨W.heap.size, 0, none⟩ 1 rfl (fun j u hj => newcell_at _ _ _ _ _ rfl hj) (by rw [HNL.out]; omega) (by have := ST1.out.kept.2.2.1; simp; omega) ?_; intro v2 w2 h2 b2 k2 n2; obtain ⟨ao2, cp2, hv2, q2, -⟩ := OwnR.shape h2; rw [hlN.out] at hv2 q2; subst hv2; obtain ⟨r2, ls2⟩ := names_step ST1.out h2 b2 k2 n2; obtain ⟨⟨x0, x1, x2, x3, x4, x5, x6, x7⟩, g6, g7⟩ := r2.facts; obtain ⟨⟨y0, y1, y2, y3, y4, y5, y6, y7⟩, i6, i7⟩ := ls2.rec'.facts; obtain ⟨m1, m2, m3, m4, m5, m6, m7, m8⟩ := ls2.fd.facts; have LS2 := Lib.hid ls2; clear h2 b2 k2 n2 r2 ls2)
       | (at_builtin; refine appR rfl _ _ _ rfl Tryz.underlying24 v_infov rfl (by decide) (by decide) encV_lenv encV_onev W0.heap.size (.slice ai (0) ci) ((fs.take (0)).map (·.p)) rfl (OwnR.alloc (show OwnR _ _ _ _ _ _ _ from LS2.out.its) _) f.p ⟨w2.heap.size, 0, none⟩ 1 rfl (fun j u hj => newcell_at _ _ _ _ _ rfl hj) (by rw [HIL.out]; omega) (by have := LS2.out.kept.2.2.1; simp at this ⊢; omega) ?_; intro v3 w3 h3 b3 k3 n3; obtain ⟨ao3, cp3, hv3, q3, -⟩ := OwnR.shape h3; rw [hlV.out] at hv3 q3; subst hv3; obtain ⟨r3, ls3⟩ := items_step LS2.out h3 b3 k3 n3; obtain ⟨⟨t0, t1, t2, t3, t4, t5, t6, t7⟩, l6, l7⟩ := r3.facts; have LS3 := Lib.hid ls3; clear h3 b3 k3 n3 r3 ls3))
      have hxs : (fs.take (0 + 1)).map (·.p) = (fs.take (0)).map (·.p) ++ [f.p] := by rw [take_snoc (by omega), List.map_append, ← HFI.out]; rfl
      have hys : (fs.take (0 + 1)).map (·.name) = (fs.take (0)).map (·.name) ++ [f.name] := by rw [take_snoc (by omega), List.map_append, ← HFI.out]; rfl
      have HXS := Lib.hid hxs
      have HYS := Lib.hid hys
      clear hxs hys
      go_roundg (fs.length - (0 + 1))
      case measure => omega
      case rel => exact ⟨0 + 1, ao3, cp3, ao2, cp2, by go_num, by omega, by omega, q2, Lib.hid LS3.out.kept, Lib.hid LS3.out.rec', Lib.hid (by rw [HXS.out]; exact LS3.out.its), Lib.hid (by rw [HYS.out]; exact LS3.out.nms), Lib.hid LS3.out.dj, Lib.hid (by rw [HYS.out]; exact RISE.out)⟩
     | succ j =>
      have zj : (j : Int) + 1 < (fs.length : Int) := by omega
      have zj1 : (0 : Int) < (j : Int) + 1 := by omega
      have zj2 : IntKind.i64.wrap (j : Int) = (j : Int) := by rw [IntKind.wrap_i64]; omega
      have zj3 : (j : Int) < (di : Int) := by omega
      have zj4 : (j : Int) < (j : Int) + 1 := by omega
      obtain ⟨_, _, hbs, -, -, hbo⟩ := OwnR.shape ON.out
      simp only [Value.slice.injEq] at hbs
      obtain ⟨rfl, -, rfl⟩ := hbs
      rcases hbo with hb0 | ⟨gb, rfl, hgb1, hgb2⟩
      ·exfalso
       have := congrArg List.length hb0
       rw [HNL.out] at this
       simp at this
      have hjn : j < ((fs.take (j + 1)).map (·.name)).length := by rw [HNL.out]; omega
      have hc := OwnR.cell encN_len ON.out j 0 hjn (by decide)
      have hjf : j < fs.length := by omega
      have hcn : ((fs.take (j + 1)).map (·.name))[j] = fs[j].name := by simp
      rw [hcn, Nat.mul_one, Nat.add_zero] at hc
      have hc2 : ∀ X n, ((wr.alloc X).drewN n).cell? ⟨gb, j, none⟩ = some (.string fs[j].name) := fun X n => (Gr.drewN (Gr.alloc (Gr.refl wr) X) n).cell (by rw [hc]; rfl)
      have hc3 : ∀ X, (wr.alloc X).cell? ⟨gb, j, none⟩ = some (.string fs[j].name) := fun X => (Gr.alloc (Gr.refl wr) X).cell (by rw [hc]; rfl)
      have f7 : ∀ X n, ((wr.alloc X).drewN n).cell? ⟨w1.heap.size, 7, none⟩ = some (.slice (some ⟨gb, 0, none⟩) (j + 1) di) := fun X n => (Gr.drewN (Gr.alloc (Gr.refl wr) X) n).cell RR.out.facts.1.2.2.2.2.2.2.2
      have f7b : ∀ X, (wr.alloc X).cell? ⟨w1.heap.size, 7, none⟩ = some (.slice (some ⟨gb, 0, none⟩) (j + 1) di) := fun X => (Gr.alloc (Gr.refl wr) X).cell RR.out.facts.1.2.2.2.2.2.2.2
      clear hc hcn hjn hgb1 hgb2
      by_cases hnm : f.name = fs[j].name
      ·have hq : recS ns l = (13, V0) := by
        rw [HRS.out]
        exact recC_twice HPL.out HP.out (i := j) (by omega) (by rw [← HFI.out]; exact hnm)
       have HQ := Lib.hid hq
       rw [← hnm] at hc2 hc3
       have RZ1 := Lib.hid (((RZ.out.kept K.out (by simp; omega)).low (Low.alloc (Low.refl wr) (.cells #[.string f.name, .int .i64 f.p.v.h.k, .bool f.p.v.h.b, .int .i64 f.p.v.h.n, .string f.p.v.h.s, .string f.p.v.h.t, .string f.p.v.h.i, .slice f.p.ai f.p.v.l.length f.p.ci, .slice f.p.an f.p.v.ns.length f.p.cn] 201))))
       have KW := Lib.hid (LW.out.kept K.out fun g hg => by simp at hg; omega)
       clear hq hnm
       go_wp2_with fail
       go_quiet (fail)
       obtain ⟨W, hW⟩ : ∃ W, W = (wr.alloc (.cells #[.string f.name, .int .i64 f.p.v.h.k, .bool f.p.v.h.b, .int .i64 f.p.v.h.n, .string f.p.v.h.s, .string f.p.v.h.t, .string f.p.v.h.i, .slice f.p.ai f.p.v.l.length f.p.ci, .slice f.p.an f.p.v.ns.length f.p.cn] 201)).drewN nq := ⟨_, rfl⟩
       rw [← hW]
       have RZ2 := Lib.hid (show Res W w.heap.size by rw [hW]; exact RZ1.out.low (Low.drewN _ _))
       have KW2 := Lib.hid (show Low w W by rw [hW]; exact (KW.out.alloc _).trans (Low.drewN _ _))
       clear hW e0 e1 e2 e3 e4 e5 e6 e7 e8 hc2 hc3 f7 f7b
       obtain ⟨⟨c0, c1, c2, c3, c4, c5, c6, c7⟩, f0, f1, f2, f3, f4, f5, f6, f7⟩ := RZ2.out.facts
       go_wp2_with fail
       refine bodyPost_ret (v := .tuple #[.agg #[.int .i64 0, .bool false, .int .i64 0, .string ⟨#[]⟩, .string ⟨#[]⟩, .string ⟨#[]⟩, .slice none 0 0, .slice none 0 0], .int .i64 13]) (by simp [results, Tryz.results140, go_sem, World.cell?_setCell_same', c0, c1, c2, c3, c4, c5, c6, c7]; try rfl) rfl ?_
       have K8 := kept8 W w.heap.size (.int .i64 0) (.bool false) (.int .i64 0) (.string ⟨#[]⟩) (.string ⟨#[]⟩) (.string ⟨#[]⟩) (.slice none 0 0) (.slice none 0 0)
       rw [HQ.out]
       exact ⟨none, 0, none, 0, rfl, rep_V0 _ _, KW2.out.kept K8 fun g hg => by simp at hg; omega⟩
      ·have hnt : ¬ f.name.toList = fs[j].name.toList := fun h => hnm (tl_injv.1 h)
       have hnb : (f.name.toList == fs[j].name.toList) = false := by simpa using hnt
       have hlt2 : cmpT fs[j].name f.name < 0 := by
        have hs1 := List.pairwise_iff_getElem.1 HS.out j (j + 1) (by simp; omega) (by simp; omega) (by omega)
        simp only [List.getElem_map, ← HFI.out] at hs1
        have h1 := good_text.anti f.name fs[j].name trivial trivial
        have h2 : cmpT f.name fs[j].name ≠ 0 := fun h => hnm (cmpT_zero h)
        omega
       have RISE : Hid (Rises cmpT ((fs.take (j + 1)).map (·.name) ++ [f.name])) := by
        have h1 := RS.out
        rw [take_snoc hjf, List.map_append, List.map_singleton] at h1
        show Rises _ _
        rw [take_snoc hjf, List.map_append, List.map_singleton]
        exact rises_snoc h1 hlt2
       have HNM := Lib.hid hnm
       clear hlt2 hnm
       go_wp2_with fail
       go_quiet (fail)
       obtain ⟨W, hW⟩ : ∃ W, W = (wr.alloc (.cells #[.string f.name, .int .i64 f.p.v.h.k, .bool f.p.v.h.b, .int .i64 f.p.v.h.n, .string f.p.v.h.s, .string f.p.v.h.t, .string f.p.v.h.i, .slice f.p.ai f.p.v.l.length f.p.ci, .slice f.p.an f.p.v.ns.length f.p.cn] 201)).drewN nq := ⟨_, rfl⟩
       rw [← hW]
       have ST1 : Hid (LoopSt W0 w1.heap.size wr.heap.size f W (.slice ai (j + 1) ci) (.slice (some ⟨gb, 0, none⟩) (j + 1) di) ((fs.take (j + 1)).map (·.p)) ((fs.take (j + 1)).map (·.name))) := by rw [hW]; exact ST0.out.drewN nq
       clear hW hc2 hc3 f7 f7b
       obtain ⟨⟨u0, u1, u2, u3, u4, u5, u6, u7⟩, -, -⟩ := ST1.out.rec'.facts
       have uf := ST1.out.fd.2 0 _ rfl
       have hlN := Lib.hid (show (((fs.take (j + 1)).map (·.name)) ++ [f.name]).length = j + 1 + 1 by rw [List.length_append, HNL.out]; rfl)
       have hlV := Lib.hid (show (((fs.take (j + 1)).map (·.p)) ++ [f.p]).length = j + 1 + 1 by rw [List.length_append, HIL.out]; rfl)
       go_wp2_with (first
        | (at_builtin; refine appR rfl _ _ _ rfl Tryz.underlying25 n_info rfl (by decide) (by decide) encN_len encN_one W0.heap.size (.slice (some ⟨gb, 0, none⟩) (j + 1) di) ((fs.take (j + 1)).map (·.name)) rfl (ST1.out.nms.alloc _) f.name ⟨W.heap.size, 0, none⟩ 1 rfl (fun j u hj => newcell_at _ _ _ _ _ rfl hj) (by rw [HNL.out]; omega) (by have := ST1.out.kept.2.2.1; simp; omega) ?_; intro v2 w2 h2 b2 k2 n2; obtain ⟨ao2, cp2, hv2, q2, -⟩ := OwnR.shape h2; rw [hlN.out] at hv2 q2; subst hv2; obtain ⟨r2, ls2⟩ := names_step ST1.out h2 b2 k2 n2; obtain ⟨⟨x0, x1, x2, x3, x4, x5, x6, x7⟩, g6, g7⟩ := r2.facts; obtain ⟨⟨y0, y1, y2, y3, y4, y5, y6, y7⟩, i6, i7⟩ := ls2.rec'.facts; obtain ⟨m1, m2, m3, m4, m5, m6, m7, m8⟩ := ls2.fd.facts; have LS2 := Lib.hid ls2; clear h2 b2 k2 n2 r2 ls2)
        | (at_builtin; refine appR rfl _ _ _ rfl Tryz.underlying24 v_infov rfl (by decide) (by decide) encV_lenv encV_onev W0.heap.size (.slice ai (j + 1) ci) ((fs.take (j + 1)).map (·.p)) rfl (OwnR.alloc (show OwnR _ _ _ _ _ _ _ from LS2.out.its) _) f.p ⟨w2.heap.size, 0, none⟩ 1 rfl (fun j u hj => newcell_at _ _ _ _ _ rfl hj) (by rw [HIL.out]; omega) (by have := LS2.out.kept.2.2.1; simp at this ⊢; omega) ?_; intro v3 w3 h3 b3 k3 n3; obtain ⟨ao3, cp3, hv3, q3, -⟩ := OwnR.shape h3; rw [hlV.out] at hv3 q3; subst hv3; obtain ⟨r3, ls3⟩ := items_step LS2.out h3 b3 k3 n3; obtain ⟨⟨t0, t1, t2, t3, t4, t5, t6, t7⟩, l6, l7⟩ := r3.facts; have LS3 := Lib.hid ls3; clear h3 b3 k3 n3 r3 ls3))
       have hxs : (fs.take (j + 1 + 1)).map (·.p) = (fs.take (j + 1)).map (·.p) ++ [f.p] := by rw [take_snoc (by omega), List.map_append, ← HFI.out]; rfl
       have hys : (fs.take (j + 1 + 1)).map (·.name) = (fs.take (j + 1)).map (·.name) ++ [f.name] := by rw [take_snoc (by omega), List.map_append, ← HFI.out]; rfl
       have HXS := Lib.hid hxs
       have HYS := Lib.hid hys
       clear hxs hys
       go_roundg (fs.length - (j + 1 + 1))
       case measure => omega
       case rel => exact ⟨j + 1 + 1, ao3, cp3, ao2, cp2, by go_num, by omega, by omega, q2, Lib.hid LS3.out.kept, Lib.hid LS3.out.rec', Lib.hid (by rw [HXS.out]; exact LS3.out.its), Lib.hid (by rw [HYS.out]; exact LS3.out.nms), Lib.hid LS3.out.dj, Lib.hid (by rw [HYS.out]; exact RISE.out)⟩
    ·have z1 : ¬ (i : Int) < (fs.length : Int) := by omega
     have hie : i = fs.length := by omega
     have htk : fs.take i = fs := List.take_of_length_le (by omega)
     have hrs2 : recS ns l = (0, .mk { hd0 with k := 6 } (fs.map fun f => f.p.v) (fs.map (·.name))) := by
      rw [HRS.out]
      exact recC_ok HPL.out HP.out (by have := RS.out; rwa [htk] at this)
     have HRS2 := Lib.hid hrs2
     have hEl : ∀ p ∈ (fs.take i).map (·.p), ElOk (fun b => w.heap.size + 1 ≤ b ∧ b < w1.heap.size) wr p := fun p hp => by
      rw [htk] at hp
      have hp2 : p ∈ ps := by
       obtain ⟨f, hf, rfl⟩ := List.mem_map.1 hp
       have := HP.out.mem_iff.1 hf
       unfold zipF at this
       obtain ⟨_, _, _, h2, rfl⟩ := mem_zipW this
       exact h2
      exact Rep.to (fun b hb hlt => ⟨hb, K.out.2.2.2 b (by have := LWS.out; omega) (by simp; omega)⟩) _ (HE0.out p hp2)
     have hrow : RowAt (fun b => w.heap.size + 1 ≤ b) wr (fs.map fun f => f.p.v) (.slice ai i ci) := by
      have h1 := ownV_row (A' := fun b => w.heap.size + 1 ≤ b) OI.out hEl (fun b hb => hb.1) (fun g hg => by have := (World.ownsRow.lt OI.out g hg).1; have := LWS.out; omega)
      rw [htk, List.map_map] at h1
      exact h1
     have hnms : NamesAt (fun b => w.heap.size + 1 ≤ b) wr (fs.map (·.name)) (.slice bi i di) := by
      have h2 := ON.out
      rw [htk] at h2
      obtain ⟨a2, c2', he2, hle2, -, ho2⟩ := OwnR.shape h2
      simp only [Value.slice.injEq] at he2
      obtain ⟨rfl, -, rfl⟩ := he2
      refine ⟨bi, di, by rw [List.length_map, hie], by rw [List.length_map]; omega, fun x hx => ?_, ?_⟩
      ·have h3 := HP.out.map (·.name)
       rw [zipF_names HPL.out] at h3
       exact hnb x (h3.mem_iff.1 hx)
      ·rcases ho2 with h0 | ⟨g2, rfl, hg2, -⟩
       ·exact .inl h0
       ·refine .inr ⟨g2, 0, rfl, by have := LWS.out; omega, fun x hx => ?_⟩
        have h4 := OwnR.cell encN_len h2 x 0 hx (by decide)
        rw [Nat.mul_one, Nat.add_zero] at h4
        rw [Nat.zero_add, h4]; rfl
     have HROW := Lib.hid hrow
     have HNMS := Lib.hid hnms
     have RZ1 := Lib.hid (RZ.out.kept K.out (by simp; omega))
     have KW := Lib.hid (LW.out.kept K.out fun g hg => by simp at hg; omega)
     obtain ⟨⟨u0, u1, u2, u3, u4, u5, u6, u7⟩, -, -⟩ := RR.out.facts
     obtain ⟨⟨c0, c1, c2, c3, c4, c5, c6, c7⟩, f0, f1, f2, f3, f4, f5, f6, f7⟩ := RZ1.out.facts
     have HIE := Lib.hid hie
     clear hEl hrow hnms hrs2 htk hie
     go_wp2_with fail
     refine bodyPost_ret (v := .tuple #[.agg #[.int .i64 6, .bool false, .int .i64 0, .string ⟨#[]⟩, .string ⟨#[]⟩, .string ⟨#[]⟩, .slice ai i ci, .slice bi i di], .int .i64 0]) (by simp [results, Tryz.results140, go_sem, World.cell?_setCell_same', c0, c1, c2, c3, c4, c5, c6, c7]; try rfl) rfl ?_
     have K8 := kept8 wr w.heap.size (.int .i64 6) (.bool false) (.int .i64 0) (.string ⟨#[]⟩) (.string ⟨#[]⟩) (.string ⟨#[]⟩) (.slice ai i ci) (.slice bi i di)
     rw [HRS2.out]
     have hl1 : (fs.map fun f => f.p.v).length = i := by rw [List.length_map]; exact HIE.out.symm
     have hl2 : (fs.map (·.name)).length = i := by rw [List.length_map]; exact HIE.out.symm
     refine ⟨ai, ci, bi, di, ?_, ?_, KW.out.kept K8 fun g hg => by simp at hg; omega⟩
     ·show _ = Ending.returned (.tuple #[.agg #[.int .i64 6, .bool false, .int .i64 0, .string ⟨#[]⟩, .string ⟨#[]⟩, .string ⟨#[]⟩, .slice ai (fs.map fun f => f.p.v).length ci, .slice bi (fs.map (·.name)).length di], .int .i64 0])
      rw [hl1, hl2]
     ·show Rep _ _ (.mk { hd0 with k := 6 } (fs.map fun f => f.p.v) (fs.map (·.name))) (.slice ai (fs.map fun f => f.p.v).length ci) (.slice bi (fs.map (·.name)).length di)
      rw [hl1, hl2]
      have hto : ∀ b, w.heap.size + 1 ≤ b → b < wr.heap.size → w.heap.size ≤ b ∧ (((((((((wr.setCell ⟨w.heap.size, 0, none⟩ (.int .i64 6)).setCell ⟨w.heap.size, 1, none⟩ (.bool false)).setCell ⟨w.heap.size, 2, none⟩ (.int .i64 0)).setCell ⟨w.heap.size, 3, none⟩ (.string ⟨#[]⟩)).setCell ⟨w.heap.size, 4, none⟩ (.string ⟨#[]⟩)).setCell ⟨w.heap.size, 5, none⟩ (.string ⟨#[]⟩)).setCell ⟨w.heap.size, 6, none⟩ (.slice ai i ci)).setCell ⟨w.heap.size, 7, none⟩ (.slice bi i di)).heap[b]? = wr.heap[b]?) := fun b hb hlt => ⟨by omega, K8.2.2.2 b hlt (by simp; omega)⟩
      refine rep_v.2 ⟨⟨Nat.zero_le _, Nat.zero_le _, Nat.zero_le _⟩, NamesAt.to hto HNMS.out, RowAt.to hto HROW.out⟩
  ·have hsc : recS ns l = ((canL l).1, V0) := by unfold recS; rw [if_pos HLEN.out, if_neg h0]
   have HSC := Lib.hid hsc
   obtain ⟨⟨c0, c1, c2, c3, c4, c5, c6, c7⟩, f0, f1, f2, f3, f4, f5, f6, f7⟩ := R1.out.facts
   have hb : ((canL l).1 == 0) = false := by simpa using h0
   clear hok hsc L1
   go_wp2_with fail
   refine bodyPost_ret (v := .tuple #[.agg #[.int .i64 0, .bool false, .int .i64 0, .string ⟨#[]⟩, .string ⟨#[]⟩, .string ⟨#[]⟩, .slice none 0 0, .slice none 0 0], .int .i64 (canL l).1]) (by simp [results, Tryz.results140, go_sem, World.cell?_setCell_same', c0, c1, c2, c3, c4, c5, c6, c7]; try rfl) rfl ?_
   have K8 := kept8 w1 w.heap.size (.int .i64 0) (.bool false) (.int .i64 0) (.string ⟨#[]⟩) (.string ⟨#[]⟩) (.string ⟨#[]⟩) (.slice none 0 0) (.slice none 0 0)
   rw [HSC.out]
   exact ⟨none, 0, none, 0, rfl, rep_V0 _ _, LL.out.kept K8 fun g hg => by simp at hg; omega⟩
 ·have hz : ¬ (ns.length : Int) = (l.length : Int) := by omega
  have HRS := Lib.hid (show recS ns l = (1, V0) by unfold recS; rw [if_neg hlen])
  obtain ⟨⟨c0, c1, c2, c3, c4, c5, c6, c7⟩, f0, f1, f2, f3, f4, f5, f6, f7⟩ := R0.out.facts
  clear CC
  go_enter Tryz.func140, Tryz.ntmps140
  go_wp2_with fail
  refine bodyPost_ret (v := .tuple #[.agg #[.int .i64 0, .bool false, .int .i64 0, .string ⟨#[]⟩, .string ⟨#[]⟩, .string ⟨#[]⟩, .slice none 0 0, .slice none 0 0], .int .i64 1]) (by simp [results, Tryz.results140, go_sem]; try rfl) rfl ?_
  rw [HRS.out]
  exact ⟨none, 0, none, 0, rfl, rep_V0 _ _, HL.out⟩
end Go.Proofs.YtnchohglplobeaaGreat
