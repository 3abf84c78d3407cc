/- Names with their items, the names rising. Condition: not too many. A record as it must be. Condition: all rows are short. -/
import Derived.Test.YtnenjgngahipdaaGreatZg18
set_option linter.unusedVariables false
set_option linter.unusedSimpArgs false
set_option linter.unnecessarySimpa false
namespace Go.Proofs.YtnenjgngahipdaaGreat
open Go.RowKit Go.Sort Go.Lib
structure Fd where
  name : ByteArray
  p : El
def encF (f : Fd) : List Value := .string f.name :: encVv f.p
theorem encF_len (f : Fd) : (encF f).length = 9 := rfl
theorem encF_one (f : Fd) : ∀ u ∈ encF f, u.oneCell' = true := by
  intro u hu
  rcases List.mem_cons.1 hu with rfl | hu
  · rfl
  · exact encV_onev f.p u hu
theorem f_info : (Tryz.prog.info? 156).map (fun i => (i.zero, i.size, i.bytes)) = some (some (.agg #[.string ⟨#[]⟩, .int .i64 0, .bool false, .int .i64 0, .string ⟨#[]⟩, .string ⟨#[]⟩, .string ⟨#[]⟩, .slice none 0 0, .slice none 0 0]), 9, 136) := by kernel_rfl
instance : Inhabited Fd := ⟨⟨⟨#[]⟩, ⟨V0, none, 0, none, 0⟩⟩⟩
def cfF (x y : Fd) : Int := cmpT x.name y.name
def fldV : Value := .func (.func 152) #[] #[]
theorem fldCmp_c (x y : Fd) (w : World) : Calls Tryz.prog 152 #[.agg (encF x).toArray, .agg (encF y).toArray] w fun e w' => e = .returned (.int .i64 (cfF x y)) ∧ Gr w w' := by
  show Calls Tryz.prog 152 #[.agg #[.string x.name, .int .i64 x.p.v.h.k, .bool x.p.v.h.b, .int .i64 x.p.v.h.n, .string x.p.v.h.s, .string x.p.v.h.t, .string x.p.v.h.i, .slice x.p.ai x.p.v.l.length x.p.ci, .slice x.p.an x.p.v.ns.length x.p.cn], .agg #[.string y.name, .int .i64 y.p.v.h.k, .bool y.p.v.h.b, .int .i64 y.p.v.h.n, .string y.p.v.h.s, .string y.p.v.h.t, .string y.p.v.h.i, .slice y.p.ai y.p.v.l.length y.p.ci, .slice y.p.an y.p.v.ns.length y.p.cn]] w _
  have HC := Lib.hid fun W => sCmp_c x.name y.name W
  unfold cfF
  generalize cmpT x.name y.name = r at HC ⊢
  go_enter Tryz.func152, Tryz.ntmps152
  go_wp2_with fail
  refine (HC.out _).mono ?_
  rintro e w1 ⟨rfl, rfl⟩
  go_wp2_with fail
  go_ret
  exact ⟨rfl, Gr.alloc (Gr.alloc (Gr.refl w) _) _⟩
theorem sortF_raw (B g cap : Nat) (w : World) (l : List Fd) (hown : OwnR 156 9 encF B w (.slice (some ⟨g, 0, none⟩) l.length cap) l) (hn : l.length < 4611686018427387904) :
    Calls Tryz.prog 151 #[.slice (some ⟨g, 0, none⟩) l.length cap, fldV] w fun e w' =>
      e = .returned (.tuple #[]) ∧ ∃ d' n os, PermIn 0 l.toArray.size l.toArray d' ∧ SortedIn (ltOf cfF) 0 l.toArray.size d' ∧ w' = sortWorldK encF 9 w g 0 n d' os := by
  have hg := (World.ownsRow.lt hown g rfl).2
  have hcmp : CmpLays (α := Fd) Tryz.prog 152 #[] encF 9 cfF g 0 l.toArray.size w := fun m os dk hdk x y => fldCmp_c x y _
  have eg : ∀ args w, (callFunc 152 args).run Tryz.prog w = .ok (.enter 152 args) w := enters_of Tryz.func152 (by kernel_rfl) rfl
  have hcon := AnyQ.slices_SortFunc Tryz.sortF 9 Tryz.isAgg156 Tryz.sizeOf156 encF encF_len encF_one cfF (swo_of good_text fun a : Fd => a.name) 152 #[] g 0 cap l.toArray w eg hcmp (row_holds encF_len hown) hg (by simpa using hn)
  change Calls Tryz.prog 151 _ _ _ at hcon
  exact hcon
/-- What SortFunc leaves of such a row. -/
def SortFP (B : Nat) (v : Value) (ps : List Fd) (w : World) (e : Ending) (w' : World) : Prop :=
  e = .returned (.tuple #[]) ∧ ∃ qs : List Fd, qs.Perm ps ∧ Sorted cmpT (qs.map (·.name)) ∧ OwnR 156 9 encF B w' v qs ∧ KeptButv w w' v.ownBlock
theorem sortF_c (B : Nat) (v : Value) (ps : List Fd) (w : World) (O : OwnR 156 9 encF B w v ps) (hn : ps.length ≤ 70000) : Calls Tryz.prog 151 #[v, fldV] w (SortFP B v ps w) := by
  obtain ⟨ao, cap, rfl, h1, h2, h3⟩ := O.shape
  by_cases h0 : ps = []
  · subst h0
    have h := AnyF.slices_SortFunc_none Tryz.sortF ao cap fldV w
    change Calls Tryz.prog 151 _ _ _ at h
    refine h.mono ?_
    rintro e w' ⟨rfl, rfl⟩
    exact ⟨rfl, [], List.Perm.refl _, by simp [Sorted], O, KeptButv.refl _ _⟩
  · rcases h3 with h3 | ⟨g, rfl, -, -⟩
    · exact absurd h3 h0
    · refine (sortF_raw B g cap w ps O (by omega)).mono ?_
      rintro e w' ⟨rfl, d', m, os, hp, hs, rfl⟩
      obtain ⟨hsz, -, hperm⟩ := hp
      have hsz' : d'.size = ps.length := by simpa using hsz
      have hperm' : d'.toList.Perm ps := by
        have : (d'.extract 0 d'.size).toList.Perm (ps.toArray.extract 0 ps.toArray.size).toList := by
          rw [show d'.size = ps.toArray.size from hsz]; exact hperm
        simpa using this
      refine ⟨rfl, d'.toList, hperm', ?_, ?_, rfl, rfl, size_sortWorldK_c encF 9 w g 0 m d' os, fun b hb hne => sort_other w g m d' os b hb fun e => hne (by rw [e]; rfl)⟩
      · exact sorted_of (c := cmpT) (fun a : Fd => a.name) (d := d') (by rw [hsz]; exact hs)
      · have h := row_after encF_len O m d' os hsz'
        exact h
def zipF (ns : List ByteArray) (ps : List El) : List Fd := List.zipWith Fd.mk ns ps
/-- What risingFields answers. -/
def FldP (ns : List ByteArray) (ps : List El) (w : World) (e : Ending) (w' : World) : Prop :=
  ∃ v fs, e = .returned v ∧ OwnR 156 9 encF w.heap.size w' v fs ∧ fs.Perm (zipF ns ps) ∧ Sorted cmpT (fs.map (·.name)) ∧ Low w w'
set_option maxHeartbeats 2000000 in
theorem rising_c (ns : List ByteArray) (ps : List El) (B : Nat) (w : World) (nm v : Value) (hn : Na w ns nm) (hl : ns.length = ps.length) (hs : ns.length ≤ 70000) (O : OwnVv B w v ps) :
    Calls Tryz.prog 124 #[nm, v] w (FldP ns ps w) := by
  obtain ⟨an, cn, rfl, zn, -⟩ := id hn
  obtain ⟨ao, cap, rfl, zl, zc, -⟩ := O.shape
  have HN := Lib.hid hn
  have HO := Lib.hid O
  have hl1 : ns.length ≤ ps.length := by omega
  have hl2 : ps.length ≤ ns.length := by omega
  clear hn O hl
  go_enter Tryz.func124, Tryz.ntmps124
  go_wp2_with fail
  go_loopg [5, 10] ns.length (fun gk vs vi wr => ∃ (x : Value) (i : Nat) (fs : List Fd), x = vs ∧ vi = .int .i64 (i : Int) ∧ i ≤ ns.length ∧ ns.length - i ≤ gk ∧ Hid (Low w wr) ∧ Hid (fs = (zipF ns ps).take i) ∧ Hid (OwnR 156 9 encF w.heap.size wr x fs))
  case atStart => exact ⟨_, 0, [], rfl, rfl, Nat.zero_le _, Nat.le_refl _, Lib.hid (Low.refl _), Lib.hid (by simp), Lib.hid (OwnR.nil _ _ _ _ _)⟩
  case round =>
    obtain ⟨x, i, fs, rfl, rfl, hi, hg, G, K, X⟩ := hrel
    have hzl : (zipF ns ps).length = ns.length := by unfold zipF; rw [List.length_zipWith]; omega
    have hpl : fs.length = i := by rw [K.out, List.length_take]; omega
    by_cases hlt : i < ns.length
    · have z1 : (i : Int) < (ns.length : Int) := by omega
      have hlp : i < ps.length := by omega
      have z2 : (i : Int) < (ps.length : Int) := by omega
      obtain ⟨b, o, rfl, hc, -⟩ := na_at (HN.out.low G.out) hlt
      obtain ⟨_, _, hsh, _, _, hor⟩ := OwnR.shape (HO.out.low G.out)
      simp only [Value.slice.injEq] at hsh
      obtain ⟨rfl, -, rfl⟩ := hsh
      rcases hor with h0 | ⟨g, rfl, -, -⟩
      · rw [h0] at hlp; simp at hlp
      have hcs := ownV_cells (show OwnVv B wr (.slice (some ⟨g, 0, none⟩) ps.length cap) ps from HO.out.low G.out) hlp
      obtain ⟨e0, e1, e2, e3, e4, e5, e6, e7⟩ := cells8 hcs
      have hst : (zipF ns ps).take (i + 1) = fs ++ [⟨ns[i], ps[i]⟩] := by
        rw [take_snoc (by omega), ← K.out]
        unfold zipF
        rw [List.getElem_zipWith]
      have HS := Lib.hid hst
      have hsz : w.heap.size ≤ wr.heap.size := G.out.size
      clear hcs hst
      go_wp2_with (first
        | (at_builtin; refine appR rfl _ _ _ rfl Tryz.underlying153 f_info rfl (by decide) (by decide) encF_len encF_one w.heap.size x fs rfl (X.out.alloc _) ⟨ns[i], ps[i]⟩ ⟨wr.heap.size, 0, none⟩ 1 rfl (fun j u hj => newcell_at _ _ _ _ _ rfl hj) (by omega) (by simp; omega) ?_; intro v2 w2 h2 b2 k2 n2))
      have W1 := Lib.hid ((G.out.alloc (.cells #[.string ns[i], .int .i64 ps[i].v.h.k, .bool ps[i].v.h.b, .int .i64 ps[i].v.h.n, .string ps[i].v.h.s, .string ps[i].v.h.t, .string ps[i].v.h.i, .slice ps[i].ai ps[i].v.l.length ps[i].ci, .slice ps[i].an ps[i].v.ns.length ps[i].cn] 156)).trans_below b2 (Nat.le_refl _))
      have H2 := Lib.hid h2
      clear h2 b2 k2 n2
      go_wp2_with fail
      go_roundg (ns.length - (i + 1))
      case measure => omega
      case rel => exact ⟨v2, i + 1, _, rfl, by go_num, by omega, by omega, W1, Lib.hid HS.out.symm, H2⟩
    · have z1 : ¬ (i : Int) < (ns.length : Int) := by omega
      have hf : fs = zipF ns ps := by rw [K.out, List.take_of_length_le (by omega)]
      have HF := Lib.hid hf
      have CSo := Lib.hid (sortF_c w.heap.size x fs wr X.out (by omega))
      have hx := fun g (h : x.ownBlock = some g) => (World.ownsRow.lt X.out g h).1
      have HX := Lib.hid hx
      clear hf hx
      go_wp2_with fail
      refine CSo.out.mono ?_
      rintro e w2 ⟨rfl, qs, hperm, hsorted, O2, K2⟩
      have P1 := Lib.hid hperm
      have P2 := Lib.hid hsorted
      have P3 := Lib.hid O2
      have P4 := Lib.hid K2
      clear hperm hsorted O2 K2
      go_wp2_with fail
      go_ret
      exact ⟨_, qs, rfl, P3.out, by rw [← HF.out]; exact P1.out, P2.out, G.out.kept P4.out HX.out⟩
end Go.Proofs.YtnenjgngahipdaaGreat
namespace Go.Proofs.YtnenjgngahipdaaGreat
open Go.RowKit Go.Sort
def recS (ns : List ByteArray) (l : List V) : Int × V := if ns.length = l.length then (if (canL l).1 = 0 then recC ns (canL l).2 else ((canL l).1, V0)) else (1, V0)
theorem zipF_names {ns : List ByteArray} {ps : List El} (h : ns.length = ps.length) : (zipF ns ps).map (·.name) = ns := by
  unfold zipF
  rw [List.map_zipWith]
  apply List.ext_getElem
  · simp; omega
  · intro i h1 h2; simp
theorem zipF_pairs {ns : List ByteArray} {ps : List El} : (zipF ns ps).map (fun f => (f.name, f.p.v)) = ns.zip (ps.map (·.v)) := by
  unfold zipF
  rw [List.map_zipWith]
  apply List.ext_getElem
  · simp
  · intro i h1 h2; simp
theorem rises_nodup {l : List ByteArray} (h : Rises cmpT l) : l.Nodup :=
  List.Pairwise.imp (fun {a b} (hab : cmpT a b < 0) e => by subst e; rw [good_text.refl trivial] at hab; omega) h
theorem recC_ok {ns : List ByteArray} {ps : List El} {fs : List Fd} (hl : ns.length = ps.length) (hp : fs.Perm (zipF ns ps)) (hr : Rises cmpT (fs.map (·.name))) :
    recC ns (ps.map (·.v)) = (0, .mk { hd0 with k := 6 } (fs.map fun f => f.p.v) (fs.map (·.name))) := by
  have hn : ns.Nodup := by
    have h1 := hp.map (·.name)
    rw [zipF_names hl] at h1
    exact (h1.nodup_iff).1 (rises_nodup hr)
  have hL : (fs.map fun f => (f.name, f.p.v)).Perm (ns.zip (ps.map (·.v))) := by
    have h1 := hp.map fun f => (f.name, f.p.v)
    rwa [zipF_pairs] at h1
  have hR : Rises cmpP (fs.map fun f => (f.name, f.p.v)) := by
    unfold Rises at hr ⊢
    rw [List.pairwise_map] at hr ⊢
    exact hr
  have hE : ∀ y x : ByteArray × V, y ∈ ns.zip (ps.map (·.v)) → x ∈ ns.zip (ps.map (·.v)) → cmpP y x = 0 → y = x := by
    intro y x hy hx h
    rw [← hL.mem_iff] at hy hx
    obtain ⟨i, hi, rfl⟩ := List.getElem_of_mem hy
    obtain ⟨j, hj, rfl⟩ := List.getElem_of_mem hx
    rcases Nat.lt_trichotomy i j with hij | hij | hij
    · have := List.pairwise_iff_getElem.1 hR i j hi hj hij
      omega
    · subst hij; rfl
    · have h1 := List.pairwise_iff_getElem.1 hR j i hj hi hij
      have h2 := good_pair.anti ((fs.map fun f => (f.name, f.p.v))[i]) ((fs.map fun f => (f.name, f.p.v))[j]) trivial trivial
      omega
  have g : Good cmpP fun z => z ∈ ns.zip (ps.map (·.v)) := good_pair.mono fun _ _ => trivial
  have hu : uniq cmpP (ns.zip (ps.map (·.v))) = fs.map fun f => (f.name, f.p.v) :=
    rises_unique g (fun x hx => (mem_uniq g hE (fun _ h => h)).1 hx) (fun x hx => hL.mem_iff.1 hx) (uniq_rises g hE fun _ h => h) hR fun z => by rw [mem_uniq g hE fun _ h => h, hL.mem_iff]
  unfold recC
  rw [if_pos hn, hu, List.map_map, List.map_map]
  rfl
theorem recC_twice {ns : List ByteArray} {ps : List El} {fs : List Fd} {m : List V} (hl : ns.length = ps.length) (hp : fs.Perm (zipF ns ps)) {i : Nat} (hi : i + 1 < fs.length) (he : fs[i + 1].name = fs[i].name) : recC ns m = (13, V0) := by
  have hn : ¬ ns.Nodup := fun h => by
    have h1 := hp.map (·.name)
    rw [zipF_names hl] at h1
    have h2 := (h1.nodup_iff).2 h
    have h3 := List.pairwise_iff_getElem.1 h2 i (i + 1) (by simp; omega) (by simpa using hi) (by omega)
    simp at h3
    exact h3 he.symm
  unfold recC
  rw [if_neg hn]
def encN (s : ByteArray) : List Value := [.string s]
theorem encN_len (s : ByteArray) : (encN s).length = 1 := rfl
theorem encN_one (s : ByteArray) : ∀ u ∈ encN s, u.oneCell' = true := by
  intro u hu
  simp [encN] at hu
  subst hu
  rfl
theorem n_info : (Tryz.prog.info? 9).map (fun i => (i.zero, i.size, i.bytes)) = some (some (.string ⟨#[]⟩), 1, 16) := by kernel_rfl
/-- A record's eight cells in a block of the call's own, free to be written. -/
def RecAt (w : World) (r : Nat) (a b : Value) : Prop := (r < w.heap.size ∧ CellsAtv w r 0 (hdc { hd0 with k := 6 } a b)) ∧ ∀ o, w.frozen? ⟨r, o, none⟩ = false
theorem RecAt.kept {w w' : World} {r : Nat} {a b : Value} {x : Option Nat} (h : RecAt w r a b) (k : KeptButv w w' x) (hr : some r ≠ x) : RecAt w' r a b :=
  ⟨⟨Nat.lt_of_lt_of_le h.1.1 k.2.2.1, fun j v hv => k.cellAt (h.1.2 j v hv) hr⟩, fun o => k.frozenAt (h.2 o) h.1.1 hr⟩
theorem RecAt.low {w w' : World} {r : Nat} {a b : Value} (h : RecAt w r a b) (k : Low w w') : RecAt w' r a b := h.kept (KeptButv.of_low (r := none) k) (by simp)
theorem rec_new (w : World) (t : TypeId) : RecAt (w.alloc (.cells #[.int .i64 6, .bool false, .int .i64 0, .string ⟨#[]⟩, .string ⟨#[]⟩, .string ⟨#[]⟩, .slice none 0 0, .slice none 0 0] t)) w.heap.size (.slice none 0 0) (.slice none 0 0) := by
  refine ⟨⟨by simp, fun j v hv => ?_⟩, fun o => ?_⟩
  · rw [Nat.zero_add, World.cell?_alloc_mark]
    simpa [hdc, hd0] using hv
  · simp [go_sem]
theorem RecAt.facts {w : World} {r : Nat} {a b : Value} (h : RecAt w r a b) : (w.cell? ⟨r, 0, none⟩ = some (.int .i64 6) ∧ w.cell? ⟨r, 1, none⟩ = some (.bool false) ∧ w.cell? ⟨r, 2, none⟩ = some (.int .i64 0) ∧ w.cell? ⟨r, 3, none⟩ = some (.string ⟨#[]⟩) ∧ w.cell? ⟨r, 4, none⟩ = some (.string ⟨#[]⟩) ∧
    w.cell? ⟨r, 5, none⟩ = some (.string ⟨#[]⟩) ∧ w.cell? ⟨r, 6, none⟩ = some a ∧ w.cell? ⟨r, 7, none⟩ = some b) ∧ w.frozen? ⟨r, 6, none⟩ = false ∧ w.frozen? ⟨r, 7, none⟩ = false := by
  have h8 := cells8 h.1.2
  simp only [Nat.zero_add] at h8
  exact ⟨h8, h.2 6, h.2 7⟩
theorem RecAt.names {w : World} {r : Nat} {a b : Value} (h : RecAt w r a b) (c : Value) : RecAt (w.setCell ⟨r, 7, none⟩ c) r a c := by
  refine ⟨⟨by simpa using h.1.1, fun j v hv => ?_⟩, fun o => by rw [World.frozen?_setCell]; exact h.2 o⟩
  have hj : j < 8 := by have := (List.getElem?_eq_some_iff.1 hv).1; simpa [hdc] using this
  rw [Nat.zero_add]
  by_cases h7 : j = 7
  · subst h7
    have : v = c := by simpa [hdc] using hv.symm
    subst this
    have hb : (w.cell? ⟨r, 7, none⟩).isSome = true := by rw [h.facts.1.2.2.2.2.2.2.2]; rfl
    exact World.cell?_setCell_same' _ _ _ hb
  · rw [World.cell?_setCell_other _ _ _ _ (by first | (simp; done) | (simp; omega))]
    have := h.1.2 j v (by
      match j, hj, h7 with
      | 0, _, _ => exact hv
      | 1, _, _ => exact hv
      | 2, _, _ => exact hv
      | 3, _, _ => exact hv
      | 4, _, _ => exact hv
      | 5, _, _ => exact hv
      | 6, _, _ => exact hv
      | 7, _, h => exact absurd rfl h)
    rwa [Nat.zero_add] at this
theorem RecAt.items {w : World} {r : Nat} {a b : Value} (h : RecAt w r a b) (c : Value) : RecAt (w.setCell ⟨r, 6, none⟩ c) r c b := by
  refine ⟨⟨by simpa using h.1.1, fun j v hv => ?_⟩, fun o => by rw [World.frozen?_setCell]; exact h.2 o⟩
  have hj : j < 8 := by have := (List.getElem?_eq_some_iff.1 hv).1; simpa [hdc] using this
  rw [Nat.zero_add]
  by_cases h7 : j = 6
  · subst h7
    have : v = c := by simpa [hdc] using hv.symm
    subst this
    have hb : (w.cell? ⟨r, 6, none⟩).isSome = true := by rw [h.facts.1.2.2.2.2.2.2.1]; rfl
    exact World.cell?_setCell_same' _ _ _ hb
  · rw [World.cell?_setCell_other _ _ _ _ (by first | (simp; done) | (simp; omega))]
    have := h.1.2 j v (by
      match j, hj, h7 with
      | 0, _, _ => exact hv
      | 1, _, _ => exact hv
      | 2, _, _ => exact hv
      | 3, _, _ => exact hv
      | 4, _, _ => exact hv
      | 5, _, _ => exact hv
      | 6, _, h => exact absurd rfl h
      | 7, _, _ => exact hv)
    rwa [Nat.zero_add] at this
theorem kept_of {w w' : World} {B : Nat} {r : Option Nat} (h : RowKit.Below B w w') (k : ∀ b, b < w.heap.size → some b ≠ r → w'.heap[b]? = w.heap[b]?) : KeptButv w w' r := ⟨h.os, h.output, h.size, k⟩
theorem rises_snoc {l : List ByteArray} {x y : ByteArray} (h : Rises cmpT (l ++ [y])) (hs : cmpT y x < 0) : Rises cmpT ((l ++ [y]) ++ [x]) := by
  unfold Rises at *
  rw [List.pairwise_append]
  refine ⟨h, by simp, fun a ha b hb => ?_⟩
  simp at hb
  subst hb
  rcases List.mem_append.1 ha with ha | ha
  · have := (List.pairwise_append.1 h).2.2 a ha y (by simp)
    exact good_text.lt a y b trivial trivial trivial this hs
  · simp at ha; subst ha; exact hs
end Go.Proofs.YtnenjgngahipdaaGreat
