/- Names with their items, the names rising. Condition: not too many. -/
import Derived.Test.YtdblkjcimegoeaaCanS
namespace Go.Proofs.Ytdblkjcimegoeaa
open Go.RowKit Go.Sort Go.Lib
structure Fd where
  name : ByteArray
  p : El
def encF (f : Fd) : List Value := .string f.name :: encV f.p
theorem encF_len (f : Fd) : (encF f).length = 9 := rfl
theorem encF_one (f : Fd) : ∀ u ∈ encF f, u.oneCell' = true := by
  intro u hu
  rcases List.mem_cons.1 hu with rfl | hu
  · rfl
  · exact encV_one f.p u hu
theorem f_info : (Try.prog.info? 68).map (fun i => (i.zero, i.size, i.bytes)) = some (some (.agg #[.string ⟨#[]⟩, .int .i64 0, .bool false, .int .i64 0, .string ⟨#[]⟩, .string ⟨#[]⟩, .string ⟨#[]⟩, .slice none 0 0, .slice none 0 0]), 9, 136) := by kernel_rfl
instance : Inhabited Fd := ⟨⟨⟨#[]⟩, ⟨V0, none, 0, none, 0⟩⟩⟩
def cfF (x y : Fd) : Int := cmpT x.name y.name
def fldV : Value := .func (.func 47) #[] #[]
theorem fldCmp_c (x y : Fd) (w : World) : Calls Try.prog 47 #[.agg (encF x).toArray, .agg (encF y).toArray] w fun e w' => e = .returned (.int .i64 (cfF x y)) ∧ Gr w w' := by
  show Calls Try.prog 47 #[.agg #[.string x.name, .int .i64 x.p.v.h.k, .bool x.p.v.h.b, .int .i64 x.p.v.h.n, .string x.p.v.h.s, .string x.p.v.h.t, .string x.p.v.h.i, .slice x.p.ai x.p.v.l.length x.p.ci, .slice x.p.an x.p.v.ns.length x.p.cn], .agg #[.string y.name, .int .i64 y.p.v.h.k, .bool y.p.v.h.b, .int .i64 y.p.v.h.n, .string y.p.v.h.s, .string y.p.v.h.t, .string y.p.v.h.i, .slice y.p.ai y.p.v.l.length y.p.ci, .slice y.p.an y.p.v.ns.length y.p.cn]] w _
  have HC := Lib.hid fun W => sCmp_c x.name y.name W
  unfold cfF
  generalize cmpT x.name y.name = r at HC ⊢
  go_enter Try.func47, Try.ntmps47
  go_wp2_with fail
  refine (HC.out _).mono ?_
  rintro e w1 ⟨rfl, rfl⟩
  go_wp2_with fail
  go_ret
  exact ⟨rfl, Gr.alloc (Gr.alloc (Gr.refl w) _) _⟩
theorem sortF_raw (B g cap : Nat) (w : World) (l : List Fd) (hown : OwnR 68 9 encF B w (.slice (some ⟨g, 0, none⟩) l.length cap) l) (hn : l.length < 4611686018427387904) :
    Calls Try.prog 46 #[.slice (some ⟨g, 0, none⟩) l.length cap, fldV] w fun e w' =>
      e = .returned (.tuple #[]) ∧ ∃ d' n os, PermIn 0 l.toArray.size l.toArray d' ∧ SortedIn (ltOf cfF) 0 l.toArray.size d' ∧ w' = sortWorldK encF 9 w g 0 n d' os := by
  have hg := (World.ownsRow.lt hown g rfl).2
  have hcmp : CmpLays (α := Fd) Try.prog 47 #[] encF 9 cfF g 0 l.toArray.size w := fun m os dk hdk x y => fldCmp_c x y _
  have eg : ∀ args w, (callFunc 47 args).run Try.prog w = .ok (.enter 47 args) w := enters_of Try.func47 (by kernel_rfl) rfl
  have hcon := AnyQ.slices_SortFunc Try.sortF 9 Try.isAgg68 Try.sizeOf68 encF encF_len encF_one cfF (swo_of good_text fun a : Fd => a.name) 47 #[] g 0 cap l.toArray w eg hcmp (row_holds encF_len hown) hg (by simpa using hn)
  change Calls Try.prog 46 _ _ _ at hcon
  exact hcon
/-- What SortFunc leaves of such a row. -/
def SortFP (B : Nat) (v : Value) (ps : List Fd) (w : World) (e : Ending) (w' : World) : Prop :=
  e = .returned (.tuple #[]) ∧ ∃ qs : List Fd, qs.Perm ps ∧ Sorted cmpT (qs.map (·.name)) ∧ OwnR 68 9 encF B w' v qs ∧ KeptBut w w' v.ownBlock
theorem sortF_c (B : Nat) (v : Value) (ps : List Fd) (w : World) (O : OwnR 68 9 encF B w v ps) (hn : ps.length ≤ 70000) : Calls Try.prog 46 #[v, fldV] w (SortFP B v ps w) := by
  obtain ⟨ao, cap, rfl, h1, h2, h3⟩ := O.shape
  by_cases h0 : ps = []
  · subst h0
    have h := AnyF.slices_SortFunc_none Try.sortF ao cap fldV w
    change Calls Try.prog 46 _ _ _ at h
    refine h.mono ?_
    rintro e w' ⟨rfl, rfl⟩
    exact ⟨rfl, [], List.Perm.refl _, by simp [Sorted], O, KeptBut.refl _ _⟩
  · rcases h3 with h3 | ⟨g, rfl, -, -⟩
    · exact absurd h3 h0
    · refine (sortF_raw B g cap w ps O (by omega)).mono ?_
      rintro e w' ⟨rfl, d', m, os, hp, hs, rfl⟩
      obtain ⟨hsz, -, hperm⟩ := hp
      have hsz' : d'.size = ps.length := by simpa using hsz
      have hperm' : d'.toList.Perm ps := by
        have : (d'.extract 0 d'.size).toList.Perm (ps.toArray.extract 0 ps.toArray.size).toList := by
          rw [show d'.size = ps.toArray.size from hsz]; exact hperm
        simpa using this
      refine ⟨rfl, d'.toList, hperm', ?_, ?_, rfl, rfl, size_sortWorldK_c encF 9 w g 0 m d' os, fun b hb hne => sort_other w g m d' os b hb fun e => hne (by rw [e]; rfl)⟩
      · exact sorted_of (c := cmpT) (fun a : Fd => a.name) (d := d') (by rw [hsz]; exact hs)
      · have h := row_after encF_len O m d' os hsz'
        exact h
def zipF (ns : List ByteArray) (ps : List El) : List Fd := List.zipWith Fd.mk ns ps
/-- What risingFields answers. -/
def FldP (ns : List ByteArray) (ps : List El) (w : World) (e : Ending) (w' : World) : Prop :=
  ∃ v fs, e = .returned v ∧ OwnR 68 9 encF w.heap.size w' v fs ∧ fs.Perm (zipF ns ps) ∧ Sorted cmpT (fs.map (·.name)) ∧ Low w w'
set_option maxHeartbeats 2000000 in
theorem rising_c (ns : List ByteArray) (ps : List El) (B : Nat) (w : World) (nm v : Value) (hn : Na w ns nm) (hl : ns.length = ps.length) (hs : ns.length ≤ 70000) (O : OwnV B w v ps) :
    Calls Try.prog 40 #[nm, v] w (FldP ns ps w) := by
  obtain ⟨an, cn, rfl, zn, -⟩ := id hn
  obtain ⟨ao, cap, rfl, zl, zc, -⟩ := O.shape
  have HN := Lib.hid hn
  have HO := Lib.hid O
  have hl1 : ns.length ≤ ps.length := by omega
  have hl2 : ps.length ≤ ns.length := by omega
  clear hn O hl
  go_enter Try.func40, Try.ntmps40
  go_wp2_with fail
  go_loopg [5, 10] ns.length (fun gk vs vi wr => ∃ (x : Value) (i : Nat) (fs : List Fd), x = vs ∧ vi = .int .i64 (i : Int) ∧ i ≤ ns.length ∧ ns.length - i ≤ gk ∧ Hid (Low w wr) ∧ Hid (fs = (zipF ns ps).take i) ∧ Hid (OwnR 68 9 encF w.heap.size wr x fs))
  case atStart => exact ⟨_, 0, [], rfl, rfl, Nat.zero_le _, Nat.le_refl _, Lib.hid (Low.refl _), Lib.hid (by simp), Lib.hid (OwnR.nil _ _ _ _ _)⟩
  case round =>
    obtain ⟨x, i, fs, rfl, rfl, hi, hg, G, K, X⟩ := hrel
    have hzl : (zipF ns ps).length = ns.length := by unfold zipF; rw [List.length_zipWith]; omega
    have hpl : fs.length = i := by rw [K.out, List.length_take]; omega
    by_cases hlt : i < ns.length
    · have z1 : (i : Int) < (ns.length : Int) := by omega
      have hlp : i < ps.length := by omega
      have z2 : (i : Int) < (ps.length : Int) := by omega
      obtain ⟨b, o, rfl, hc, -⟩ := na_at (HN.out.low G.out) hlt
      obtain ⟨_, _, hsh, _, _, hor⟩ := OwnR.shape (HO.out.low G.out)
      simp only [Value.slice.injEq] at hsh
      obtain ⟨rfl, -, rfl⟩ := hsh
      rcases hor with h0 | ⟨g, rfl, -, -⟩
      · rw [h0] at hlp; simp at hlp
      have hcs := ownV_cells (show OwnV B wr (.slice (some ⟨g, 0, none⟩) ps.length cap) ps from HO.out.low G.out) hlp
      obtain ⟨e0, e1, e2, e3, e4, e5, e6, e7⟩ := cells8 hcs
      have hst : (zipF ns ps).take (i + 1) = fs ++ [⟨ns[i], ps[i]⟩] := by
        rw [take_snoc (by omega), ← K.out]
        unfold zipF
        rw [List.getElem_zipWith]
      have HS := Lib.hid hst
      have hsz : w.heap.size ≤ wr.heap.size := G.out.size
      clear hcs hst
      go_wp2_with (first
        | (at_builtin; refine appR rfl _ _ _ rfl Try.underlying65 f_info rfl (by decide) (by decide) encF_len encF_one w.heap.size x fs rfl (X.out.alloc _) ⟨ns[i], ps[i]⟩ ⟨wr.heap.size, 0, none⟩ 1 rfl (fun j u hj => newcell_at _ _ _ _ _ rfl hj) (by omega) (by simp; omega) ?_; intro v2 w2 h2 b2 k2 n2))
      have W1 := Lib.hid ((G.out.alloc (.cells #[.string ns[i], .int .i64 ps[i].v.h.k, .bool ps[i].v.h.b, .int .i64 ps[i].v.h.n, .string ps[i].v.h.s, .string ps[i].v.h.t, .string ps[i].v.h.i, .slice ps[i].ai ps[i].v.l.length ps[i].ci, .slice ps[i].an ps[i].v.ns.length ps[i].cn] 68)).trans_below b2 (Nat.le_refl _))
      have H2 := Lib.hid h2
      clear h2 b2 k2 n2
      go_wp2_with fail
      go_roundg (ns.length - (i + 1))
      case measure => omega
      case rel => exact ⟨v2, i + 1, _, rfl, by go_num, by omega, by omega, W1, Lib.hid HS.out.symm, H2⟩
    · have z1 : ¬ (i : Int) < (ns.length : Int) := by omega
      have hf : fs = zipF ns ps := by rw [K.out, List.take_of_length_le (by omega)]
      have HF := Lib.hid hf
      have CSo := Lib.hid (sortF_c w.heap.size x fs wr X.out (by omega))
      have hx := fun g (h : x.ownBlock = some g) => (World.ownsRow.lt X.out g h).1
      have HX := Lib.hid hx
      clear hf hx
      go_wp2_with fail
      refine CSo.out.mono ?_
      rintro e w2 ⟨rfl, qs, hperm, hsorted, O2, K2⟩
      have P1 := Lib.hid hperm
      have P2 := Lib.hid hsorted
      have P3 := Lib.hid O2
      have P4 := Lib.hid K2
      clear hperm hsorted O2 K2
      go_wp2_with fail
      go_ret
      exact ⟨_, qs, rfl, P3.out, by rw [← HF.out]; exact P1.out, P2.out, G.out.kept P4.out HX.out⟩
end Go.Proofs.Ytdblkjcimegoeaa
