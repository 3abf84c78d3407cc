/- slices.SortFunc at names and at entities, in a row of the call's own; slices.Clone at names. Condition: not too many. -/
import Derived.Test.YtbfaccndgjilmaaGreatOrdE
import Derived.Test.YtbfaccndgjilmaaGreatCanF
namespace Go.Proofs.YtbfaccndgjilmaaGreat
open Go.RowKit Go.Sort Go.Lib
instance : Inhabited Us := ⟨⟨⟨#[]⟩, ⟨#[]⟩, Nat.zero_le _, Nat.zero_le _⟩⟩
def ordUV : Value := .func (.func 28) #[] #[]
theorem sortU_raw (B g cap : Nat) (w : World) (l : List Us) (hown : OwnU B w (.slice (some ⟨g, 0, none⟩) l.length cap) l) (hn : l.length < 4611686018427387904) :
    Calls Tryz.prog 51 #[.slice (some ⟨g, 0, none⟩) l.length cap, ordUV] w fun e w' =>
      e = .returned (.tuple #[]) ∧ ∃ d' n os, PermIn 0 l.toArray.size l.toArray d' ∧ SortedIn (ltOf cmpUs) 0 l.toArray.size d' ∧ w' = sortWorldK Us.cs 2 w g 0 n d' os := by
  have hg := (World.ownsRow.lt hown g rfl).2
  have hcmp : CmpLays (α := Us) Tryz.prog 28 #[] Us.cs 2 cmpUs g 0 l.toArray.size w := fun m os dk hdk x y => eOrder_c x y _
  have eg : ∀ args w, (callFunc 28 args).run Tryz.prog w = .ok (.enter 28 args) w := enters_of Tryz.func28 (by kernel_rfl) rfl
  have hcon := AnyQ.slices_SortFunc Tryz.sortU 2 Tryz.isAgg31 Tryz.sizeOf31 Us.cs encU_len encU_one cmpUs (swo_of good_us fun a : Us => a) 28 #[] g 0 cap l.toArray w eg hcmp (row_holds encU_len hown) hg (by simpa using hn)
  change Calls Tryz.prog 51 _ _ _ at hcon
  exact hcon
/-- What SortFunc leaves of such a row. -/
def SortUP (B : Nat) (v : Value) (ps : List Us) (w : World) (e : Ending) (w' : World) : Prop :=
  e = .returned (.tuple #[]) ∧ ∃ qs : List Us, qs.Perm ps ∧ Sorted cmpUs qs ∧ OwnU B w' v qs ∧ KeptBut w w' v.ownBlock
theorem sortU_c (B : Nat) (v : Value) (ps : List Us) (w : World) (O : OwnU B w v ps) (hn : ps.length ≤ 70000) : Calls Tryz.prog 51 #[v, ordUV] w (SortUP B v ps w) := by
  obtain ⟨ao, cap, rfl, h1, h2, h3⟩ := O.shape
  by_cases h0 : ps = []
  · subst h0
    have h := AnyF.slices_SortFunc_none Tryz.sortU ao cap ordUV w
    change Calls Tryz.prog 51 _ _ _ at h
    refine h.mono ?_
    rintro e w' ⟨rfl, rfl⟩
    exact ⟨rfl, [], List.Perm.refl _, by simp [Sorted], O, KeptBut.refl _ _⟩
  · rcases h3 with h3 | ⟨g, rfl, -, -⟩
    · exact absurd h3 h0
    · refine (sortU_raw B g cap w ps O (by omega)).mono ?_
      rintro e w' ⟨rfl, d', m, os, hp, hs, rfl⟩
      obtain ⟨hsz, -, hperm⟩ := hp
      have hsz' : d'.size = ps.length := by simpa using hsz
      have hperm' : d'.toList.Perm ps := by
        have : (d'.extract 0 d'.size).toList.Perm (ps.toArray.extract 0 ps.toArray.size).toList := by
          rw [show d'.size = ps.toArray.size from hsz]; exact hperm
        simpa using this
      refine ⟨rfl, d'.toList, hperm', ?_, ?_, rfl, rfl, size_sortWorldK_c Us.cs 2 w g 0 m d' os, fun b hb hne => sort_other w g m d' os b hb fun e => hne (by rw [e]; rfl)⟩
      · have := sorted_of (c := cmpUs) (fun a : Us => a) (d := d') (by rw [hsz]; exact hs)
        simpa using this
      · have h := row_after encU_len O m d' os hsz'
        exact h
/-! ### Entities -/
def encE (q : Ee) : List Value := q.sh.cs
theorem encE_len (q : Ee) : (encE q).length = 11 := rfl
theorem encE_one (q : Ee) : ∀ u ∈ encE q, u.oneCell' = true := by
  intro u hu
  simp only [encE, Sh.cs, Ee.sh, List.mem_cons, List.not_mem_nil, or_false] at hu
  rcases hu with rfl | rfl | rfl | rfl | rfl | rfl | rfl | rfl | rfl | rfl | rfl <;> rfl
abbrev OwnE (B : Nat) (w : World) (v : Value) (l : List Ee) : Prop := OwnR 37 11 encE B w v l
theorem e_info : (Tryz.prog.info? 37).map (fun i => (i.zero, i.size, i.bytes)) = some (some (.agg #[.string ⟨#[]⟩, .string ⟨#[]⟩, .slice none 0 0, .int .i64 0, .bool false, .int .i64 0, .string ⟨#[]⟩, .string ⟨#[]⟩, .string ⟨#[]⟩, .slice none 0 0, .slice none 0 0]), 11, 176) := by kernel_rfl
def U0 : Us := ⟨⟨#[]⟩, ⟨#[]⟩, Nat.zero_le _, Nat.zero_le _⟩
def E0 : En := ⟨U0, [], V0⟩
instance : Inhabited Ee := ⟨⟨E0, none, 0, none, 0, none, 0⟩⟩
def cfE (x y : Ee) : Int := cmpUs x.e.u y.e.u
def ordEV : Value := .func (.func 34) #[] #[]
theorem eCmp_c (x y : Ee) (w : World) : Calls Tryz.prog 34 #[.agg (encE x).toArray, .agg (encE y).toArray] w fun e w' => e = .returned (.int .i64 (cfE x y)) ∧ Gr w w' := by
  show Calls Tryz.prog 34 #[.agg #[.string x.e.u.t, .string x.e.u.i, .slice x.ap x.e.ps.length x.cp, .int .i64 x.e.a.h.k, .bool x.e.a.h.b, .int .i64 x.e.a.h.n, .string x.e.a.h.s, .string x.e.a.h.t, .string x.e.a.h.i, .slice x.ai x.e.a.l.length x.ci, .slice x.an x.e.a.ns.length x.cn], .agg #[.string y.e.u.t, .string y.e.u.i, .slice y.ap y.e.ps.length y.cp, .int .i64 y.e.a.h.k, .bool y.e.a.h.b, .int .i64 y.e.a.h.n, .string y.e.a.h.s, .string y.e.a.h.t, .string y.e.a.h.i, .slice y.ai y.e.a.l.length y.ci, .slice y.an y.e.a.ns.length y.cn]] w _
  have HC := Lib.hid fun W => eOrder_c x.e.u y.e.u W
  unfold cfE
  generalize cmpUs x.e.u y.e.u = r at HC ⊢
  go_enter Tryz.func34, Tryz.ntmps34
  go_wp2_with fail
  refine (HC.out _).mono ?_
  rintro e w1 ⟨rfl, g⟩
  have G := Lib.hid ((Gr.alloc (Gr.alloc (Gr.refl w) _) _).trans g)
  clear g
  go_wp2_with fail
  go_ret
  exact ⟨rfl, G.out⟩
theorem sortE_raw (B g cap : Nat) (w : World) (l : List Ee) (hown : OwnE B w (.slice (some ⟨g, 0, none⟩) l.length cap) l) (hn : l.length < 4611686018427387904) :
    Calls Tryz.prog 33 #[.slice (some ⟨g, 0, none⟩) l.length cap, ordEV] w fun e w' =>
      e = .returned (.tuple #[]) ∧ ∃ d' n os, PermIn 0 l.toArray.size l.toArray d' ∧ SortedIn (ltOf cfE) 0 l.toArray.size d' ∧ w' = sortWorldK encE 11 w g 0 n d' os := by
  have hg := (World.ownsRow.lt hown g rfl).2
  have hcmp : CmpLays (α := Ee) Tryz.prog 34 #[] encE 11 cfE g 0 l.toArray.size w := fun m os dk hdk x y => eCmp_c x y _
  have eg : ∀ args w, (callFunc 34 args).run Tryz.prog w = .ok (.enter 34 args) w := enters_of Tryz.func34 (by kernel_rfl) rfl
  have hcon := AnyQ.slices_SortFunc Tryz.sortE 11 Tryz.isAgg37 Tryz.sizeOf37 encE encE_len encE_one cfE (swo_of good_us fun a : Ee => a.e.u) 34 #[] g 0 cap l.toArray w eg hcmp (row_holds encE_len hown) hg (by simpa using hn)
  change Calls Tryz.prog 33 _ _ _ at hcon
  exact hcon
/-- What SortFunc leaves of such a row. -/
def SortEP (B : Nat) (v : Value) (ps : List Ee) (w : World) (e : Ending) (w' : World) : Prop :=
  e = .returned (.tuple #[]) ∧ ∃ qs : List Ee, qs.Perm ps ∧ Sorted cmpE (ensOf qs) ∧ OwnE B w' v qs ∧ KeptBut w w' v.ownBlock
theorem sortE_c (B : Nat) (v : Value) (ps : List Ee) (w : World) (O : OwnE B w v ps) (hn : ps.length ≤ 70000) : Calls Tryz.prog 33 #[v, ordEV] w (SortEP B v ps w) := by
  obtain ⟨ao, cap, rfl, h1, h2, h3⟩ := O.shape
  by_cases h0 : ps = []
  · subst h0
    have h := AnyF.slices_SortFunc_none Tryz.sortE ao cap ordEV w
    change Calls Tryz.prog 33 _ _ _ at h
    refine h.mono ?_
    rintro e w' ⟨rfl, rfl⟩
    exact ⟨rfl, [], List.Perm.refl _, by simp [Sorted, ensOf], O, KeptBut.refl _ _⟩
  · rcases h3 with h3 | ⟨g, rfl, -, -⟩
    · exact absurd h3 h0
    · refine (sortE_raw B g cap w ps O (by omega)).mono ?_
      rintro e w' ⟨rfl, d', m, os, hp, hs, rfl⟩
      obtain ⟨hsz, -, hperm⟩ := hp
      have hsz' : d'.size = ps.length := by simpa using hsz
      have hperm' : d'.toList.Perm ps := by
        have : (d'.extract 0 d'.size).toList.Perm (ps.toArray.extract 0 ps.toArray.size).toList := by
          rw [show d'.size = ps.toArray.size from hsz]; exact hperm
        simpa using this
      refine ⟨rfl, d'.toList, hperm', ?_, ?_, rfl, rfl, size_sortWorldK_c encE 11 w g 0 m d' os, fun b hb hne => sort_other w g m d' os b hb fun e => hne (by rw [e]; rfl)⟩
      · have := sorted_of (c := cmpUs) (fun a : Ee => a.e.u) (d := d') (by rw [hsz]; exact hs)
        unfold Sorted at this ⊢
        unfold ensOf
        rw [List.pairwise_map] at this ⊢
        exact this
      · have h := row_after encE_len O m d' os hsz'
        exact h
end Go.Proofs.YtbfaccndgjilmaaGreat
