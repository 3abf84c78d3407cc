/- The order of truths, of entities' names, of rows of names. No condition. The order of rows of names; the order handed on as a function value in a closure; a record's items that have a name. No condition. The order of values, as the program has it, is the order by definition. No condition. Order is the order by definition. No condition. -/
import Derived.Test.YtmkillbanmbafaaGreatGrs
import Derived.Test.YtmkillbanmbafaaGreatShelf
import Derived.Deep.RegionHeld3
import Derived.Deep.RegionWith
namespace Go.Proofs.YtmkillbanmbafaaGreat
open Go.RowKit Go.Sort
theorem truths_c (a b : Bool) (w : World) : Calls Tryz.prog 69 #[.bool a, .bool b] w fun e w' => e = .returned (.int .i64 (cmpB a b)) ∧ w = w' := by
  cases a <;> cases b
  all_goals
    go_enter Tryz.func69, Tryz.ntmps69
    go_wp2_with fail
    go_ret
    exact ⟨rfl, rfl⟩
theorem sCmp_c (a b : ByteArray) (w : World) : Calls Tryz.prog 71 #[.string a, .string b] w fun e w' => e = .returned (.int .i64 (cmpT a b)) ∧ w = w' :=
  (Tryz.strings_Compare a b w).mono fun _ _ ⟨h, k⟩ => ⟨h, k.symm⟩
set_option maxHeartbeats 800000 in
theorem or_c (a b : Int) (bk cap : Nat) (w : World) (h0 : w.cell? ⟨bk, 0, none⟩ = some (.int .i64 a)) (h1 : w.cell? ⟨bk, 1, none⟩ = some (.int .i64 b)) :
    Calls Tryz.prog 97 #[.slice (some ⟨bk, 0, none⟩) 2 cap] w fun e w' => e = .returned (.int .i64 (orI a b)) ∧ w = w' := by
  by_cases ha : a = 0
  · subst ha
    by_cases hb : b = 0
    · subst hb
      go_enter Tryz.func97, Tryz.ntmps97
      go_wp2_with fail
      refine wp_loop_rounds 3 ?_
      rw [rounds_succ]; go_wp2_with fail
      rw [rounds_succ]; go_wp2_with fail
      rw [rounds_succ]; go_wp2_with fail
      go_ret
      exact ⟨rfl, rfl⟩
    · go_enter Tryz.func97, Tryz.ntmps97
      go_wp2_with fail
      refine wp_loop_rounds 3 ?_
      rw [rounds_succ]; go_wp2_with fail
      rw [rounds_succ]; go_wp2_with fail
      go_ret
      exact ⟨rfl, rfl⟩
  · have hr : orI a b = a := if_neg ha
    rw [hr]
    clear hr
    go_enter Tryz.func97, Tryz.ntmps97
    go_wp2_with fail
    refine wp_loop_rounds 3 ?_
    rw [rounds_succ]; go_wp2_with fail
    go_ret
    exact ⟨rfl, rfl⟩
set_option maxHeartbeats 1600000 in
theorem uids_c (t i t' i' : ByteArray) (w : World) : Calls Tryz.prog 72 #[.agg #[.string t, .string i], .agg #[.string t', .string i']] w fun e w' => e = .returned (.int .i64 (orI (cmpT t t') (cmpT i i'))) ∧ Gr w w' := by
  obtain ⟨x, hx⟩ : ∃ x, x = cmpT t t' := ⟨_, rfl⟩
  obtain ⟨y, hy⟩ : ∃ y, y = cmpT i i' := ⟨_, rfl⟩
  have c1 : ∀ w, Calls Tryz.prog 71 #[.string t, .string t'] w fun e w' => e = .returned (.int .i64 x) ∧ w = w' := fun w => by rw [hx]; exact sCmp_c t t' w
  have c2 : ∀ w, Calls Tryz.prog 71 #[.string i, .string i'] w fun e w' => e = .returned (.int .i64 y) ∧ w = w' := fun w => by rw [hy]; exact sCmp_c i i' w
  rw [← hx, ← hy]
  have C1 := Lib.hid c1
  have C2 := Lib.hid c2
  have c3 : ∀ (W : World) (bk c : Nat) (tt : TypeId), W.heap.size = bk → Calls Tryz.prog 97 #[.slice (some ⟨bk, 0, none⟩) 2 c] (W.alloc (.cells #[.int .i64 x, .int .i64 y] tt)).drew fun e w' => e = .returned (.int .i64 (orI x y)) ∧ (W.alloc (.cells #[.int .i64 x, .int .i64 y] tt)).drew = w' :=
    fun W bk c tt hb => by
      subst hb
      refine or_c x y _ c _ ?_ ?_
      · show (W.alloc _).cell? _ = _
        rw [World.cell?_alloc_mark]; rfl
      · show (W.alloc _).cell? _ = _
        rw [World.cell?_alloc_mark]; rfl
  have C3 := Lib.hid c3
  clear hx hy c1 c2 c3
  go_enter Tryz.func72, Tryz.ntmps72
  go_wp2_with fail
  obtain ⟨W, hW⟩ : ∃ W, W = (w.alloc (.cells #[.string t, .string i] 24)).alloc (.cells #[.string t', .string i'] 24) := ⟨_, rfl⟩
  have g0 : Gr w W := hW ▸ Gr.alloc (Gr.alloc (Gr.refl w) _) _
  have a0 : W.cell? ⟨w.heap.size, 0, none⟩ = some (.string t) := by rw [hW]; simp [go_sem]
  have a1 : W.cell? ⟨w.heap.size, 1, none⟩ = some (.string i) := by rw [hW]; simp [go_sem]
  have b0 : W.cell? ⟨w.heap.size + 1, 0, none⟩ = some (.string t') := by rw [hW]; simp [go_sem]
  have b1 : W.cell? ⟨w.heap.size + 1, 1, none⟩ = some (.string i') := by rw [hW]; simp [go_sem]
  rw [← hW]
  clear hW
  have G0 := Lib.hid g0
  clear g0
  go_region_held3 (fun w' => w'.cell? ⟨w.heap.size, 0, none⟩ = some (.string t) ∧ w'.cell? ⟨w.heap.size, 1, none⟩ = some (.string i) ∧ w'.cell? ⟨w.heap.size + 1, 0, none⟩ = some (.string t') ∧ w'.cell? ⟨w.heap.size + 1, 1, none⟩ = some (.string i')) (go_keep) (first | (go_at_call_of 71 (Value.string t); refine (C1.out _).mono ?_; rintro e w' ⟨rfl, rfl⟩) | (go_at_call_of 71 (Value.string i); refine (C2.out _).mono ?_; rintro e w' ⟨rfl, rfl⟩) | (go_at_call 97; refine (C3.out _ _ _ _ rfl).mono ?_; rintro e w' ⟨rfl, rfl⟩))
  all_goals
    go_wp2_with fail
    go_ret
    exact ⟨rfl, by first | exact Gr.alloc (Gr.drew G0.out) _ | exact Gr.drew (Gr.alloc G0.out _)⟩
end Go.Proofs.YtmkillbanmbafaaGreat
namespace Go.Proofs.YtmkillbanmbafaaGreat
open Go.RowKit Go.Sort
def Na (w : World) (ns : List ByteArray) (nm : Value) : Prop := NamesAt (fun _ => True) w ns nm
theorem Na.low {w w' : World} {l : List ByteArray} {it : Value} (hr : Na w l it) (h : Low w w') : Na w' l it := NamesAt.low hr h
theorem na_at {w : World} {l : List ByteArray} {ao : Option Addr} {n cap i : Nat} (hr : Na w l (.slice ao n cap)) (hi : i < l.length) : ∃ b o, ao = some ⟨b, o, none⟩ ∧ w.cell? ⟨b, o + i, none⟩ = some (.string l[i]) ∧ l[i].size ≤ 9223372036854775807 := by
  obtain ⟨ai, ci, he, hli, hs, hx⟩ := hr
  simp only [Value.slice.injEq] at he
  obtain ⟨rfl, rfl, rfl⟩ := he
  rcases hx with h0 | ⟨b, o, rfl, ha, hf⟩
  · rw [h0] at hi; exact absurd hi (Nat.not_lt_zero _)
  · exact ⟨b, o, rfl, hf i hi, hs _ (List.getElem_mem hi)⟩
theorem cmpN_cons (x y : ByteArray) (l m : List ByteArray) : cmpN (x :: l) (y :: m) = orI (cmpT x y) (cmpN l m) := rfl
set_option maxHeartbeats 1600000 in
theorem cmpNm_c (l m : List ByteArray) (w : World) (it it' : Value) (hl : Na w l it) (hm : Na w m it') :
    Calls Tryz.prog 116 #[it, it', .func (.func 71) #[] #[]] w fun e w' => e = .returned (.int .i64 (cmpN l m)) ∧ w = w' := by
  obtain ⟨al, cl, rfl, zl, -⟩ := id hl
  obtain ⟨am, cm, rfl, zm, -⟩ := id hm
  have HL := Lib.hid hl
  have HM := Lib.hid hm
  clear hl hm
  obtain ⟨r, hr⟩ : ∃ r, r = cmpN l m := ⟨_, rfl⟩
  have HR := Lib.hid hr
  rw [← hr]
  clear hr
  go_enter Tryz.func116, Tryz.ntmps116
  go_wp2_with fail
  go_loopg [13] l.length (fun gk vi wr => ∃ i : Nat, vi = .int .i64 (i : Int) ∧ i ≤ l.length ∧ i ≤ m.length ∧ l.length - i ≤ gk ∧ Hid (w = wr) ∧ Hid (r = cmpN (l.drop i) (m.drop i)))
  case atStart => exact ⟨0, rfl, Nat.zero_le _, Nat.zero_le _, Nat.le_refl _, rfl, HR⟩
  case round =>
    obtain ⟨i, rfl, hi, hi', hg, G, K⟩ := hrel
    have G' : w = wr := G
    subst G'
    by_cases hlt : i < l.length
    · have z1 : (i : Int) < (l.length : Int) := by omega
      obtain ⟨b, o, rfl, hc, -⟩ := na_at HL.out hlt
      by_cases hlm : i < m.length
      · have z2 : (i : Int) < (m.length : Int) := by omega
        obtain ⟨b', o', rfl, hc', -⟩ := na_at HM.out hlm
        obtain ⟨c, hcc⟩ : ∃ c, c = cmpT l[i] m[i] := ⟨_, rfl⟩
        have hst : r = orI c (cmpN (l.drop (i + 1)) (m.drop (i + 1))) := by rw [hcc, ← cmpN_cons, ← drop_cons hlt, ← drop_cons hlm]; exact K.out
        have hcon := sCmp_c l[i] m[i] w
        rw [← hcc] at hcon
        have HC := Lib.hid hcon
        have HS := Lib.hid hst
        clear hst hcon hcc
        go_wp2_with fail
        refine HC.out.mono ?_
        rintro e w' ⟨rfl, rfl⟩
        by_cases h0 : c = 0
        · subst h0
          have HS' : Hid (r = cmpN (l.drop (i + 1)) (m.drop (i + 1))) := HS
          go_wp2_with fail
          go_roundg (l.length - (i + 1))
          case measure => omega
          case rel => exact ⟨i + 1, by go_num, by omega, by omega, by omega, rfl, HS'⟩
        · have hr : r = c := by rw [HS.out, orI, if_neg h0]
          go_wp2_with fail
          go_ret
          exact ⟨retI hr, rfl⟩
      · have z2 : ¬ (i : Int) < (m.length : Int) := by omega
        have hr : r = 1 := by
          rw [K.out, drop_cons hlt, List.drop_eq_nil_of_le (show m.length ≤ i by omega)]; rfl
        have HQ := Lib.hid hr
        clear hr
        go_wp2_with fail
        go_ret
        exact ⟨retI HQ.out, rfl⟩
    · have z1 : ¬ (i : Int) < (l.length : Int) := by omega
      by_cases hlm : l.length < m.length
      · have z2 : (l.length : Int) < (m.length : Int) := by omega
        have hr : r = -1 := by
          rw [K.out, List.drop_eq_nil_of_le (show l.length ≤ i by omega), drop_cons (show i < m.length by omega)]; rfl
        have HQ := Lib.hid hr
        clear hr
        go_wp2_with fail
        go_ret
        exact ⟨retI HQ.out, rfl⟩
      · have z2 : ¬ (l.length : Int) < (m.length : Int) := by omega
        have hr : r = 0 := by
          rw [K.out, List.drop_eq_nil_of_le (show l.length ≤ i by omega), List.drop_eq_nil_of_le (show m.length ≤ i by omega)]; rfl
        have HQ := Lib.hid hr
        clear hr
        go_wp2_with fail
        go_ret
        exact ⟨retI HQ.out, rfl⟩
/-! ### The closures -/
def ordV : Value := .func (.func 48) #[] #[]
def cmpV : Value := .func (.func 71) #[] #[]
theorem byItem_c (w : World) : Calls Tryz.prog 73 #[ordV] w fun e w' => ∃ bx, e = .returned (.func (.func 98) #[] #[.pointer (some ⟨bx, 0, none⟩)]) ∧ w'.cell? ⟨bx, 0, none⟩ = some ordV ∧ Gr w w' := by
  unfold ordV
  go_enter Tryz.func73, Tryz.ntmps73
  go_wp2_with fail
  go_ret
  exact ⟨_, rfl, by simp [go_sem], Gr.alloc (Gr.refl w) _⟩
theorem byName_c (w : World) : Calls Tryz.prog 100 #[cmpV] w fun e w' => ∃ bx, e = .returned (.func (.func 115) #[] #[.pointer (some ⟨bx, 0, none⟩)]) ∧ w'.cell? ⟨bx, 0, none⟩ = some cmpV ∧ Gr w w' := by
  unfold cmpV
  go_enter Tryz.func100, Tryz.ntmps100
  go_wp2_with fail
  go_ret
  exact ⟨_, rfl, by simp [go_sem], Gr.alloc (Gr.refl w) _⟩
theorem cloV_c (l m : List V) (ih : ∀ x ∈ l, ∀ y ∈ m, OrdC 48 x y) (bx : Nat) (w : World) (it it' : Value) (hb : w.cell? ⟨bx, 0, none⟩ = some ordV) (hl : Ro w l it) (hm : Ro w m it') :
    Calls Tryz.prog 98 #[it, it', .pointer (some ⟨bx, 0, none⟩)] w fun e w' => e = .returned (.int .i64 (ordL l m)) ∧ Gr w w' := by
  unfold ordV at hb
  have HC := Lib.hid (cmpF_c l m ih w it it' hl hm)
  clear ih hl hm
  generalize ordL l m = r at HC ⊢
  go_enter Tryz.func98, Tryz.ntmps98
  go_wp2_with fail
  refine HC.out.mono ?_
  rintro e w' ⟨rfl, g⟩
  go_wp2_with fail
  go_ret
  exact ⟨rfl, g⟩
theorem cloN_c (l m : List ByteArray) (bx : Nat) (w : World) (it it' : Value) (hb : w.cell? ⟨bx, 0, none⟩ = some cmpV) (hl : Na w l it) (hm : Na w m it') :
    Calls Tryz.prog 115 #[it, it', .pointer (some ⟨bx, 0, none⟩)] w fun e w' => e = .returned (.int .i64 (cmpN l m)) ∧ w = w' := by
  unfold cmpV at hb
  have HC := Lib.hid (cmpNm_c l m w it it' hl hm)
  clear hl hm
  generalize cmpN l m = r at HC ⊢
  go_enter Tryz.func115, Tryz.ntmps115
  go_wp2_with fail
  refine HC.out.mono ?_
  rintro e w' ⟨rfl, rfl⟩
  go_wp2_with fail
  go_ret
  exact ⟨rfl, rfl⟩
end Go.Proofs.YtmkillbanmbafaaGreat
namespace Go.Proofs.YtmkillbanmbafaaGreat
open Go.RowKit Go.Sort
theorem repF_take {A : Nat → Prop} {w : World} {b : Nat} : ∀ {l : List V} {o : Nat} (k : Nat), RepF A w b o l → RepF A w b o (l.take k)
  | [], _, k, h => by simpa using h
  | x :: l, o, 0, h => by rw [List.take_zero, RepF]; trivial
  | x :: l, o, k + 1, h => by
    rw [List.take_succ_cons]
    rw [RepF] at h ⊢
    exact ⟨h.1, repF_take k h.2⟩
/-- The first k of a row. -/
theorem ro_take {w : World} {l : List V} {ao : Option Addr} {n cap k : Nat} (h : Ro w l (.slice ao n cap)) (hk : k ≤ l.length) : Ro w (l.take k) (.slice ao k cap) := by
  obtain ⟨ai, ci, he, ⟨h1, h2⟩, hx⟩ := h
  simp only [Value.slice.injEq] at he
  obtain ⟨rfl, rfl, rfl⟩ := he
  refine ⟨ao, cap, by rw [List.length_take, Nat.min_eq_left hk], ⟨by rw [List.length_take]; omega, h2⟩, ?_⟩
  rcases hx with h0 | ⟨b, o, rfl, ha, hf⟩
  · exact .inl (by rw [h0]; simp)
  · exact .inr ⟨b, o, rfl, ha, repF_take k hf⟩
/-- What a call answers that tells a row. -/
def RowP (l : List V) (w : World) (e : Ending) (w' : World) : Prop := ∃ it, e = .returned it ∧ Ro w' l it ∧ Gr w w'
set_option maxHeartbeats 800000 in
theorem named_c (v : V) (w : World) (it nm : Value) (hr : R w v it nm) : Calls Tryz.prog 101 #[av v.h it nm] w (RowP v.named w) := by
  obtain ⟨-, ⟨an, cn, rfl, zn, -⟩, hro⟩ := rep_v.1 hr
  obtain ⟨ai, ci, rfl, ⟨zl, zc⟩, -⟩ := id hro
  have HR := Lib.hid hro
  clear hr hro
  have z1 : (v.l.length : Int) ≤ ci := by omega
  unfold av
  go_enter Tryz.func101, Tryz.ntmps101
  go_wp2_with fail
  go_ret
  refine ⟨_, rfl, ?_, Gr.alloc (Gr.refl w) _⟩
  have e : (min (v.ns.length : Int) (v.l.length : Int)).toNat = min v.ns.length v.l.length := by omega
  show Ro _ _ (.slice ai (min (v.ns.length : Int) (v.l.length : Int)).toNat ci)
  rw [e]
  exact (ro_take HR.out (Nat.min_le_right _ _)).low (Gr.alloc (Gr.refl w) _).low
theorem mem_named {v : V} {x : V} (h : x ∈ v.named) : x ∈ v.l := List.mem_of_mem_take h
set_option maxHeartbeats 2000000 in
theorem recs_c (a b : V) (ih : ∀ x ∈ a.l, ∀ y ∈ b.l, OrdC 48 x y) (w : World) (it nm it' nm' : Value) (ha : R w a it nm) (hb : R w b it' nm') :
    Calls Tryz.prog 74 #[av a.h it nm, av b.h it' nm'] w fun e w' => e = .returned (.int .i64 (orI (cmpN a.ns b.ns) (ordL a.named b.named))) ∧ Gr w w' := by
  obtain ⟨ai, ci, an, cn, rfl, rfl⟩ := r_slices ha
  obtain ⟨ai', ci', an', cn', rfl, rfl⟩ := r_slices hb
  have na : Na w a.ns (.slice an a.ns.length cn) := (rep_v.1 ha).2.1
  have nb : Na w b.ns (.slice an' b.ns.length cn') := (rep_v.1 hb).2.1
  have CV := Lib.hid fun (W : World) => named_c a W (.slice ai a.l.length ci) (.slice an a.ns.length cn)
  have CV' := Lib.hid fun (W : World) => named_c b W (.slice ai' b.l.length ci') (.slice an' b.ns.length cn')
  have CL := Lib.hid (cloV_c a.named b.named fun x hx y hy => ih x (mem_named hx) y (mem_named hy))
  have CN := Lib.hid (cloN_c a.ns b.ns)
  generalize ordL a.named b.named = r at CL ⊢
  generalize cmpN a.ns b.ns = c at CN ⊢
  have HA := Lib.hid ha
  have HB := Lib.hid hb
  have NA := Lib.hid na
  have NB := Lib.hid nb
  clear ha hb ih na nb
  unfold av
  go_enter Tryz.func74, Tryz.ntmps74
  go_wp2_with fail
  obtain ⟨W, hW⟩ : ∃ W, W = (w.alloc (.cells #[.int .i64 a.h.k, .bool a.h.b, .int .i64 a.h.n, .string a.h.s, .string a.h.t, .string a.h.i, .slice ai a.l.length ci, .slice an a.ns.length cn] 37)).alloc (.cells #[.int .i64 b.h.k, .bool b.h.b, .int .i64 b.h.n, .string b.h.s, .string b.h.t, .string b.h.i, .slice ai' b.l.length ci', .slice an' b.ns.length cn'] 37) := ⟨_, rfl⟩
  have g1 : Gr (w.alloc (.cells #[.int .i64 a.h.k, .bool a.h.b, .int .i64 a.h.n, .string a.h.s, .string a.h.t, .string a.h.i, .slice ai a.l.length ci, .slice an a.ns.length cn] 37)) W := hW ▸ Gr.alloc (Gr.refl _) _
  have g2 : Gr ((w.alloc (.cells #[.int .i64 a.h.k, .bool a.h.b, .int .i64 a.h.n, .string a.h.s, .string a.h.t, .string a.h.i, .slice ai a.l.length ci, .slice an a.ns.length cn] 37)).alloc (.cells #[.int .i64 b.h.k, .bool b.h.b, .int .i64 b.h.n, .string b.h.s, .string b.h.t, .string b.h.i, .slice ai' b.l.length ci', .slice an' b.ns.length cn'] 37)) W := hW ▸ Gr.refl _
  have g0 : Gr w W.drew := ((Gr.alloc (Gr.refl w) _).trans g1).drew
  have G0 := Lib.hid g0
  obtain ⟨a0, a1, a2, a3, a4, a5, a6, a7⟩ := gr_box g1
  have g3 := gr_box g2
  rw [show (w.alloc (.cells #[.int .i64 a.h.k, .bool a.h.b, .int .i64 a.h.n, .string a.h.s, .string a.h.t, .string a.h.i, .slice ai a.l.length ci, .slice an a.ns.length cn] 37)).heap.size = w.heap.size + 1 by simp] at g3
  obtain ⟨b0, b1, b2, b3, b4, b5, b6, b7⟩ := g3
  rw [← hW]
  clear hW g0 g1 g2
  go_region_held3 (fun w' => w'.cell? ⟨w.heap.size, 7, none⟩ = some (.slice an a.ns.length cn) ∧ w'.cell? ⟨w.heap.size + 1, 7, none⟩ = some (.slice an' b.ns.length cn')) (go_keep) (first
    | (go_at_call 100; refine (byName_c _).mono ?_; rintro e w1 ⟨bx, rfl, hb, g⟩; have a0 := g.cell a0; have a1 := g.cell a1; have a2 := g.cell a2; have a3 := g.cell a3; have a4 := g.cell a4; have a5 := g.cell a5; have a6 := g.cell a6; have a7 := g.cell a7; have b0 := g.cell b0; have b1 := g.cell b1; have b2 := g.cell b2; have b3 := g.cell b3; have b4 := g.cell b4; have b5 := g.cell b5; have b6 := g.cell b6; have b7 := g.cell b7; have G1 := Lib.hid (G0.out.trans g).drew; have G2 := Lib.hid (G0.out.trans g))
    | (go_at_call 115; refine (CN.out bx _ _ _ hb (NA.out.low (G0.out.trans g).low) (NB.out.low (G0.out.trans g).low)).mono ?_; rintro e w2 ⟨rfl, rfl⟩))
  by_cases h0 : c = 0
  · subst h0
    clear hb g
    go_wp2_with fail
    go_region_held3 (fun w' => w'.cell? ⟨w.heap.size, 0, none⟩ = some (.int .i64 a.h.k) ∧ w'.cell? ⟨w.heap.size, 1, none⟩ = some (.bool a.h.b) ∧ w'.cell? ⟨w.heap.size, 2, none⟩ = some (.int .i64 a.h.n) ∧ w'.cell? ⟨w.heap.size, 3, none⟩ = some (.string a.h.s) ∧ w'.cell? ⟨w.heap.size, 4, none⟩ = some (.string a.h.t) ∧ w'.cell? ⟨w.heap.size, 5, none⟩ = some (.string a.h.i) ∧ w'.cell? ⟨w.heap.size, 6, none⟩ = some (.slice ai a.l.length ci) ∧ w'.cell? ⟨w.heap.size, 7, none⟩ = some (.slice an a.ns.length cn) ∧ w'.cell? ⟨w.heap.size + 1, 0, none⟩ = some (.int .i64 b.h.k) ∧ w'.cell? ⟨w.heap.size + 1, 1, none⟩ = some (.bool b.h.b) ∧ w'.cell? ⟨w.heap.size + 1, 2, none⟩ = some (.int .i64 b.h.n) ∧ w'.cell? ⟨w.heap.size + 1, 3, none⟩ = some (.string b.h.s) ∧ w'.cell? ⟨w.heap.size + 1, 4, none⟩ = some (.string b.h.t) ∧ w'.cell? ⟨w.heap.size + 1, 5, none⟩ = some (.string b.h.i) ∧ w'.cell? ⟨w.heap.size + 1, 6, none⟩ = some (.slice ai' b.l.length ci') ∧ w'.cell? ⟨w.heap.size + 1, 7, none⟩ = some (.slice an' b.ns.length cn')) (go_keep) (first
      | (go_at_call 73; refine (byItem_c _).mono ?_; rintro e w1 ⟨bx, rfl, hb, g⟩; have a0 := g.cell a0; have a1 := g.cell a1; have a2 := g.cell a2; have a3 := g.cell a3; have a4 := g.cell a4; have a5 := g.cell a5; have a6 := g.cell a6; have a7 := g.cell a7; have b0 := g.cell b0; have b1 := g.cell b1; have b2 := g.cell b2; have b3 := g.cell b3; have b4 := g.cell b4; have b5 := g.cell b5; have b6 := g.cell b6; have b7 := g.cell b7; have G := Lib.hid (G1.out.trans g))
      | (go_at_call_of 101 (Value.slice ai a.l.length ci); refine (CV.out _ (HA.out.low G.out.low)).mono ?_; rintro e w2 ⟨ra, rfl, pa, g⟩; have a0 := g.cell a0; have a1 := g.cell a1; have a2 := g.cell a2; have a3 := g.cell a3; have a4 := g.cell a4; have a5 := g.cell a5; have a6 := g.cell a6; have a7 := g.cell a7; have b0 := g.cell b0; have b1 := g.cell b1; have b2 := g.cell b2; have b3 := g.cell b3; have b4 := g.cell b4; have b5 := g.cell b5; have b6 := g.cell b6; have b7 := g.cell b7; have hb := g.cell hb; have G := Lib.hid (G.out.trans g))
      | (go_at_call_of 101 (Value.slice ai' b.l.length ci'); refine (CV'.out _ (HB.out.low G.out.low)).mono ?_; rintro e w3 ⟨rb, rfl, pb, g⟩; have a0 := g.cell a0; have a1 := g.cell a1; have a2 := g.cell a2; have a3 := g.cell a3; have a4 := g.cell a4; have a5 := g.cell a5; have a6 := g.cell a6; have a7 := g.cell a7; have b0 := g.cell b0; have b1 := g.cell b1; have b2 := g.cell b2; have b3 := g.cell b3; have b4 := g.cell b4; have b5 := g.cell b5; have b6 := g.cell b6; have b7 := g.cell b7; have hb := g.cell hb; have pa := pa.low g.low; have G := Lib.hid (G.out.trans g))
      | (go_at_call 98; refine (CL.out bx _ _ _ hb pa pb).mono ?_; rintro e w4 ⟨rfl, g⟩; have a0 := g.cell a0; have a1 := g.cell a1; have a2 := g.cell a2; have a3 := g.cell a3; have a4 := g.cell a4; have a5 := g.cell a5; have a6 := g.cell a6; have a7 := g.cell a7; have b0 := g.cell b0; have b1 := g.cell b1; have b2 := g.cell b2; have b3 := g.cell b3; have b4 := g.cell b4; have b5 := g.cell b5; have b6 := g.cell b6; have b7 := g.cell b7; have G := Lib.hid (G.out.trans g)))
    all_goals
      go_wp2_with fail
      go_ret
      exact ⟨rfl, G.out⟩
  · have e : orI c r = c := if_neg h0
    have E := Lib.hid e
    clear e
    go_wp2_with fail
    go_ret
    exact ⟨retI E.out, G2.out⟩
end Go.Proofs.YtmkillbanmbafaaGreat
namespace Go.Proofs.YtmkillbanmbafaaGreat
open Go.RowKit Go.Sort
theorem iCmp_c (a b : Int) (w : World) : Calls Tryz.prog 68 #[.int .i64 a, .int .i64 b] w fun e w' => e = .returned (.int .i64 (cmpI a b)) ∧ w = w' :=
  (Tryz.cmp_Compare_int a b w).mono fun _ _ ⟨h, k⟩ => ⟨h, k.symm⟩
theorem i64Cmp_c (a b : Int) (w : World) : Calls Tryz.prog 70 #[.int .i64 a, .int .i64 b] w fun e w' => e = .returned (.int .i64 (cmpI a b)) ∧ w = w' :=
  (Tryz.cmp_Compare_int_f70 a b w).mono fun _ _ ⟨h, k⟩ => ⟨h, k.symm⟩
set_option maxHeartbeats 4000000 in
theorem order_n (n : Nat) : ∀ a b : V, dep a ≤ n → OrdC 48 a b := by
  induction n with
  | zero => intro a b h; rw [dep_v] at h; omega
  | succ n ih =>
    intro a b hd w it nm it' nm' ha hb
    have ih' : ∀ x ∈ a.l, ∀ y ∈ b.l, OrdC 48 x y := fun x hx y _ => ih x y (by have := dep_mem hx; rw [dep_v] at hd; omega)
    obtain ⟨ai, ci, an, cn, rfl, rfl⟩ := r_slices ha
    obtain ⟨ai', ci', an', cn', rfl, rfl⟩ := r_slices hb
    obtain ⟨r, hr⟩ : ∃ r, r = ord a b := ⟨_, rfl⟩
    have hr2 := hr
    rw [ord_eq] at hr2
    rw [← hr]
    clear hr
    have CR := Lib.hid (recs_c a b ih')
    have CL := Lib.hid (cloV_c a.l b.l ih')
    have ra : Ro w a.l (.slice ai a.l.length ci) := (rep_v.1 ha).2.2
    have rb : Ro w b.l (.slice ai' b.l.length ci') := (rep_v.1 hb).2.2
    generalize ordL a.l b.l = rl at hr2 CL
    generalize orI (cmpN a.ns b.ns) (ordL a.named b.named) = rr at hr2 CR
    have RA := Lib.hid ra
    have RB := Lib.hid rb
    have HA := Lib.hid ha
    have HB := Lib.hid hb
    clear ra rb ha hb ih ih' hd
    generalize a.l.length = la at *
    generalize b.l.length = lb at *
    generalize a.ns.length = na at *
    generalize b.ns.length = nb at *
    unfold av
    by_cases hk : a.h.k = b.h.k
    · rw [if_pos hk] at hr2
      by_cases k1 : a.h.k = 1
      · rw [if_pos k1] at hr2
        have kb : b.h.k = 1 := hk ▸ k1
        have HR := Lib.hid hr2
        clear hr2 hk
        rw [k1, kb]
        clear k1 kb
        go_enter Tryz.func48, Tryz.ntmps48
        go_wp2_with fail
        refine (truths_c a.h.b b.h.b _).mono ?_
        rintro e w' ⟨rfl, rfl⟩
        go_wp2_with fail
        go_ret
        exact ⟨retI HR.out, Gr.alloc (Gr.alloc (Gr.refl w) _) _⟩
      rw [if_neg k1] at hr2
      by_cases k2 : a.h.k = 2
      · rw [if_pos k2] at hr2
        have kb : b.h.k = 2 := hk ▸ k2
        have HR := Lib.hid hr2
        clear hr2 hk
        rw [k2, kb]
        clear k2 kb
        go_enter Tryz.func48, Tryz.ntmps48
        go_wp2_with fail
        refine (i64Cmp_c a.h.n b.h.n _).mono ?_
        rintro e w' ⟨rfl, rfl⟩
        go_wp2_with fail
        go_ret
        exact ⟨retI HR.out, Gr.alloc (Gr.alloc (Gr.refl w) _) _⟩
      rw [if_neg k2] at hr2
      by_cases k3 : a.h.k = 3
      · rw [if_pos k3] at hr2
        have kb : b.h.k = 3 := hk ▸ k3
        have HR := Lib.hid hr2
        clear hr2 hk
        rw [k3, kb]
        clear k3 kb
        go_enter Tryz.func48, Tryz.ntmps48
        go_wp2_with fail
        refine (sCmp_c a.h.s b.h.s _).mono ?_
        rintro e w' ⟨rfl, rfl⟩
        go_wp2_with fail
        go_ret
        exact ⟨retI HR.out, Gr.alloc (Gr.alloc (Gr.refl w) _) _⟩
      rw [if_neg k3] at hr2
      by_cases k4 : a.h.k = 4
      · rw [if_pos k4] at hr2
        have kb : b.h.k = 4 := hk ▸ k4
        have HR := Lib.hid hr2
        clear hr2 hk
        rw [k4, kb]
        clear k4 kb
        go_enter Tryz.func48, Tryz.ntmps48
        go_wp2_with fail
        refine (uids_c a.h.t a.h.i b.h.t b.h.i _).mono ?_
        rintro e w' ⟨rfl, g⟩
        go_wp2_with fail
        go_ret
        exact ⟨retI HR.out, (Gr.alloc (Gr.alloc (Gr.refl w) _) _).trans g⟩
      rw [if_neg k4] at hr2
      by_cases k5 : a.h.k = 5
      · rw [if_pos k5] at hr2
        have kb : b.h.k = 5 := hk ▸ k5
        have HR := Lib.hid hr2
        clear hr2 hk
        rw [k5, kb]
        clear k5 kb
        go_enter Tryz.func48, Tryz.ntmps48
        go_wp2_with fail
        obtain ⟨W, hW⟩ : ∃ W, W = (w.alloc (.cells #[.int .i64 5, .bool a.h.b, .int .i64 a.h.n, .string a.h.s, .string a.h.t, .string a.h.i, .slice ai la ci, .slice an na cn] 37)).alloc (.cells #[.int .i64 5, .bool b.h.b, .int .i64 b.h.n, .string b.h.s, .string b.h.t, .string b.h.i, .slice ai' lb ci', .slice an' nb cn'] 37) := ⟨_, rfl⟩
        have g1 : Gr (w.alloc (.cells #[.int .i64 5, .bool a.h.b, .int .i64 a.h.n, .string a.h.s, .string a.h.t, .string a.h.i, .slice ai la ci, .slice an na cn] 37)) W := hW ▸ Gr.alloc (Gr.refl _) _
        have g2 : Gr ((w.alloc (.cells #[.int .i64 5, .bool a.h.b, .int .i64 a.h.n, .string a.h.s, .string a.h.t, .string a.h.i, .slice ai la ci, .slice an na cn] 37)).alloc (.cells #[.int .i64 5, .bool b.h.b, .int .i64 b.h.n, .string b.h.s, .string b.h.t, .string b.h.i, .slice ai' lb ci', .slice an' nb cn'] 37)) W := hW ▸ Gr.refl _
        have G0 := Lib.hid (((Gr.alloc (Gr.refl w) _).trans g1).drew)
        have a6 := (gr_box g1).2.2.2.2.2.2.1
        have b6 := (gr_box g2).2.2.2.2.2.2.1
        rw [show (w.alloc (.cells #[.int .i64 5, .bool a.h.b, .int .i64 a.h.n, .string a.h.s, .string a.h.t, .string a.h.i, .slice ai la ci, .slice an na cn] 37)).heap.size = w.heap.size + 1 by simp] at b6
        rw [← hW]
        clear hW g1 g2
        go_region_held3 (fun w' => w'.cell? ⟨w.heap.size, 6, none⟩ = some (.slice ai la ci) ∧ w'.cell? ⟨w.heap.size + 1, 6, none⟩ = some (.slice ai' lb ci')) (go_keep) (first
          | (go_at_call 73; refine (byItem_c _).mono ?_; rintro e w1 ⟨bx, rfl, hb, g⟩; have a6 := g.cell a6; have b6 := g.cell b6; have G := Lib.hid (G0.out.trans g))
          | (go_at_call 98; refine (CL.out bx _ _ _ hb (RA.out.low G.out.low) (RB.out.low G.out.low)).mono ?_; rintro e w2 ⟨rfl, g⟩; have a6 := g.cell a6; have b6 := g.cell b6; have G := Lib.hid (G.out.trans g)))
        all_goals
          go_wp2_with fail
          go_ret
          exact ⟨retI HR.out, G.out⟩
      rw [if_neg k5] at hr2
      by_cases k6 : a.h.k = 6
      · rw [if_pos k6] at hr2
        have kb : b.h.k = 6 := hk ▸ k6
        have HR := Lib.hid hr2
        have hcon := CR.out _ _ _ _ _ (HA.out.low (Gr.alloc (Gr.alloc (Gr.refl w) _) _ : Gr w ((w.alloc (.cells #[.int .i64 6, .bool a.h.b, .int .i64 a.h.n, .string a.h.s, .string a.h.t, .string a.h.i, .slice ai la ci, .slice an na cn] 37)).alloc (.cells #[.int .i64 6, .bool b.h.b, .int .i64 b.h.n, .string b.h.s, .string b.h.t, .string b.h.i, .slice ai' lb ci', .slice an' nb cn'] 37))).low) (HB.out.low (Gr.alloc (Gr.alloc (Gr.refl w) _) _ : Gr w ((w.alloc (.cells #[.int .i64 6, .bool a.h.b, .int .i64 a.h.n, .string a.h.s, .string a.h.t, .string a.h.i, .slice ai la ci, .slice an na cn] 37)).alloc (.cells #[.int .i64 6, .bool b.h.b, .int .i64 b.h.n, .string b.h.s, .string b.h.t, .string b.h.i, .slice ai' lb ci', .slice an' nb cn'] 37))).low)
        unfold av at hcon
        rw [k6, kb] at hcon
        have HC := Lib.hid hcon
        clear hr2 hk hcon
        rw [k6, kb]
        clear k6 kb
        go_enter Tryz.func48, Tryz.ntmps48
        go_wp2_with fail
        refine HC.out.mono ?_
        rintro e w' ⟨rfl, g⟩
        go_wp2_with fail
        go_ret
        exact ⟨retI HR.out, (Gr.alloc (Gr.alloc (Gr.refl w) _) _).trans g⟩
      · rw [if_neg k6] at hr2
        subst hr2
        go_enter Tryz.func48, Tryz.ntmps48
        go_wp2_with fail
        go_ret
        exact ⟨rfl, Gr.alloc (Gr.alloc (Gr.refl w) _) _⟩
    · rw [if_neg hk] at hr2
      have HR := Lib.hid hr2
      clear hr2
      go_enter Tryz.func48, Tryz.ntmps48
      go_wp2_with fail
      refine (iCmp_c a.h.k b.h.k _).mono ?_
      rintro e w' ⟨rfl, rfl⟩
      go_wp2_with fail
      go_ret
      exact ⟨retI HR.out, Gr.alloc (Gr.alloc (Gr.refl w) _) _⟩
theorem order_c (a b : V) : OrdC 48 a b := order_n (dep a) a b (Nat.le_refl _)
end Go.Proofs.YtmkillbanmbafaaGreat
