/- The order of truths, of entities' names, of rows of names. No condition. The order of rows of names; the order handed on as a function value in a closure; a record's items that have a name. No condition. The order of values, as the program has it, is the order by definition. No condition. Order is the order by definition. No condition. The reference's order of numbers, of texts, of names. Condition: the length that any text has. The reference's order of values is the order by definition. No condition. -/
import Derived.Test.YtnenjgngahipdaaGreatZg03
import Derived.Test.YtnenjgngahipdaaGreatShelf
import Derived.Deep.RegionHeld3
import Derived.Deep.RegionWith
import Derived.BigQuiet
set_option linter.unusedVariables false
set_option linter.unusedSimpArgs false
set_option linter.unnecessarySimpa false
namespace Go.Proofs.YtnenjgngahipdaaGreat
open Go.RowKit Go.Sort
theorem truths_c (a b : Bool) (w : World) : Calls Tryz.prog 143 #[.bool a, .bool b] w fun e w' => e = .returned (.int .i64 (cmpBv a b)) ∧ w = w' := by
  cases a <;> cases b
  all_goals
    go_enter Tryz.func143, Tryz.ntmps143
    go_wp2_with fail
    go_ret
    exact ⟨rfl, rfl⟩
theorem sCmp_c (a b : ByteArray) (w : World) : Calls Tryz.prog 145 #[.string a, .string b] w fun e w' => e = .returned (.int .i64 (cmpT a b)) ∧ w = w' :=
  (Tryz.strings_Compare a b w).mono fun _ _ ⟨h, k⟩ => ⟨h, k.symm⟩
set_option maxHeartbeats 800000 in
theorem or_c (a b : Int) (bk cap : Nat) (w : World) (h0 : w.cell? ⟨bk, 0, none⟩ = some (.int .i64 a)) (h1 : w.cell? ⟨bk, 1, none⟩ = some (.int .i64 b)) :
    Calls Tryz.prog 170 #[.slice (some ⟨bk, 0, none⟩) 2 cap] w fun e w' => e = .returned (.int .i64 (orI a b)) ∧ w = w' := by
  by_cases ha : a = 0
  · subst ha
    by_cases hb : b = 0
    · subst hb
      go_enter Tryz.func170, Tryz.ntmps170
      go_wp2_with fail
      refine wp_loop_rounds 3 ?_
      rw [rounds_succ]; go_wp2_with fail
      rw [rounds_succ]; go_wp2_with fail
      rw [rounds_succ]; go_wp2_with fail
      go_ret
      exact ⟨rfl, rfl⟩
    · go_enter Tryz.func170, Tryz.ntmps170
      go_wp2_with fail
      refine wp_loop_rounds 3 ?_
      rw [rounds_succ]; go_wp2_with fail
      rw [rounds_succ]; go_wp2_with fail
      go_ret
      exact ⟨rfl, rfl⟩
  · have hr : orI a b = a := if_neg ha
    rw [hr]
    clear hr
    go_enter Tryz.func170, Tryz.ntmps170
    go_wp2_with fail
    refine wp_loop_rounds 3 ?_
    rw [rounds_succ]; go_wp2_with fail
    go_ret
    exact ⟨rfl, rfl⟩
set_option maxHeartbeats 1600000 in
theorem uids_c (t i t' i' : ByteArray) (w : World) : Calls Tryz.prog 146 #[.agg #[.string t, .string i], .agg #[.string t', .string i']] w fun e w' => e = .returned (.int .i64 (orI (cmpT t t') (cmpT i i'))) ∧ Gr w w' := by
  obtain ⟨x, hx⟩ : ∃ x, x = cmpT t t' := ⟨_, rfl⟩
  obtain ⟨y, hy⟩ : ∃ y, y = cmpT i i' := ⟨_, rfl⟩
  have c1 : ∀ w, Calls Tryz.prog 145 #[.string t, .string t'] w fun e w' => e = .returned (.int .i64 x) ∧ w = w' := fun w => by rw [hx]; exact sCmp_c t t' w
  have c2 : ∀ w, Calls Tryz.prog 145 #[.string i, .string i'] w fun e w' => e = .returned (.int .i64 y) ∧ w = w' := fun w => by rw [hy]; exact sCmp_c i i' w
  rw [← hx, ← hy]
  have C1 := Lib.hid c1
  have C2 := Lib.hid c2
  have c3 : ∀ (W : World) (bk c : Nat) (tt : TypeId), W.heap.size = bk → Calls Tryz.prog 170 #[.slice (some ⟨bk, 0, none⟩) 2 c] (W.alloc (.cells #[.int .i64 x, .int .i64 y] tt)).drew fun e w' => e = .returned (.int .i64 (orI x y)) ∧ (W.alloc (.cells #[.int .i64 x, .int .i64 y] tt)).drew = w' :=
    fun W bk c tt hb => by
      subst hb
      refine or_c x y _ c _ ?_ ?_
      · show (W.alloc _).cell? _ = _
        rw [World.cell?_alloc_mark]; rfl
      · show (W.alloc _).cell? _ = _
        rw [World.cell?_alloc_mark]; rfl
  have C3 := Lib.hid c3
  clear hx hy c1 c2 c3
  go_enter Tryz.func146, Tryz.ntmps146
  go_wp2_with fail
  obtain ⟨W, hW⟩ : ∃ W, W = (w.alloc (.cells #[.string t, .string i] 23)).alloc (.cells #[.string t', .string i'] 23) := ⟨_, rfl⟩
  have g0 : Gr w W := hW ▸ Gr.alloc (Gr.alloc (Gr.refl w) _) _
  have a0 : W.cell? ⟨w.heap.size, 0, none⟩ = some (.string t) := by rw [hW]; simp [go_sem]
  have a1 : W.cell? ⟨w.heap.size, 1, none⟩ = some (.string i) := by rw [hW]; simp [go_sem]
  have b0 : W.cell? ⟨w.heap.size + 1, 0, none⟩ = some (.string t') := by rw [hW]; simp [go_sem]
  have b1 : W.cell? ⟨w.heap.size + 1, 1, none⟩ = some (.string i') := by rw [hW]; simp [go_sem]
  rw [← hW]
  clear hW
  have G0 := Lib.hid g0
  clear g0
  go_region_held3 (fun w' => w'.cell? ⟨w.heap.size, 0, none⟩ = some (.string t) ∧ w'.cell? ⟨w.heap.size, 1, none⟩ = some (.string i) ∧ w'.cell? ⟨w.heap.size + 1, 0, none⟩ = some (.string t') ∧ w'.cell? ⟨w.heap.size + 1, 1, none⟩ = some (.string i')) (go_keep) (first | (go_at_call_of 145 (Value.string t); refine (C1.out _).mono ?_; rintro e w' ⟨rfl, rfl⟩) | (go_at_call_of 145 (Value.string i); refine (C2.out _).mono ?_; rintro e w' ⟨rfl, rfl⟩) | (go_at_call 170; refine (C3.out _ _ _ _ rfl).mono ?_; rintro e w' ⟨rfl, rfl⟩))
  all_goals
    go_wp2_with fail
    go_ret
    exact ⟨rfl, by first | exact Gr.alloc (Gr.drew G0.out) _ | exact Gr.drew (Gr.alloc G0.out _)⟩
end Go.Proofs.YtnenjgngahipdaaGreat
namespace Go.Proofs.YtnenjgngahipdaaGreat
open Go.RowKit Go.Sort
def Na (w : World) (ns : List ByteArray) (nm : Value) : Prop := NamesAt (fun _ => True) w ns nm
theorem Na.low {w w' : World} {l : List ByteArray} {it : Value} (hr : Na w l it) (h : Low w w') : Na w' l it := NamesAt.low hr h
theorem na_at {w : World} {l : List ByteArray} {ao : Option Addr} {n cap i : Nat} (hr : Na w l (.slice ao n cap)) (hi : i < l.length) : ∃ b o, ao = some ⟨b, o, none⟩ ∧ w.cell? ⟨b, o + i, none⟩ = some (.string l[i]) ∧ l[i].size ≤ 9223372036854775807 := by
  obtain ⟨ai, ci, he, hli, hs, hx⟩ := hr
  simp only [Value.slice.injEq] at he
  obtain ⟨rfl, rfl, rfl⟩ := he
  rcases hx with h0 | ⟨b, o, rfl, ha, hf⟩
  · rw [h0] at hi; exact absurd hi (Nat.not_lt_zero _)
  · exact ⟨b, o, rfl, hf i hi, hs _ (List.getElem_mem hi)⟩
theorem cmpN_cons (x y : ByteArray) (l m : List ByteArray) : cmpN (x :: l) (y :: m) = orI (cmpT x y) (cmpN l m) := rfl
set_option maxHeartbeats 1600000 in
theorem cmpNm_c (l m : List ByteArray) (w : World) (it it' : Value) (hl : Na w l it) (hm : Na w m it') :
    Calls Tryz.prog 190 #[it, it', .func (.func 145) #[] #[]] w fun e w' => e = .returned (.int .i64 (cmpN l m)) ∧ w = w' := by
  obtain ⟨al, cl, rfl, zl, -⟩ := id hl
  obtain ⟨am, cm, rfl, zm, -⟩ := id hm
  have HL := Lib.hid hl
  have HM := Lib.hid hm
  clear hl hm
  obtain ⟨r, hr⟩ : ∃ r, r = cmpN l m := ⟨_, rfl⟩
  have HR := Lib.hid hr
  rw [← hr]
  clear hr
  go_enter Tryz.func190, Tryz.ntmps190
  go_wp2_with fail
  go_loopg [13] l.length (fun gk vi wr => ∃ i : Nat, vi = .int .i64 (i : Int) ∧ i ≤ l.length ∧ i ≤ m.length ∧ l.length - i ≤ gk ∧ Hid (w = wr) ∧ Hid (r = cmpN (l.drop i) (m.drop i)))
  case atStart => exact ⟨0, rfl, Nat.zero_le _, Nat.zero_le _, Nat.le_refl _, rfl, HR⟩
  case round =>
    obtain ⟨i, rfl, hi, hi', hg, G, K⟩ := hrel
    have G' : w = wr := G
    subst G'
    by_cases hlt : i < l.length
    · have z1 : (i : Int) < (l.length : Int) := by omega
      obtain ⟨b, o, rfl, hc, -⟩ := na_at HL.out hlt
      by_cases hlm : i < m.length
      · have z2 : (i : Int) < (m.length : Int) := by omega
        obtain ⟨b', o', rfl, hc', -⟩ := na_at HM.out hlm
        obtain ⟨c, hcc⟩ : ∃ c, c = cmpT l[i] m[i] := ⟨_, rfl⟩
        have hst : r = orI c (cmpN (l.drop (i + 1)) (m.drop (i + 1))) := by rw [hcc, ← cmpN_cons, ← drop_consv hlt, ← drop_consv hlm]; exact K.out
        have hcon := sCmp_c l[i] m[i] w
        rw [← hcc] at hcon
        have HC := Lib.hid hcon
        have HS := Lib.hid hst
        clear hst hcon hcc
        go_wp2_with fail
        refine HC.out.mono ?_
        rintro e w' ⟨rfl, rfl⟩
        by_cases h0 : c = 0
        · subst h0
          have HS' : Hid (r = cmpN (l.drop (i + 1)) (m.drop (i + 1))) := HS
          go_wp2_with fail
          go_roundg (l.length - (i + 1))
          case measure => omega
          case rel => exact ⟨i + 1, by go_num, by omega, by omega, by omega, rfl, HS'⟩
        · have hr : r = c := by rw [HS.out, orI, if_neg h0]
          go_wp2_with fail
          go_ret
          exact ⟨retIv hr, rfl⟩
      · have z2 : ¬ (i : Int) < (m.length : Int) := by omega
        have hr : r = 1 := by
          rw [K.out, drop_consv hlt, List.drop_eq_nil_of_le (show m.length ≤ i by omega)]; rfl
        have HQ := Lib.hid hr
        clear hr
        go_wp2_with fail
        go_ret
        exact ⟨retIv HQ.out, rfl⟩
    · have z1 : ¬ (i : Int) < (l.length : Int) := by omega
      by_cases hlm : l.length < m.length
      · have z2 : (l.length : Int) < (m.length : Int) := by omega
        have hr : r = -1 := by
          rw [K.out, List.drop_eq_nil_of_le (show l.length ≤ i by omega), drop_consv (show i < m.length by omega)]; rfl
        have HQ := Lib.hid hr
        clear hr
        go_wp2_with fail
        go_ret
        exact ⟨retIv HQ.out, rfl⟩
      · have z2 : ¬ (l.length : Int) < (m.length : Int) := by omega
        have hr : r = 0 := by
          rw [K.out, List.drop_eq_nil_of_le (show l.length ≤ i by omega), List.drop_eq_nil_of_le (show m.length ≤ i by omega)]; rfl
        have HQ := Lib.hid hr
        clear hr
        go_wp2_with fail
        go_ret
        exact ⟨retIv HQ.out, rfl⟩
/-! ### The closures -/
def ordV : Value := .func (.func 111) #[] #[]
def cmpV : Value := .func (.func 145) #[] #[]
theorem byItem_c (w : World) : Calls Tryz.prog 147 #[ordV] w fun e w' => ∃ bx, e = .returned (.func (.func 171) #[] #[.pointer (some ⟨bx, 0, none⟩)]) ∧ w'.cell? ⟨bx, 0, none⟩ = some ordV ∧ Gr w w' := by
  unfold ordV
  go_enter Tryz.func147, Tryz.ntmps147
  go_wp2_with fail
  go_ret
  exact ⟨_, rfl, by simp [go_sem], Gr.alloc (Gr.refl w) _⟩
theorem byName_c (w : World) : Calls Tryz.prog 173 #[cmpV] w fun e w' => ∃ bx, e = .returned (.func (.func 189) #[] #[.pointer (some ⟨bx, 0, none⟩)]) ∧ w'.cell? ⟨bx, 0, none⟩ = some cmpV ∧ Gr w w' := by
  unfold cmpV
  go_enter Tryz.func173, Tryz.ntmps173
  go_wp2_with fail
  go_ret
  exact ⟨_, rfl, by simp [go_sem], Gr.alloc (Gr.refl w) _⟩
theorem cloV_c (l m : List V) (ih : ∀ x ∈ l, ∀ y ∈ m, OrdC 111 x y) (bx : Nat) (w : World) (it it' : Value) (hb : w.cell? ⟨bx, 0, none⟩ = some ordV) (hl : Ro w l it) (hm : Ro w m it') :
    Calls Tryz.prog 171 #[it, it', .pointer (some ⟨bx, 0, none⟩)] w fun e w' => e = .returned (.int .i64 (ordL l m)) ∧ Gr w w' := by
  unfold ordV at hb
  have HC := Lib.hid (cmpF_c l m ih w it it' hl hm)
  clear ih hl hm
  generalize ordL l m = r at HC ⊢
  go_enter Tryz.func171, Tryz.ntmps171
  go_wp2_with fail
  refine HC.out.mono ?_
  rintro e w' ⟨rfl, g⟩
  go_wp2_with fail
  go_ret
  exact ⟨rfl, g⟩
theorem cloN_c (l m : List ByteArray) (bx : Nat) (w : World) (it it' : Value) (hb : w.cell? ⟨bx, 0, none⟩ = some cmpV) (hl : Na w l it) (hm : Na w m it') :
    Calls Tryz.prog 189 #[it, it', .pointer (some ⟨bx, 0, none⟩)] w fun e w' => e = .returned (.int .i64 (cmpN l m)) ∧ w = w' := by
  unfold cmpV at hb
  have HC := Lib.hid (cmpNm_c l m w it it' hl hm)
  clear hl hm
  generalize cmpN l m = r at HC ⊢
  go_enter Tryz.func189, Tryz.ntmps189
  go_wp2_with fail
  refine HC.out.mono ?_
  rintro e w' ⟨rfl, rfl⟩
  go_wp2_with fail
  go_ret
  exact ⟨rfl, rfl⟩
end Go.Proofs.YtnenjgngahipdaaGreat
namespace Go.Proofs.YtnenjgngahipdaaGreat
open Go.RowKit Go.Sort
theorem repF_take {A : Nat → Prop} {w : World} {b : Nat} : ∀ {l : List V} {o : Nat} (k : Nat), RepF A w b o l → RepF A w b o (l.take k)
  | [], _, k, h => by simpa using h
  | x :: l, o, 0, h => by rw [List.take_zero, RepF]; trivial
  | x :: l, o, k + 1, h => by
    rw [List.take_succ_cons]
    rw [RepF] at h ⊢
    exact ⟨h.1, repF_take k h.2⟩
/-- The first k of a row. -/
theorem ro_take {w : World} {l : List V} {ao : Option Addr} {n cap k : Nat} (h : Ro w l (.slice ao n cap)) (hk : k ≤ l.length) : Ro w (l.take k) (.slice ao k cap) := by
  obtain ⟨ai, ci, he, ⟨h1, h2⟩, hx⟩ := h
  simp only [Value.slice.injEq] at he
  obtain ⟨rfl, rfl, rfl⟩ := he
  refine ⟨ao, cap, by rw [List.length_take, Nat.min_eq_left hk], ⟨by rw [List.length_take]; omega, h2⟩, ?_⟩
  rcases hx with h0 | ⟨b, o, rfl, ha, hf⟩
  · exact .inl (by rw [h0]; simp)
  · exact .inr ⟨b, o, rfl, ha, repF_take k hf⟩
/-- What a call answers that tells a row. -/
def RowP (l : List V) (w : World) (e : Ending) (w' : World) : Prop := ∃ it, e = .returned it ∧ Ro w' l it ∧ Gr w w'
set_option maxHeartbeats 800000 in
theorem named_c (v : V) (w : World) (it nm : Value) (hr : R w v it nm) : Calls Tryz.prog 174 #[avv v.h it nm] w (RowP v.named w) := by
  obtain ⟨-, ⟨an, cn, rfl, zn, -⟩, hro⟩ := rep_v.1 hr
  obtain ⟨ai, ci, rfl, ⟨zl, zc⟩, -⟩ := id hro
  have HR := Lib.hid hro
  clear hr hro
  have z1 : (v.l.length : Int) ≤ ci := by omega
  unfold avv
  go_enter Tryz.func174, Tryz.ntmps174
  go_wp2_with fail
  go_ret
  refine ⟨_, rfl, ?_, Gr.alloc (Gr.refl w) _⟩
  have e : (min (v.ns.length : Int) (v.l.length : Int)).toNat = min v.ns.length v.l.length := by omega
  show Ro _ _ (.slice ai (min (v.ns.length : Int) (v.l.length : Int)).toNat ci)
  rw [e]
  exact (ro_take HR.out (Nat.min_le_right _ _)).low (Gr.alloc (Gr.refl w) _).low
theorem mem_named {v : V} {x : V} (h : x ∈ v.named) : x ∈ v.l := List.mem_of_mem_take h
set_option maxHeartbeats 2000000 in
theorem recs_c (a b : V) (ih : ∀ x ∈ a.l, ∀ y ∈ b.l, OrdC 111 x y) (w : World) (it nm it' nm' : Value) (ha : R w a it nm) (hb : R w b it' nm') :
    Calls Tryz.prog 148 #[avv a.h it nm, avv b.h it' nm'] w fun e w' => e = .returned (.int .i64 (orI (cmpN a.ns b.ns) (ordL a.named b.named))) ∧ Gr w w' := by
  obtain ⟨ai, ci, an, cn, rfl, rfl⟩ := r_slices ha
  obtain ⟨ai', ci', an', cn', rfl, rfl⟩ := r_slices hb
  have na : Na w a.ns (.slice an a.ns.length cn) := (rep_v.1 ha).2.1
  have nb : Na w b.ns (.slice an' b.ns.length cn') := (rep_v.1 hb).2.1
  have CV := Lib.hid fun (W : World) => named_c a W (.slice ai a.l.length ci) (.slice an a.ns.length cn)
  have CV' := Lib.hid fun (W : World) => named_c b W (.slice ai' b.l.length ci') (.slice an' b.ns.length cn')
  have CL := Lib.hid (cloV_c a.named b.named fun x hx y hy => ih x (mem_named hx) y (mem_named hy))
  have CN := Lib.hid (cloN_c a.ns b.ns)
  generalize ordL a.named b.named = r at CL ⊢
  generalize cmpN a.ns b.ns = c at CN ⊢
  have HA := Lib.hid ha
  have HB := Lib.hid hb
  have NA := Lib.hid na
  have NB := Lib.hid nb
  clear ha hb ih na nb
  unfold avv
  go_enter Tryz.func148, Tryz.ntmps148
  go_wp2_with fail
  obtain ⟨W, hW⟩ : ∃ W, W = (w.alloc (.cells #[.int .i64 a.h.k, .bool a.h.b, .int .i64 a.h.n, .string a.h.s, .string a.h.t, .string a.h.i, .slice ai a.l.length ci, .slice an a.ns.length cn] 27)).alloc (.cells #[.int .i64 b.h.k, .bool b.h.b, .int .i64 b.h.n, .string b.h.s, .string b.h.t, .string b.h.i, .slice ai' b.l.length ci', .slice an' b.ns.length cn'] 27) := ⟨_, rfl⟩
  have g1 : Gr (w.alloc (.cells #[.int .i64 a.h.k, .bool a.h.b, .int .i64 a.h.n, .string a.h.s, .string a.h.t, .string a.h.i, .slice ai a.l.length ci, .slice an a.ns.length cn] 27)) W := hW ▸ Gr.alloc (Gr.refl _) _
  have g2 : Gr ((w.alloc (.cells #[.int .i64 a.h.k, .bool a.h.b, .int .i64 a.h.n, .string a.h.s, .string a.h.t, .string a.h.i, .slice ai a.l.length ci, .slice an a.ns.length cn] 27)).alloc (.cells #[.int .i64 b.h.k, .bool b.h.b, .int .i64 b.h.n, .string b.h.s, .string b.h.t, .string b.h.i, .slice ai' b.l.length ci', .slice an' b.ns.length cn'] 27)) W := hW ▸ Gr.refl _
  have g0 : Gr w W.drew := ((Gr.alloc (Gr.refl w) _).trans g1).drew
  have G0 := Lib.hid g0
  obtain ⟨a0, a1, a2, a3, a4, a5, a6, a7⟩ := gr_box g1
  have g3 := gr_box g2
  rw [show (w.alloc (.cells #[.int .i64 a.h.k, .bool a.h.b, .int .i64 a.h.n, .string a.h.s, .string a.h.t, .string a.h.i, .slice ai a.l.length ci, .slice an a.ns.length cn] 27)).heap.size = w.heap.size + 1 by simp] at g3
  obtain ⟨b0, b1, b2, b3, b4, b5, b6, b7⟩ := g3
  rw [← hW]
  clear hW g0 g1 g2
  go_region_held3 (fun w' => w'.cell? ⟨w.heap.size, 7, none⟩ = some (.slice an a.ns.length cn) ∧ w'.cell? ⟨w.heap.size + 1, 7, none⟩ = some (.slice an' b.ns.length cn')) (go_keep) (first
    | (go_at_call 173; refine (byName_c _).mono ?_; rintro e w1 ⟨bx, rfl, hb, g⟩; have a0 := g.cell a0; have a1 := g.cell a1; have a2 := g.cell a2; have a3 := g.cell a3; have a4 := g.cell a4; have a5 := g.cell a5; have a6 := g.cell a6; have a7 := g.cell a7; have b0 := g.cell b0; have b1 := g.cell b1; have b2 := g.cell b2; have b3 := g.cell b3; have b4 := g.cell b4; have b5 := g.cell b5; have b6 := g.cell b6; have b7 := g.cell b7; have G1 := Lib.hid (G0.out.trans g).drew; have G2 := Lib.hid (G0.out.trans g))
    | (go_at_call 189; refine (CN.out bx _ _ _ hb (NA.out.low (G0.out.trans g).low) (NB.out.low (G0.out.trans g).low)).mono ?_; rintro e w2 ⟨rfl, rfl⟩))
  by_cases h0 : c = 0
  · subst h0
    clear hb g
    go_wp2_with fail
    go_region_held3 (fun w' => w'.cell? ⟨w.heap.size, 0, none⟩ = some (.int .i64 a.h.k) ∧ w'.cell? ⟨w.heap.size, 1, none⟩ = some (.bool a.h.b) ∧ w'.cell? ⟨w.heap.size, 2, none⟩ = some (.int .i64 a.h.n) ∧ w'.cell? ⟨w.heap.size, 3, none⟩ = some (.string a.h.s) ∧ w'.cell? ⟨w.heap.size, 4, none⟩ = some (.string a.h.t) ∧ w'.cell? ⟨w.heap.size, 5, none⟩ = some (.string a.h.i) ∧ w'.cell? ⟨w.heap.size, 6, none⟩ = some (.slice ai a.l.length ci) ∧ w'.cell? ⟨w.heap.size, 7, none⟩ = some (.slice an a.ns.length cn) ∧ w'.cell? ⟨w.heap.size + 1, 0, none⟩ = some (.int .i64 b.h.k) ∧ w'.cell? ⟨w.heap.size + 1, 1, none⟩ = some (.bool b.h.b) ∧ w'.cell? ⟨w.heap.size + 1, 2, none⟩ = some (.int .i64 b.h.n) ∧ w'.cell? ⟨w.heap.size + 1, 3, none⟩ = some (.string b.h.s) ∧ w'.cell? ⟨w.heap.size + 1, 4, none⟩ = some (.string b.h.t) ∧ w'.cell? ⟨w.heap.size + 1, 5, none⟩ = some (.string b.h.i) ∧ w'.cell? ⟨w.heap.size + 1, 6, none⟩ = some (.slice ai' b.l.length ci') ∧ w'.cell? ⟨w.heap.size + 1, 7, none⟩ = some (.slice an' b.ns.length cn')) (go_keep) (first
      | (go_at_call 147; refine (byItem_c _).mono ?_; rintro e w1 ⟨bx, rfl, hb, g⟩; have a0 := g.cell a0; have a1 := g.cell a1; have a2 := g.cell a2; have a3 := g.cell a3; have a4 := g.cell a4; have a5 := g.cell a5; have a6 := g.cell a6; have a7 := g.cell a7; have b0 := g.cell b0; have b1 := g.cell b1; have b2 := g.cell b2; have b3 := g.cell b3; have b4 := g.cell b4; have b5 := g.cell b5; have b6 := g.cell b6; have b7 := g.cell b7; have G := Lib.hid (G1.out.trans g))
      | (go_at_call_of 174 (Value.slice ai a.l.length ci); refine (CV.out _ (HA.out.low G.out.low)).mono ?_; rintro e w2 ⟨ra, rfl, pa, g⟩; have a0 := g.cell a0; have a1 := g.cell a1; have a2 := g.cell a2; have a3 := g.cell a3; have a4 := g.cell a4; have a5 := g.cell a5; have a6 := g.cell a6; have a7 := g.cell a7; have b0 := g.cell b0; have b1 := g.cell b1; have b2 := g.cell b2; have b3 := g.cell b3; have b4 := g.cell b4; have b5 := g.cell b5; have b6 := g.cell b6; have b7 := g.cell b7; have hb := g.cell hb; have G := Lib.hid (G.out.trans g))
      | (go_at_call_of 174 (Value.slice ai' b.l.length ci'); refine (CV'.out _ (HB.out.low G.out.low)).mono ?_; rintro e w3 ⟨rb, rfl, pb, g⟩; have a0 := g.cell a0; have a1 := g.cell a1; have a2 := g.cell a2; have a3 := g.cell a3; have a4 := g.cell a4; have a5 := g.cell a5; have a6 := g.cell a6; have a7 := g.cell a7; have b0 := g.cell b0; have b1 := g.cell b1; have b2 := g.cell b2; have b3 := g.cell b3; have b4 := g.cell b4; have b5 := g.cell b5; have b6 := g.cell b6; have b7 := g.cell b7; have hb := g.cell hb; have pa := pa.low g.low; have G := Lib.hid (G.out.trans g))
      | (go_at_call 171; refine (CL.out bx _ _ _ hb pa pb).mono ?_; rintro e w4 ⟨rfl, g⟩; have a0 := g.cell a0; have a1 := g.cell a1; have a2 := g.cell a2; have a3 := g.cell a3; have a4 := g.cell a4; have a5 := g.cell a5; have a6 := g.cell a6; have a7 := g.cell a7; have b0 := g.cell b0; have b1 := g.cell b1; have b2 := g.cell b2; have b3 := g.cell b3; have b4 := g.cell b4; have b5 := g.cell b5; have b6 := g.cell b6; have b7 := g.cell b7; have G := Lib.hid (G.out.trans g)))
    all_goals
      go_wp2_with fail
      go_ret
      exact ⟨rfl, G.out⟩
  · have e : orI c r = c := if_neg h0
    have E := Lib.hid e
    clear e
    go_wp2_with fail
    go_ret
    exact ⟨retIv E.out, G2.out⟩
end Go.Proofs.YtnenjgngahipdaaGreat
namespace Go.Proofs.YtnenjgngahipdaaGreat
open Go.RowKit Go.Sort
theorem iCmp_c (a b : Int) (w : World) : Calls Tryz.prog 142 #[.int .i64 a, .int .i64 b] w fun e w' => e = .returned (.int .i64 (cmpIv a b)) ∧ w = w' :=
  (Tryz.cmp_Compare_int a b w).mono fun _ _ ⟨h, k⟩ => ⟨h, k.symm⟩
theorem i64Cmp_c (a b : Int) (w : World) : Calls Tryz.prog 144 #[.int .i64 a, .int .i64 b] w fun e w' => e = .returned (.int .i64 (cmpIv a b)) ∧ w = w' :=
  (Tryz.cmp_Compare_int_f144 a b w).mono fun _ _ ⟨h, k⟩ => ⟨h, k.symm⟩
set_option maxHeartbeats 4000000 in
theorem order_n (n : Nat) : ∀ a b : V, dep a ≤ n → OrdC 111 a b := by
  induction n with
  | zero => intro a b h; rw [dep_v] at h; omega
  | succ n ih =>
    intro a b hd w it nm it' nm' ha hb
    have ih' : ∀ x ∈ a.l, ∀ y ∈ b.l, OrdC 111 x y := fun x hx y _ => ih x y (by have := dep_mem hx; rw [dep_v] at hd; omega)
    obtain ⟨ai, ci, an, cn, rfl, rfl⟩ := r_slices ha
    obtain ⟨ai', ci', an', cn', rfl, rfl⟩ := r_slices hb
    obtain ⟨r, hr⟩ : ∃ r, r = ord a b := ⟨_, rfl⟩
    have hr2 := hr
    rw [ord_eq] at hr2
    rw [← hr]
    clear hr
    have CR := Lib.hid (recs_c a b ih')
    have CL := Lib.hid (cloV_c a.l b.l ih')
    have ra : Ro w a.l (.slice ai a.l.length ci) := (rep_v.1 ha).2.2
    have rb : Ro w b.l (.slice ai' b.l.length ci') := (rep_v.1 hb).2.2
    generalize ordL a.l b.l = rl at hr2 CL
    generalize orI (cmpN a.ns b.ns) (ordL a.named b.named) = rr at hr2 CR
    have RA := Lib.hid ra
    have RB := Lib.hid rb
    have HA := Lib.hid ha
    have HB := Lib.hid hb
    clear ra rb ha hb ih ih' hd
    generalize a.l.length = la at *
    generalize b.l.length = lb at *
    generalize a.ns.length = na at *
    generalize b.ns.length = nb at *
    unfold avv
    by_cases hk : a.h.k = b.h.k
    · rw [if_pos hk] at hr2
      by_cases k1 : a.h.k = 1
      · rw [if_pos k1] at hr2
        have kb : b.h.k = 1 := hk ▸ k1
        have HR := Lib.hid hr2
        clear hr2 hk
        rw [k1, kb]
        clear k1 kb
        go_enter Tryz.func111, Tryz.ntmps111
        go_wp2_with fail
        refine (truths_c a.h.b b.h.b _).mono ?_
        rintro e w' ⟨rfl, rfl⟩
        go_wp2_with fail
        go_ret
        exact ⟨retIv HR.out, Gr.alloc (Gr.alloc (Gr.refl w) _) _⟩
      rw [if_neg k1] at hr2
      by_cases k2 : a.h.k = 2
      · rw [if_pos k2] at hr2
        have kb : b.h.k = 2 := hk ▸ k2
        have HR := Lib.hid hr2
        clear hr2 hk
        rw [k2, kb]
        clear k2 kb
        go_enter Tryz.func111, Tryz.ntmps111
        go_wp2_with fail
        refine (i64Cmp_c a.h.n b.h.n _).mono ?_
        rintro e w' ⟨rfl, rfl⟩
        go_wp2_with fail
        go_ret
        exact ⟨retIv HR.out, Gr.alloc (Gr.alloc (Gr.refl w) _) _⟩
      rw [if_neg k2] at hr2
      by_cases k3 : a.h.k = 3
      · rw [if_pos k3] at hr2
        have kb : b.h.k = 3 := hk ▸ k3
        have HR := Lib.hid hr2
        clear hr2 hk
        rw [k3, kb]
        clear k3 kb
        go_enter Tryz.func111, Tryz.ntmps111
        go_wp2_with fail
        refine (sCmp_c a.h.s b.h.s _).mono ?_
        rintro e w' ⟨rfl, rfl⟩
        go_wp2_with fail
        go_ret
        exact ⟨retIv HR.out, Gr.alloc (Gr.alloc (Gr.refl w) _) _⟩
      rw [if_neg k3] at hr2
      by_cases k4 : a.h.k = 4
      · rw [if_pos k4] at hr2
        have kb : b.h.k = 4 := hk ▸ k4
        have HR := Lib.hid hr2
        clear hr2 hk
        rw [k4, kb]
        clear k4 kb
        go_enter Tryz.func111, Tryz.ntmps111
        go_wp2_with fail
        refine (uids_c a.h.t a.h.i b.h.t b.h.i _).mono ?_
        rintro e w' ⟨rfl, g⟩
        go_wp2_with fail
        go_ret
        exact ⟨retIv HR.out, (Gr.alloc (Gr.alloc (Gr.refl w) _) _).trans g⟩
      rw [if_neg k4] at hr2
      by_cases k5 : a.h.k = 5
      · rw [if_pos k5] at hr2
        have kb : b.h.k = 5 := hk ▸ k5
        have HR := Lib.hid hr2
        clear hr2 hk
        rw [k5, kb]
        clear k5 kb
        go_enter Tryz.func111, Tryz.ntmps111
        go_wp2_with fail
        obtain ⟨W, hW⟩ : ∃ W, W = (w.alloc (.cells #[.int .i64 5, .bool a.h.b, .int .i64 a.h.n, .string a.h.s, .string a.h.t, .string a.h.i, .slice ai la ci, .slice an na cn] 27)).alloc (.cells #[.int .i64 5, .bool b.h.b, .int .i64 b.h.n, .string b.h.s, .string b.h.t, .string b.h.i, .slice ai' lb ci', .slice an' nb cn'] 27) := ⟨_, rfl⟩
        have g1 : Gr (w.alloc (.cells #[.int .i64 5, .bool a.h.b, .int .i64 a.h.n, .string a.h.s, .string a.h.t, .string a.h.i, .slice ai la ci, .slice an na cn] 27)) W := hW ▸ Gr.alloc (Gr.refl _) _
        have g2 : Gr ((w.alloc (.cells #[.int .i64 5, .bool a.h.b, .int .i64 a.h.n, .string a.h.s, .string a.h.t, .string a.h.i, .slice ai la ci, .slice an na cn] 27)).alloc (.cells #[.int .i64 5, .bool b.h.b, .int .i64 b.h.n, .string b.h.s, .string b.h.t, .string b.h.i, .slice ai' lb ci', .slice an' nb cn'] 27)) W := hW ▸ Gr.refl _
        have G0 := Lib.hid (((Gr.alloc (Gr.refl w) _).trans g1).drew)
        have a6 := (gr_box g1).2.2.2.2.2.2.1
        have b6 := (gr_box g2).2.2.2.2.2.2.1
        rw [show (w.alloc (.cells #[.int .i64 5, .bool a.h.b, .int .i64 a.h.n, .string a.h.s, .string a.h.t, .string a.h.i, .slice ai la ci, .slice an na cn] 27)).heap.size = w.heap.size + 1 by simp] at b6
        rw [← hW]
        clear hW g1 g2
        go_region_held3 (fun w' => w'.cell? ⟨w.heap.size, 6, none⟩ = some (.slice ai la ci) ∧ w'.cell? ⟨w.heap.size + 1, 6, none⟩ = some (.slice ai' lb ci')) (go_keep) (first
          | (go_at_call 147; refine (byItem_c _).mono ?_; rintro e w1 ⟨bx, rfl, hb, g⟩; have a6 := g.cell a6; have b6 := g.cell b6; have G := Lib.hid (G0.out.trans g))
          | (go_at_call 171; refine (CL.out bx _ _ _ hb (RA.out.low G.out.low) (RB.out.low G.out.low)).mono ?_; rintro e w2 ⟨rfl, g⟩; have a6 := g.cell a6; have b6 := g.cell b6; have G := Lib.hid (G.out.trans g)))
        all_goals
          go_wp2_with fail
          go_ret
          exact ⟨retIv HR.out, G.out⟩
      rw [if_neg k5] at hr2
      by_cases k6 : a.h.k = 6
      · rw [if_pos k6] at hr2
        have kb : b.h.k = 6 := hk ▸ k6
        have HR := Lib.hid hr2
        have hcon := CR.out _ _ _ _ _ (HA.out.low (Gr.alloc (Gr.alloc (Gr.refl w) _) _ : Gr w ((w.alloc (.cells #[.int .i64 6, .bool a.h.b, .int .i64 a.h.n, .string a.h.s, .string a.h.t, .string a.h.i, .slice ai la ci, .slice an na cn] 27)).alloc (.cells #[.int .i64 6, .bool b.h.b, .int .i64 b.h.n, .string b.h.s, .string b.h.t, .string b.h.i, .slice ai' lb ci', .slice an' nb cn'] 27))).low) (HB.out.low (Gr.alloc (Gr.alloc (Gr.refl w) _) _ : Gr w ((w.alloc (.cells #[.int .i64 6, .bool a.h.b, .int .i64 a.h.n, .string a.h.s, .string a.h.t, .string a.h.i, .slice ai la ci, .slice an na cn] 27)).alloc (.cells #[.int .i64 6, .bool b.h.b, .int .i64 b.h.n, .string b.h.s, .string b.h.t, .string b.h.i, .slice ai' lb ci', .slice an' nb cn'] 27))).low)
        unfold avv at hcon
        rw [k6, kb] at hcon
        have HC := Lib.hid hcon
        clear hr2 hk hcon
        rw [k6, kb]
        clear k6 kb
        go_enter Tryz.func111, Tryz.ntmps111
        go_wp2_with fail
        refine HC.out.mono ?_
        rintro e w' ⟨rfl, g⟩
        go_wp2_with fail
        go_ret
        exact ⟨retIv HR.out, (Gr.alloc (Gr.alloc (Gr.refl w) _) _).trans g⟩
      · rw [if_neg k6] at hr2
        subst hr2
        go_enter Tryz.func111, Tryz.ntmps111
        go_wp2_with fail
        go_ret
        exact ⟨rfl, Gr.alloc (Gr.alloc (Gr.refl w) _) _⟩
    · rw [if_neg hk] at hr2
      have HR := Lib.hid hr2
      clear hr2
      go_enter Tryz.func111, Tryz.ntmps111
      go_wp2_with fail
      refine (iCmp_c a.h.k b.h.k _).mono ?_
      rintro e w' ⟨rfl, rfl⟩
      go_wp2_with fail
      go_ret
      exact ⟨retIv HR.out, Gr.alloc (Gr.alloc (Gr.refl w) _) _⟩
theorem order_c (a b : V) : OrdC 111 a b := order_n (dep a) a b (Nat.le_refl _)
end Go.Proofs.YtnenjgngahipdaaGreat
namespace Go.Proofs.YtnenjgngahipdaaGreat
open Go.RowKit Go.Sort
theorem rInts_cv (a b : Int) (w : World) : Calls Tryz.prog 88 #[.int .i64 a, .int .i64 b] w fun e w' => e = .returned (.int .i64 (cmpIv a b)) ∧ w = w' := by
  by_cases h1 : a < b
  · have HR := Lib.hid (show cmpIv a b = -1 by unfold cmpIv Lib.compareInt; rw [if_pos h1])
    go_enter Tryz.func88, Tryz.ntmps88
    go_wp2_with fail
    go_ret
    exact ⟨retIv HR.out, rfl⟩
  · by_cases h2 : b < a
    · have HR := Lib.hid (show cmpIv a b = 1 by unfold cmpIv Lib.compareInt; rw [if_neg h1, if_pos h2])
      go_enter Tryz.func88, Tryz.ntmps88
      go_wp2_with fail
      go_ret
      exact ⟨retIv HR.out, rfl⟩
    · have HR := Lib.hid (show cmpIv a b = 0 by unfold cmpIv Lib.compareInt; rw [if_neg h1, if_neg h2])
      go_enter Tryz.func88, Tryz.ntmps88
      go_wp2_with fail
      go_ret
      exact ⟨retIv HR.out, rfl⟩
theorem cb_consv (x y : UInt8) (l m : List UInt8) : Lib.compareBytes (x :: l) (y :: m) = if x < y then -1 else if y < x then 1 else Lib.compareBytes l m := rfl
theorem cb_endv {l m : List UInt8} (h : l = [] ∨ m = []) : Lib.compareBytes l m = cmpIv l.length m.length := by
  unfold cmpIv Lib.compareInt
  cases l <;> cases m <;> simp [Lib.compareBytes] at * <;> omega
theorem u8_ltv {x y : UInt8} : x < y ↔ (x.toNat : Int) < (y.toNat : Int) := by rw [UInt8.lt_iff_toNat_lt]; omega
set_option maxHeartbeats 1600000 in
theorem rTexts_cv (s t : ByteArray) (hs : s.size ≤ 9223372036854775807) (_ht : t.size ≤ 9223372036854775807) (w : World) : Calls Tryz.prog 57 #[.string s, .string t] w fun e w' => e = .returned (.int .i64 (cmpT s t)) ∧ Gr w w' := by
  obtain ⟨r, hr⟩ : ∃ r, r = cmpT s t := ⟨_, rfl⟩
  have HR := Lib.hid hr
  rw [← hr]
  clear hr
  go_enter Tryz.func57, Tryz.ntmps57
  go_wp2_with fail
  go_loopg [5] s.size (fun gk vi wr => ∃ i : Nat, vi = .int .i64 (i : Int) ∧ i ≤ s.size ∧ i ≤ t.size ∧ s.size - i ≤ gk ∧ Hid (Gr w wr) ∧ Hid (r = Lib.compareBytes (s.data.toList.drop i) (t.data.toList.drop i)))
  case atStart => exact ⟨0, rfl, Nat.zero_le _, Nat.zero_le _, Nat.le_refl _, Lib.hid (Gr.refl _), HR⟩
  case round =>
    obtain ⟨i, rfl, hi, hi', hg, G, K⟩ := hrel
    by_cases h1 : i < s.size
    · have z1 : (i : Int) < (s.size : Int) := by omega
      by_cases h2 : i < t.size
      · have z2 : (i : Int) < (t.size : Int) := by omega
        have hst : r = if s[i] < t[i] then -1 else if t[i] < s[i] then 1 else Lib.compareBytes (s.data.toList.drop (i + 1)) (t.data.toList.drop (i + 1)) := by
          have h := K.out
          rw [drop_consv (show i < s.data.toList.length by simpa using h1), drop_consv (show i < t.data.toList.length by simpa using h2), cb_consv] at h
          exact h
        rcases Int.lt_trichotomy (s[i].toNat : Int) (t[i].toNat : Int) with hl | hl | hl
        · have hr : r = -1 := by rw [hst, if_pos (u8_ltv.2 hl)]
          have HQ := Lib.hid hr
          clear hst hr
          have n1 : ¬ (s[i].toNat : Int) = (t[i].toNat : Int) := by omega
          go_wp2_with fail
          go_quiet (fail)
          go_wp2_with fail
          go_quiet (fail)
          go_wp2_with fail
          go_ret
          exact ⟨retIv HQ.out, (G.out.drewN _).drewN _⟩
        · have he : s[i] = t[i] := UInt8.toNat_inj.1 (by omega)
          have hr : r = Lib.compareBytes (s.data.toList.drop (i + 1)) (t.data.toList.drop (i + 1)) := by
            rw [hst, he, if_neg (UInt8.lt_irrefl _), if_neg (UInt8.lt_irrefl _)]
          have HQ : Hid (r = Lib.compareBytes (s.data.toList.drop (i + 1)) (t.data.toList.drop (i + 1))) := hr
          clear hst hr he
          go_wp2_with fail
          go_quiet (fail)
          go_wp2_with fail
          go_roundg (s.size - (i + 1))
          case measure => omega
          case rel => exact ⟨i + 1, by go_num, by omega, by omega, by omega, Lib.hid (G.out.drewN _), HQ⟩
        · have hr : r = 1 := by rw [hst, if_neg (by rw [u8_ltv]; omega), if_pos (u8_ltv.2 hl)]
          have HQ := Lib.hid hr
          clear hst hr
          have n1 : ¬ (s[i].toNat : Int) = (t[i].toNat : Int) := by omega
          have n2 : ¬ (s[i].toNat : Int) < (t[i].toNat : Int) := by omega
          go_wp2_with fail
          go_quiet (fail)
          go_wp2_with fail
          go_quiet (fail)
          go_wp2_with fail
          go_ret
          exact ⟨retIv HQ.out, (G.out.drewN _).drewN _⟩
      · have z2 : ¬ (i : Int) < (t.size : Int) := by omega
        have hr : r = cmpIv s.size t.size := by
          rw [K.out, cb_endv (.inr (List.drop_eq_nil_of_le (by simp; omega)))]
          simp [cmpIv, Lib.compareInt]
          split <;> split <;> omega
        have HQ := Lib.hid hr
        clear hr
        go_wp2_with fail
        refine (rInts_cv _ _ _).mono ?_
        rintro e w' ⟨rfl, rfl⟩
        go_wp2_with fail
        go_ret
        exact ⟨retIv HQ.out, G.out⟩
    · have z1 : ¬ (i : Int) < (s.size : Int) := by omega
      have hr : r = cmpIv s.size t.size := by
        rw [K.out, cb_endv (.inl (List.drop_eq_nil_of_le (by simp; omega)))]
        simp [cmpIv, Lib.compareInt]
        split <;> split <;> omega
      have HQ := Lib.hid hr
      clear hr
      go_wp2_with fail
      refine (rInts_cv _ _ _).mono ?_
      rintro e w' ⟨rfl, rfl⟩
      go_wp2_with fail
      go_ret
      exact ⟨retIv HQ.out, G.out⟩
end Go.Proofs.YtnenjgngahipdaaGreat
namespace Go.Proofs.YtnenjgngahipdaaGreat
open Go.RowKit Go.Sort
theorem ordL_end {l m : List V} (h : l = [] ∨ m = []) : ordL l m = cmpIv l.length m.length := by
  unfold cmpIv Lib.compareInt
  cases l with
  | nil => cases m with
    | nil => simp [ordL_nil]
    | cons y m => simp [ordL_nil_cons] <;> omega
  | cons x l => cases m with
    | nil => simp [ordL_cons_nil] <;> omega
    | cons y m => simp at h
theorem drop_end {α : Type} {l m : List α} {i : Nat} (h1 : i ≤ l.length) (h2 : i ≤ m.length) : cmpIv (l.drop i).length (m.drop i).length = cmpIv l.length m.length := by
  simp only [List.length_drop, cmpIv, Lib.compareInt]
  split <;> split <;> (try split) <;> (try split) <;> omega
set_option maxHeartbeats 1600000 in
theorem rRows_c (l m : List V) (ih : ∀ x ∈ l, ∀ y ∈ m, OrdC 58 x y) (w : World) (it it' : Value) (hl : Ro w l it) (hm : Ro w m it') :
    Calls Tryz.prog 89 #[it, it'] w fun e w' => e = .returned (.int .i64 (ordL l m)) ∧ Gr w w' := by
  obtain ⟨al, cl, rfl, ⟨zl, zl'⟩, -⟩ := id hl
  obtain ⟨am, cm, rfl, ⟨zm, zm'⟩, -⟩ := id hm
  have HL := Lib.hid hl
  have HM := Lib.hid hm
  have HI := Lib.hid ih
  clear hl hm ih
  obtain ⟨r, hr⟩ : ∃ r, r = ordL l m := ⟨_, rfl⟩
  have HR := Lib.hid hr
  rw [← hr]
  clear hr
  go_enter Tryz.func89, Tryz.ntmps89
  go_wp2_with fail
  go_loopg [5] l.length (fun gk vi wr => ∃ i : Nat, vi = .int .i64 (i : Int) ∧ i ≤ l.length ∧ i ≤ m.length ∧ l.length - i ≤ gk ∧ Hid (Gr w wr) ∧ Hid (r = ordL (l.drop i) (m.drop i)))
  case atStart => exact ⟨0, rfl, Nat.zero_le _, Nat.zero_le _, Nat.le_refl _, Lib.hid (Gr.refl _), HR⟩
  case round =>
    obtain ⟨i, rfl, hi, hi', hg, G, K⟩ := hrel
    by_cases hlt : i < l.length
    · have z1 : (i : Int) < (l.length : Int) := by omega
      by_cases hlm : i < m.length
      · have z2 : (i : Int) < (m.length : Int) := by omega
        obtain ⟨b, o, ai, ci, an, cn, rfl, hcs, hrx⟩ := ro_at (HL.out.low G.out.low) hlt
        obtain ⟨e0, e1, e2, e3, e4, e5, e6, e7⟩ := cells8 hcs
        obtain ⟨b', o', ai', ci', an', cn', rfl, hcs', hrx'⟩ := ro_at (HM.out.low G.out.low) hlm
        obtain ⟨d0, d1, d2, d3, d4, d5, d6, d7⟩ := cells8 hcs'
        have HR := Lib.hid hrx
        have HR' := Lib.hid hrx'
        have hcon := HI.out l[i] (List.getElem_mem hlt) m[i] (List.getElem_mem hlm)
        obtain ⟨c, hc⟩ : ∃ c, c = ord l[i] m[i] := ⟨_, rfl⟩
        unfold OrdC at hcon
        rw [← hc] at hcon
        have HC := Lib.hid hcon
        have hst : r = orI c (ordL (l.drop (i + 1)) (m.drop (i + 1))) := by rw [hc, ← ordL_cons, ← drop_consv hlt, ← drop_consv hlm]; exact K.out
        have HS := Lib.hid hst
        have G0 := Lib.hid G.out.drew
        clear hst hcs hcs' hrx hrx' hcon hc
        go_wp2_with fail
        go_region_held3 (fun w' => w'.cell? ⟨b, o + i * 8, none⟩ = some (.int .i64 l[i].h.k) ∧ w'.cell? ⟨b, o + i * 8 + 1, none⟩ = some (.bool l[i].h.b) ∧ w'.cell? ⟨b, o + i * 8 + 2, none⟩ = some (.int .i64 l[i].h.n) ∧ w'.cell? ⟨b, o + i * 8 + 3, none⟩ = some (.string l[i].h.s) ∧ w'.cell? ⟨b, o + i * 8 + 4, none⟩ = some (.string l[i].h.t) ∧ w'.cell? ⟨b, o + i * 8 + 5, none⟩ = some (.string l[i].h.i) ∧ w'.cell? ⟨b, o + i * 8 + 6, none⟩ = some (.slice ai l[i].l.length ci) ∧ w'.cell? ⟨b, o + i * 8 + 7, none⟩ = some (.slice an l[i].ns.length cn) ∧ w'.cell? ⟨b', o' + i * 8, none⟩ = some (.int .i64 m[i].h.k) ∧ w'.cell? ⟨b', o' + i * 8 + 1, none⟩ = some (.bool m[i].h.b) ∧ w'.cell? ⟨b', o' + i * 8 + 2, none⟩ = some (.int .i64 m[i].h.n) ∧ w'.cell? ⟨b', o' + i * 8 + 3, none⟩ = some (.string m[i].h.s) ∧ w'.cell? ⟨b', o' + i * 8 + 4, none⟩ = some (.string m[i].h.t) ∧ w'.cell? ⟨b', o' + i * 8 + 5, none⟩ = some (.string m[i].h.i) ∧ w'.cell? ⟨b', o' + i * 8 + 6, none⟩ = some (.slice ai' m[i].l.length ci') ∧ w'.cell? ⟨b', o' + i * 8 + 7, none⟩ = some (.slice an' m[i].ns.length cn')) (go_keep) (first
          | (go_at_call 58; refine (HC.out _ _ _ _ _ (HR.out.low (Gr.refl _).drew.low) (HR'.out.low (Gr.refl _).drew.low)).mono ?_; rintro e w1 ⟨rfl, g⟩; have e0 := g.cell e0; have d0 := g.cell d0; have e1 := g.cell e1; have d1 := g.cell d1; have e2 := g.cell e2; have d2 := g.cell d2; have e3 := g.cell e3; have d3 := g.cell d3; have e4 := g.cell e4; have d4 := g.cell d4; have e5 := g.cell e5; have d5 := g.cell d5; have e6 := g.cell e6; have d6 := g.cell d6; have e7 := g.cell e7; have d7 := g.cell d7; have G1 := Lib.hid (G0.out.trans g)))
        all_goals
          by_cases h0 : c = 0
          · subst h0
            have HS' : Hid (r = ordL (l.drop (i + 1)) (m.drop (i + 1))) := HS
            go_wp2_with fail
            go_roundg (l.length - (i + 1))
            case measure => omega
            case rel => exact ⟨i + 1, by go_num, by omega, by omega, by omega, G1, HS'⟩
          · have hr : r = c := by rw [HS.out, orI, if_neg h0]
            have HQ := Lib.hid hr
            clear hr
            go_wp2_with fail
            go_ret
            exact ⟨retIv HQ.out, G1.out⟩
      · have z2 : ¬ (i : Int) < (m.length : Int) := by omega
        have hr : r = cmpIv l.length m.length := by
          rw [K.out, ordL_end (.inr (List.drop_eq_nil_of_le (by omega))), drop_end (by omega) (by omega)]
        have HQ := Lib.hid hr
        clear hr
        go_wp2_with fail
        refine (rInts_cv _ _ _).mono ?_
        rintro e w' ⟨rfl, rfl⟩
        go_wp2_with fail
        go_ret
        exact ⟨retIv HQ.out, G.out⟩
    · have z1 : ¬ (i : Int) < (l.length : Int) := by omega
      have hr : r = cmpIv l.length m.length := by
        rw [K.out, ordL_end (.inl (List.drop_eq_nil_of_le (by omega))), drop_end (by omega) (by omega)]
      have HQ := Lib.hid hr
      clear hr
      go_wp2_with fail
      refine (rInts_cv _ _ _).mono ?_
      rintro e w' ⟨rfl, rfl⟩
      go_wp2_with fail
      go_ret
      exact ⟨retIv HQ.out, G.out⟩
set_option maxHeartbeats 800000 in
theorem rNamed_c (v : V) (w : World) (it nm : Value) (hr : R w v it nm) : Calls Tryz.prog 90 #[avv v.h it nm] w (RowP v.named w) := by
  obtain ⟨-, ⟨an, cn, rfl, zn, -⟩, hro⟩ := rep_v.1 hr
  obtain ⟨ai, ci, rfl, ⟨zl, zc⟩, -⟩ := id hro
  have z1 : (v.l.length : Int) ≤ ci := by omega
  unfold avv
  by_cases hm : v.ns.length < v.l.length
  · have z2 : (v.ns.length : Int) < v.l.length := by omega
    have z3 : (v.ns.length : Int) ≤ ci := by omega
    have HR := Lib.hid (show Ro w v.named (.slice ai v.ns.length ci) by
      have h := ro_take hro (k := v.ns.length) (by omega)
      rwa [show v.l.take v.ns.length = v.named by unfold V.named; rw [Nat.min_eq_left (by omega)]] at h)
    clear hr hro
    go_enter Tryz.func90, Tryz.ntmps90
    go_wp2_with fail
    go_ret
    exact ⟨_, rfl, HR.out.low (Gr.alloc (Gr.refl w) _).low, Gr.alloc (Gr.refl w) _⟩
  · have z2 : ¬ (v.ns.length : Int) < v.l.length := by omega
    have HR := Lib.hid (show Ro w v.named (.slice ai v.l.length ci) by
      have h := ro_take hro (k := v.l.length) (Nat.le_refl _)
      rwa [show v.l.take v.l.length = v.named by unfold V.named; rw [Nat.min_eq_right (by omega)]] at h)
    clear hr hro
    go_enter Tryz.func90, Tryz.ntmps90
    go_wp2_with fail
    go_ret
    exact ⟨_, rfl, HR.out.low (Gr.alloc (Gr.refl w) _).low, Gr.alloc (Gr.refl w) _⟩
end Go.Proofs.YtnenjgngahipdaaGreat
