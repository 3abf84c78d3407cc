/- The order of rows of names; the order handed on as a function value in a closure; a record's items that have a name. No condition. The order of values, as the program has it, is the order by definition. No condition. Order is the order by definition. No condition. entity.Round: whether some way goes round. Condition: no more than 100000 entities, and steps. Plain: lists of entities as they must be stay so; neither the order of a list nor that of parents matters. Conditions: as each says, of 'c'. Entities in memory, as what they are; what the walks of their parents want. No condition. The reference's Order is the order by definition. No condition. Same, Holds, and what looks for an item. No condition. The reference's Whole tells whether two values are the same. No condition. -/
import Derived.Test.YtnchohglplobeaaGreatZg04
set_option linter.unusedVariables false
set_option linter.unusedSimpArgs false
set_option linter.unnecessarySimpa false
namespace Go.Proofs.YtnchohglplobeaaGreat
open Go.RowKit Go.Sort
def Na (w : World) (ns : List ByteArray) (nm : Value) : Prop := NamesAt (fun _ => True) w ns nm
theorem Na.low {w w' : World} {l : List ByteArray} {it : Value} (hr : Na w l it) (h : Low w w') : Na w' l it := NamesAt.low hr h
theorem na_at {w : World} {l : List ByteArray} {ao : Option Addr} {n cap i : Nat} (hr : Na w l (.slice ao n cap)) (hi : i < l.length) : ∃ b o, ao = some ⟨b, o, none⟩ ∧ w.cell? ⟨b, o + i, none⟩ = some (.string l[i]) ∧ l[i].size ≤ 9223372036854775807 := by
 obtain ⟨ai, ci, he, hli, hs, hx⟩ := hr
 simp only [Value.slice.injEq] at he
 obtain ⟨rfl, rfl, rfl⟩ := he
 rcases hx with h0 | ⟨b, o, rfl, ha, hf⟩
 ·rw [h0] at hi; exact absurd hi (Nat.not_lt_zero _)
 ·exact ⟨b, o, rfl, hf i hi, hs _ (List.getElem_mem hi)⟩
theorem cmpN_cons (x y : ByteArray) (l m : List ByteArray) : cmpN (x :: l) (y :: m) = orI (cmpT x y) (cmpN l m) := rfl
set_option maxHeartbeats 1600000 in
theorem cmpNm_c (l m : List ByteArray) (w : World) (it it' : Value) (hl : Na w l it) (hm : Na w m it') :
  Calls Tryz.prog 192 #[it, it', .func (.func 132) #[] #[]] w fun e w' => e = .returned (.int .i64 (cmpN l m)) ∧ w = w' := by
 obtain ⟨al, cl, rfl, zl, -⟩ := id hl
 obtain ⟨am, cm, rfl, zm, -⟩ := id hm
 have HL := Lib.hid hl
 have HM := Lib.hid hm
 clear hl hm
 obtain ⟨r, hr⟩ : ∃ r, r = cmpN l m := ⟨_, rfl⟩
 have HR := Lib.hid hr
 rw [← hr]
 clear hr
 go_enter Tryz.func192, Tryz.ntmps192
 go_wp2_with fail
 go_loopg [13] l.length (fun gk vi wr => ∃ i : Nat, vi = .int .i64 (i : Int) ∧ i ≤ l.length ∧ i ≤ m.length ∧ l.length - i ≤ gk ∧ Hid (w = wr) ∧ Hid (r = cmpN (l.drop i) (m.drop i)))
 case atStart => exact ⟨0, rfl, Nat.zero_le _, Nat.zero_le _, Nat.le_refl _, rfl, HR⟩
 case round =>
  obtain ⟨i, rfl, hi, hi', hg, G, K⟩ := hrel
  have G' : w = wr := G
  subst G'
  by_cases hlt : i < l.length
  ·have z1 : (i : Int) < (l.length : Int) := by omega
   obtain ⟨b, o, rfl, hc, -⟩ := na_at HL.out hlt
   by_cases hlm : i < m.length
   ·have z2 : (i : Int) < (m.length : Int) := by omega
    obtain ⟨b', o', rfl, hc', -⟩ := na_at HM.out hlm
    obtain ⟨c, hcc⟩ : ∃ c, c = cmpT l[i] m[i] := ⟨_, rfl⟩
    have hst : r = orI c (cmpN (l.drop (i + 1)) (m.drop (i + 1))) := by rw [hcc, ← cmpN_cons, ← drop_consv hlt, ← drop_consv hlm]; exact K.out
    have hcon := sCmp_c l[i] m[i] w
    rw [← hcc] at hcon
    have HC := Lib.hid hcon
    have HS := Lib.hid hst
    clear hst hcon hcc
    go_wp2_with fail
    refine HC.out.mono ?_
    rintro e w' ⟨rfl, rfl⟩
    by_cases h0 : c = 0
    ·subst h0
     have HS' : Hid (r = cmpN (l.drop (i + 1)) (m.drop (i + 1))) := HS
     go_wp2_with fail
     go_roundg (l.length - (i + 1))
     case measure => omega
     case rel => exact ⟨i + 1, by go_num, by omega, by omega, by omega, rfl, HS'⟩
    ·have hr : r = c := by rw [HS.out, orI, if_neg h0]
     go_wp2_with fail
     go_ret
     exact ⟨retIv hr, rfl⟩
   ·have z2 : ¬ (i : Int) < (m.length : Int) := by omega
    have hr : r = 1 := by
     rw [K.out, drop_consv hlt, List.drop_eq_nil_of_le (show m.length ≤ i by omega)]; rfl
    have HQ := Lib.hid hr
    clear hr
    go_wp2_with fail
    go_ret
    exact ⟨retIv HQ.out, rfl⟩
  ·have z1 : ¬ (i : Int) < (l.length : Int) := by omega
   by_cases hlm : l.length < m.length
   ·have z2 : (l.length : Int) < (m.length : Int) := by omega
    have hr : r = -1 := by
     rw [K.out, List.drop_eq_nil_of_le (show l.length ≤ i by omega), drop_consv (show i < m.length by omega)]; rfl
    have HQ := Lib.hid hr
    clear hr
    go_wp2_with fail
    go_ret
    exact ⟨retIv HQ.out, rfl⟩
   ·have z2 : ¬ (l.length : Int) < (m.length : Int) := by omega
    have hr : r = 0 := by
     rw [K.out, List.drop_eq_nil_of_le (show l.length ≤ i by omega), List.drop_eq_nil_of_le (show m.length ≤ i by omega)]; rfl
    have HQ := Lib.hid hr
    clear hr
    go_wp2_with fail
    go_ret
    exact ⟨retIv HQ.out, rfl⟩
def ordV : Value := .func (.func 86) #[] #[]
def cmpV : Value := .func (.func 132) #[] #[]
theorem byItem_c (w : World) : Calls Tryz.prog 134 #[ordV] w fun e w' => ∃ bx, e = .returned (.func (.func 170) #[] #[.pointer (some ⟨bx, 0, none⟩)]) ∧ w'.cell? ⟨bx, 0, none⟩ = some ordV ∧ Gr w w' := by
 unfold ordV
 go_enter Tryz.func134, Tryz.ntmps134
 go_wp2_with fail
 go_ret
 exact ⟨_, rfl, by simp [go_sem], Gr.alloc (Gr.refl w) _⟩
theorem byName_c (w : World) : Calls Tryz.prog 172 #[cmpV] w fun e w' => ∃ bx, e = .returned (.func (.func 191) #[] #[.pointer (some ⟨bx, 0, none⟩)]) ∧ w'.cell? ⟨bx, 0, none⟩ = some cmpV ∧ Gr w w' := by
 unfold cmpV
 go_enter Tryz.func172, Tryz.ntmps172
 go_wp2_with fail
 go_ret
 exact ⟨_, rfl, by simp [go_sem], Gr.alloc (Gr.refl w) _⟩
theorem cloV_c (l m : List V) (ih : ∀ x ∈ l, ∀ y ∈ m, OrdC 86 x y) (bx : Nat) (w : World) (it it' : Value) (hb : w.cell? ⟨bx, 0, none⟩ = some ordV) (hl : Ro w l it) (hm : Ro w m it') :
  Calls Tryz.prog 170 #[it, it', .pointer (some ⟨bx, 0, none⟩)] w fun e w' => e = .returned (.int .i64 (ordL l m)) ∧ Gr w w' := by
 unfold ordV at hb
 have HC := Lib.hid (cmpF_c l m ih w it it' hl hm)
 clear ih hl hm
 generalize ordL l m = r at HC ⊢
 go_enter Tryz.func170, Tryz.ntmps170
 go_wp2_with fail
 refine HC.out.mono ?_
 rintro e w' ⟨rfl, g⟩
 go_wp2_with fail
 go_ret
 exact ⟨rfl, g⟩
theorem cloN_c (l m : List ByteArray) (bx : Nat) (w : World) (it it' : Value) (hb : w.cell? ⟨bx, 0, none⟩ = some cmpV) (hl : Na w l it) (hm : Na w m it') :
  Calls Tryz.prog 191 #[it, it', .pointer (some ⟨bx, 0, none⟩)] w fun e w' => e = .returned (.int .i64 (cmpN l m)) ∧ w = w' := by
 unfold cmpV at hb
 have HC := Lib.hid (cmpNm_c l m w it it' hl hm)
 clear hl hm
 generalize cmpN l m = r at HC ⊢
 go_enter Tryz.func191, Tryz.ntmps191
 go_wp2_with fail
 refine HC.out.mono ?_
 rintro e w' ⟨rfl, rfl⟩
 go_wp2_with fail
 go_ret
 exact ⟨rfl, rfl⟩
end Go.Proofs.YtnchohglplobeaaGreat
namespace Go.Proofs.YtnchohglplobeaaGreat
open Go.RowKit Go.Sort
theorem repF_take {A : Nat → Prop} {w : World} {b : Nat} : ∀ {l : List V} {o : Nat} (k : Nat), RepF A w b o l → RepF A w b o (l.take k)
 | [], _, k, h => by simpa using h
 | x :: l, o, 0, h => by rw [List.take_zero, RepF]; trivial
 | x :: l, o, k + 1, h => by
  rw [List.take_succ_cons]
  rw [RepF] at h ⊢
  exact ⟨h.1, repF_take k h.2⟩
theorem ro_take {w : World} {l : List V} {ao : Option Addr} {n cap k : Nat} (h : Ro w l (.slice ao n cap)) (hk : k ≤ l.length) : Ro w (l.take k) (.slice ao k cap) := by
 obtain ⟨ai, ci, he, ⟨h1, h2⟩, hx⟩ := h
 simp only [Value.slice.injEq] at he
 obtain ⟨rfl, rfl, rfl⟩ := he
 refine ⟨ao, cap, by rw [List.length_take, Nat.min_eq_left hk], ⟨by rw [List.length_take]; omega, h2⟩, ?_⟩
 rcases hx with h0 | ⟨b, o, rfl, ha, hf⟩
 ·exact .inl (by rw [h0]; simp)
 ·exact .inr ⟨b, o, rfl, ha, repF_take k hf⟩
def RowP (l : List V) (w : World) (e : Ending) (w' : World) : Prop := ∃ it, e = .returned it ∧ Ro w' l it ∧ Gr w w'
set_option maxHeartbeats 800000 in
theorem named_c (v : V) (w : World) (it nm : Value) (hr : R w v it nm) : Calls Tryz.prog 173 #[avv v.h it nm] w (RowP v.named w) := by
 obtain ⟨-, ⟨an, cn, rfl, zn, -⟩, hro⟩ := rep_v.1 hr
 obtain ⟨ai, ci, rfl, ⟨zl, zc⟩, -⟩ := id hro
 have HR := Lib.hid hro
 clear hr hro
 have z1 : (v.l.length : Int) ≤ ci := by omega
 unfold avv
 go_enter Tryz.func173, Tryz.ntmps173
 go_wp2_with fail
 go_ret
 refine ⟨_, rfl, ?_, Gr.alloc (Gr.refl w) _⟩
 have e : (min (v.ns.length : Int) (v.l.length : Int)).toNat = min v.ns.length v.l.length := by omega
 show Ro _ _ (.slice ai (min (v.ns.length : Int) (v.l.length : Int)).toNat ci)
 rw [e]
 exact (ro_take HR.out (Nat.min_le_right _ _)).low (Gr.alloc (Gr.refl w) _).low
theorem mem_named {v : V} {x : V} (h : x ∈ v.named) : x ∈ v.l := List.mem_of_mem_take h
set_option maxHeartbeats 2000000 in
theorem recs_c (a b : V) (ih : ∀ x ∈ a.l, ∀ y ∈ b.l, OrdC 86 x y) (w : World) (it nm it' nm' : Value) (ha : R w a it nm) (hb : R w b it' nm') :
  Calls Tryz.prog 135 #[avv a.h it nm, avv b.h it' nm'] w fun e w' => e = .returned (.int .i64 (orI (cmpN a.ns b.ns) (ordL a.named b.named))) ∧ Gr w w' := by
 obtain ⟨ai, ci, an, cn, rfl, rfl⟩ := r_slices ha
 obtain ⟨ai', ci', an', cn', rfl, rfl⟩ := r_slices hb
 have na : Na w a.ns (.slice an a.ns.length cn) := (rep_v.1 ha).2.1
 have nb : Na w b.ns (.slice an' b.ns.length cn') := (rep_v.1 hb).2.1
 have CV := Lib.hid fun (W : World) => named_c a W (.slice ai a.l.length ci) (.slice an a.ns.length cn)
 have CV' := Lib.hid fun (W : World) => named_c b W (.slice ai' b.l.length ci') (.slice an' b.ns.length cn')
 have CL := Lib.hid (cloV_c a.named b.named fun x hx y hy => ih x (mem_named hx) y (mem_named hy))
 have CN := Lib.hid (cloN_c a.ns b.ns)
 generalize ordL a.named b.named = r at CL ⊢
 generalize cmpN a.ns b.ns = c at CN ⊢
 have HA := Lib.hid ha
 have HB := Lib.hid hb
 have NA := Lib.hid na
 have NB := Lib.hid nb
 clear ha hb ih na nb
 unfold avv
 go_enter Tryz.func135, Tryz.ntmps135
 go_wp2_with fail
 obtain ⟨W, hW⟩ : ∃ W, W = (w.alloc (.cells #[.int .i64 a.h.k, .bool a.h.b, .int .i64 a.h.n, .string a.h.s, .string a.h.t, .string a.h.i, .slice ai a.l.length ci, .slice an a.ns.length cn] 27)).alloc (.cells #[.int .i64 b.h.k, .bool b.h.b, .int .i64 b.h.n, .string b.h.s, .string b.h.t, .string b.h.i, .slice ai' b.l.length ci', .slice an' b.ns.length cn'] 27) := ⟨_, rfl⟩
 have g1 : Gr (w.alloc (.cells #[.int .i64 a.h.k, .bool a.h.b, .int .i64 a.h.n, .string a.h.s, .string a.h.t, .string a.h.i, .slice ai a.l.length ci, .slice an a.ns.length cn] 27)) W := hW ▸ Gr.alloc (Gr.refl _) _
 have g2 : Gr ((w.alloc (.cells #[.int .i64 a.h.k, .bool a.h.b, .int .i64 a.h.n, .string a.h.s, .string a.h.t, .string a.h.i, .slice ai a.l.length ci, .slice an a.ns.length cn] 27)).alloc (.cells #[.int .i64 b.h.k, .bool b.h.b, .int .i64 b.h.n, .string b.h.s, .string b.h.t, .string b.h.i, .slice ai' b.l.length ci', .slice an' b.ns.length cn'] 27)) W := hW ▸ Gr.refl _
 have g0 : Gr w W.drew := ((Gr.alloc (Gr.refl w) _).trans g1).drew
 have G0 := Lib.hid g0
 obtain ⟨a0, a1, a2, a3, a4, a5, a6, a7⟩ := gr_box g1
 have g3 := gr_box g2
 rw [show (w.alloc (.cells #[.int .i64 a.h.k, .bool a.h.b, .int .i64 a.h.n, .string a.h.s, .string a.h.t, .string a.h.i, .slice ai a.l.length ci, .slice an a.ns.length cn] 27)).heap.size = w.heap.size + 1 by simp] at g3
 obtain ⟨b0, b1, b2, b3, b4, b5, b6, b7⟩ := g3
 rw [← hW]
 clear hW g0 g1 g2
 go_region_held3 (fun w' => w'.cell? ⟨w.heap.size, 7, none⟩ = some (.slice an a.ns.length cn) ∧ w'.cell? ⟨w.heap.size + 1, 7, none⟩ = some (.slice an' b.ns.length cn')) (go_keep) (first
  | (go_at_call 172; refine (byName_c _).mono ?_; rintro e w1 ⟨bx, rfl, hb, g⟩; have a0 := g.cell a0; have a1 := g.cell a1; have a2 := g.cell a2; have a3 := g.cell a3; have a4 := g.cell a4; have a5 := g.cell a5; have a6 := g.cell a6; have a7 := g.cell a7; have b0 := g.cell b0; have b1 := g.cell b1; have b2 := g.cell b2; have b3 := g.cell b3; have b4 := g.cell b4; have b5 := g.cell b5; have b6 := g.cell b6; have b7 := g.cell b7; have G1 := Lib.hid (G0.out.trans g).drew; have G2 := Lib.hid (G0.out.trans g))
  | (go_at_call 191; refine (CN.out bx _ _ _ hb (NA.out.low (G0.out.trans g).low) (NB.out.low (G0.out.trans g).low)).mono ?_; rintro e w2 ⟨rfl, rfl⟩))
 by_cases h0 : c = 0
 ·subst h0
  clear hb g
  go_wp2_with fail
  go_region_held3 (fun w' => w'.cell? ⟨w.heap.size, 0, none⟩ = some (.int .i64 a.h.k) ∧ w'.cell? ⟨w.heap.size, 1, none⟩ = some (.bool a.h.b) ∧ w'.cell? ⟨w.heap.size, 2, none⟩ = some (.int .i64 a.h.n) ∧ w'.cell? ⟨w.heap.size, 3, none⟩ = some (.string a.h.s) ∧ w'.cell? ⟨w.heap.size, 4, none⟩ = some (.string a.h.t) ∧ w'.cell? ⟨w.heap.size, 5, none⟩ = some (.string a.h.i) ∧ w'.cell? ⟨w.heap.size, 6, none⟩ = some (.slice ai a.l.length ci) ∧ w'.cell? ⟨w.heap.size, 7, none⟩ = some (.slice an a.ns.length cn) ∧ w'.cell? ⟨w.heap.size + 1, 0, none⟩ = some (.int .i64 b.h.k) ∧ w'.cell? ⟨w.heap.size + 1, 1, none⟩ = some (.bool b.h.b) ∧ w'.cell? ⟨w.heap.size + 1, 2, none⟩ = some (.int .i64 b.h.n) ∧ w'.cell? ⟨w.heap.size + 1, 3, none⟩ = some (.string b.h.s) ∧ w'.cell? ⟨w.heap.size + 1, 4, none⟩ = some (.string b.h.t) ∧ w'.cell? ⟨w.heap.size + 1, 5, none⟩ = some (.string b.h.i) ∧ w'.cell? ⟨w.heap.size + 1, 6, none⟩ = some (.slice ai' b.l.length ci') ∧ w'.cell? ⟨w.heap.size + 1, 7, none⟩ = some (.slice an' b.ns.length cn')) (go_keep) (first
   | (go_at_call 134; refine (byItem_c _).mono ?_; rintro e w1 ⟨bx, rfl, hb, g⟩; have a0 := g.cell a0; have a1 := g.cell a1; have a2 := g.cell a2; have a3 := g.cell a3; have a4 := g.cell a4; have a5 := g.cell a5; have a6 := g.cell a6; have a7 := g.cell a7; have b0 := g.cell b0; have b1 := g.cell b1; have b2 := g.cell b2; have b3 := g.cell b3; have b4 := g.cell b4; have b5 := g.cell b5; have b6 := g.cell b6; have b7 := g.cell b7; have G := Lib.hid (G1.out.trans g))
   | (go_at_call_of 173 (Value.slice ai a.l.length ci); refine (CV.out _ (HA.out.low G.out.low)).mono ?_; rintro e w2 ⟨ra, rfl, pa, g⟩; have a0 := g.cell a0; have a1 := g.cell a1; have a2 := g.cell a2; have a3 := g.cell a3; have a4 := g.cell a4; have a5 := g.cell a5; have a6 := g.cell a6; have a7 := g.cell a7; have b0 := g.cell b0; have b1 := g.cell b1; have b2 := g.cell b2; have b3 := g.cell b3; have b4 := g.cell b4; have b5 := g.cell b5; have b6 := g.cell b6; have b7 := g.cell b7; have hb := g.cell hb; have G := Lib.hid (G.out.trans g))
   | (go_at_call_of 173 (Value.slice ai' b.l.length ci'); refine (CV'.out _ (HB.out.low G.out.low)).mono ?_; rintro e w3 ⟨rb, rfl, pb, g⟩; have a0 := g.cell a0; have a1 := g.cell a1; have a2 := g.cell a2; have a3 := g.cell a3; have a4 := g.cell a4; have a5 := g.cell a5; have a6 := g.cell a6; have a7 := g.cell a7; have b0 := g.cell b0; have b1 := g.cell b1; have b2 := g.cell b2; have b3 := g.cell b3; have b4 := g.cell b4; have b5 := g.cell b5; have b6 := g.cell b6; have b7 := g.cell b7; have hb := g.cell hb; have pa := pa.low g.low; have G := Lib.hid (G.out.trans g))
   | (go_at_call 170; refine (CL.out bx _ _ _ hb pa pb).mono ?_; rintro e w4 ⟨rfl, g⟩; have a0 := g.cell a0; have a1 := g.cell a1; have a2 := g.cell a2; have a3 := g.cell a3; have a4 := g.cell a4; have a5 := g.cell a5; have a6 := g.cell a6; have a7 := g.cell a7; have b0 := g.cell b0; have b1 := g.cell b1; have b2 := g.cell b2; have b3 := g.cell b3; have b4 := g.cell b4; have b5 := g.cell b5; have b6 := g.cell b6; have b7 := g.cell b7; have G := Lib.hid (G.out.trans g)))
  all_goals
   go_wp2_with fail
   go_ret
   exact ⟨rfl, G.out⟩
 ·have e : orI c r = c := if_neg h0
  have E := Lib.hid e
  clear e
  go_wp2_with fail
  go_ret
  exact ⟨retIv E.out, G2.out⟩
end Go.Proofs.YtnchohglplobeaaGreat
namespace Go.Proofs.YtnchohglplobeaaGreat
open Go.RowKit Go.Sort
theorem iCmp_c (a b : Int) (w : World) : Calls Tryz.prog 129 #[.int .i64 a, .int .i64 b] w fun e w' => e = .returned (.int .i64 (cmpIv a b)) ∧ w = w' :=
 (Tryz.cmp_Compare_int a b w).mono fun _ _ ⟨h, k⟩ => ⟨h, k.symm⟩
theorem i64Cmp_c (a b : Int) (w : World) : Calls Tryz.prog 131 #[.int .i64 a, .int .i64 b] w fun e w' => e = .returned (.int .i64 (cmpIv a b)) ∧ w = w' :=
 (Tryz.cmp_Compare_int_f131 a b w).mono fun _ _ ⟨h, k⟩ => ⟨h, k.symm⟩
set_option maxHeartbeats 4000000 in
theorem order_n (n : Nat) : ∀ a b : V, dep a ≤ n → OrdC 86 a b := by
 induction n with
 | zero => intro a b h; rw [dep_v] at h; omega
 | succ n ih =>
  intro a b hd w it nm it' nm' ha hb
  have ih' : ∀ x ∈ a.l, ∀ y ∈ b.l, OrdC 86 x y := fun x hx y _ => ih x y (by have := dep_mem hx; rw [dep_v] at hd; omega)
  obtain ⟨ai, ci, an, cn, rfl, rfl⟩ := r_slices ha
  obtain ⟨ai', ci', an', cn', rfl, rfl⟩ := r_slices hb
  obtain ⟨r, hr⟩ : ∃ r, r = ord a b := ⟨_, rfl⟩
  have hr2 := hr
  rw [ord_eq] at hr2
  rw [← hr]
  clear hr
  have CR := Lib.hid (recs_c a b ih')
  have CL := Lib.hid (cloV_c a.l b.l ih')
  have ra : Ro w a.l (.slice ai a.l.length ci) := (rep_v.1 ha).2.2
  have rb : Ro w b.l (.slice ai' b.l.length ci') := (rep_v.1 hb).2.2
  generalize ordL a.l b.l = rl at hr2 CL
  generalize orI (cmpN a.ns b.ns) (ordL a.named b.named) = rr at hr2 CR
  have RA := Lib.hid ra
  have RB := Lib.hid rb
  have HA := Lib.hid ha
  have HB := Lib.hid hb
  clear ra rb ha hb ih ih' hd
  generalize a.l.length = la at *
  generalize b.l.length = lb at *
  generalize a.ns.length = na at *
  generalize b.ns.length = nb at *
  unfold avv
  by_cases hk : a.h.k = b.h.k
  ·rw [if_pos hk] at hr2
   by_cases k1 : a.h.k = 1
   ·rw [if_pos k1] at hr2
    have kb : b.h.k = 1 := hk ▸ k1
    have HR := Lib.hid hr2
    clear hr2 hk
    rw [k1, kb]
    clear k1 kb
    go_enter Tryz.func86, Tryz.ntmps86
    go_wp2_with fail
    refine (truths_c a.h.b b.h.b _).mono ?_
    rintro e w' ⟨rfl, rfl⟩
    go_wp2_with fail
    go_ret
    exact ⟨retIv HR.out, Gr.alloc (Gr.alloc (Gr.refl w) _) _⟩
   rw [if_neg k1] at hr2
   by_cases k2 : a.h.k = 2
   ·rw [if_pos k2] at hr2
    have kb : b.h.k = 2 := hk ▸ k2
    have HR := Lib.hid hr2
    clear hr2 hk
    rw [k2, kb]
    clear k2 kb
    go_enter Tryz.func86, Tryz.ntmps86
    go_wp2_with fail
    refine (i64Cmp_c a.h.n b.h.n _).mono ?_
    rintro e w' ⟨rfl, rfl⟩
    go_wp2_with fail
    go_ret
    exact ⟨retIv HR.out, Gr.alloc (Gr.alloc (Gr.refl w) _) _⟩
   rw [if_neg k2] at hr2
   by_cases k3 : a.h.k = 3
   ·rw [if_pos k3] at hr2
    have kb : b.h.k = 3 := hk ▸ k3
    have HR := Lib.hid hr2
    clear hr2 hk
    rw [k3, kb]
    clear k3 kb
    go_enter Tryz.func86, Tryz.ntmps86
    go_wp2_with fail
    refine (sCmp_c a.h.s b.h.s _).mono ?_
    rintro e w' ⟨rfl, rfl⟩
    go_wp2_with fail
    go_ret
    exact ⟨retIv HR.out, Gr.alloc (Gr.alloc (Gr.refl w) _) _⟩
   rw [if_neg k3] at hr2
   by_cases k4 : a.h.k = 4
   ·rw [if_pos k4] at hr2
    have kb : b.h.k = 4 := hk ▸ k4
    have HR := Lib.hid hr2
    clear hr2 hk
    rw [k4, kb]
    clear k4 kb
    go_enter Tryz.func86, Tryz.ntmps86
    go_wp2_with fail
    refine (uids_c a.h.t a.h.i b.h.t b.h.i _).mono ?_
    rintro e w' ⟨rfl, g⟩
    go_wp2_with fail
    go_ret
    exact ⟨retIv HR.out, (Gr.alloc (Gr.alloc (Gr.refl w) _) _).trans g⟩
   rw [if_neg k4] at hr2
   by_cases k5 : a.h.k = 5
   ·rw [if_pos k5] at hr2
    have kb : b.h.k = 5 := hk ▸ k5
    have HR := Lib.hid hr2
    clear hr2 hk
    rw [k5, kb]
    clear k5 kb
    go_enter Tryz.func86, Tryz.ntmps86
    go_wp2_with fail
    obtain ⟨W, hW⟩ : ∃ W, W = (w.alloc (.cells #[.int .i64 5, .bool a.h.b, .int .i64 a.h.n, .string a.h.s, .string a.h.t, .string a.h.i, .slice ai la ci, .slice an na cn] 27)).alloc (.cells #[.int .i64 5, .bool b.h.b, .int .i64 b.h.n, .string b.h.s, .string b.h.t, .string b.h.i, .slice ai' lb ci', .slice an' nb cn'] 27) := ⟨_, rfl⟩
    have g1 : Gr (w.alloc (.cells #[.int .i64 5, .bool a.h.b, .int .i64 a.h.n, .string a.h.s, .string a.h.t, .string a.h.i, .slice ai la ci, .slice an na cn] 27)) W := hW ▸ Gr.alloc (Gr.refl _) _
    have g2 : Gr ((w.alloc (.cells #[.int .i64 5, .bool a.h.b, .int .i64 a.h.n, .string a.h.s, .string a.h.t, .string a.h.i, .slice ai la ci, .slice an na cn] 27)).alloc (.cells #[.int .i64 5, .bool b.h.b, .int .i64 b.h.n, .string b.h.s, .string b.h.t, .string b.h.i, .slice ai' lb ci', .slice an' nb cn'] 27)) W := hW ▸ Gr.refl _
    have G0 := Lib.hid (((Gr.alloc (Gr.refl w) _).trans g1).drew)
    have a6 := (gr_box g1).2.2.2.2.2.2.1
    have b6 := (gr_box g2).2.2.2.2.2.2.1
    rw [show (w.alloc (.cells #[.int .i64 5, .bool a.h.b, .int .i64 a.h.n, .string a.h.s, .string a.h.t, .string a.h.i, .slice ai la ci, .slice an na cn] 27)).heap.size = w.heap.size + 1 by simp] at b6
    rw [← hW]
    clear hW g1 g2
    go_region_held3 (fun w' => w'.cell? ⟨w.heap.size, 6, none⟩ = some (.slice ai la ci) ∧ w'.cell? ⟨w.heap.size + 1, 6, none⟩ = some (.slice ai' lb ci')) (go_keep) (first
     | (go_at_call 134; refine (byItem_c _).mono ?_; rintro e w1 ⟨bx, rfl, hb, g⟩; have a6 := g.cell a6; have b6 := g.cell b6; have G := Lib.hid (G0.out.trans g))
     | (go_at_call 170; refine (CL.out bx _ _ _ hb (RA.out.low G.out.low) (RB.out.low G.out.low)).mono ?_; rintro e w2 ⟨rfl, g⟩; have a6 := g.cell a6; have b6 := g.cell b6; have G := Lib.hid (G.out.trans g)))
    all_goals
     go_wp2_with fail
     go_ret
     exact ⟨retIv HR.out, G.out⟩
   rw [if_neg k5] at hr2
   by_cases k6 : a.h.k = 6
   ·rw [if_pos k6] at hr2
    have kb : b.h.k = 6 := hk ▸ k6
    have HR := Lib.hid hr2
    have hcon := CR.out _ _ _ _ _ (HA.out.low (Gr.alloc (Gr.alloc (Gr.refl w) _) _ : Gr w ((w.alloc (.cells #[.int .i64 6, .bool a.h.b, .int .i64 a.h.n, .string a.h.s, .string a.h.t, .string a.h.i, .slice ai la ci, .slice an na cn] 27)).alloc (.cells #[.int .i64 6, .bool b.h.b, .int .i64 b.h.n, .string b.h.s, .string b.h.t, .string b.h.i, .slice ai' lb ci', .slice an' nb cn'] 27))).low) (HB.out.low (Gr.alloc (Gr.alloc (Gr.refl w) _) _ : Gr w ((w.alloc (.cells #[.int .i64 6, .bool a.h.b, .int .i64 a.h.n, .string a.h.s, .string a.h.t, .string a.h.i, .slice ai la ci, .slice an na cn] 27)).alloc (.cells #[.int .i64 6, .bool b.h.b, .int .i64 b.h.n, .string b.h.s, .string b.h.t, .string b.h.i, .slice ai' lb ci', .slice an' nb cn'] 27))).low)
    unfold avv at hcon
    rw [k6, kb] at hcon
    have HC := Lib.hid hcon
    clear hr2 hk hcon
    rw [k6, kb]
    clear k6 kb
    go_enter Tryz.func86, Tryz.ntmps86
    go_wp2_with fail
    refine HC.out.mono ?_
    rintro e w' ⟨rfl, g⟩
    go_wp2_with fail
    go_ret
    exact ⟨retIv HR.out, (Gr.alloc (Gr.alloc (Gr.refl w) _) _).trans g⟩
   ·rw [if_neg k6] at hr2
    subst hr2
    go_enter Tryz.func86, Tryz.ntmps86
    go_wp2_with fail
    go_ret
    exact ⟨rfl, Gr.alloc (Gr.alloc (Gr.refl w) _) _⟩
  ·rw [if_neg hk] at hr2
   have HR := Lib.hid hr2
   clear hr2
   go_enter Tryz.func86, Tryz.ntmps86
   go_wp2_with fail
   refine (iCmp_c a.h.k b.h.k _).mono ?_
   rintro e w' ⟨rfl, rfl⟩
   go_wp2_with fail
   go_ret
   exact ⟨retIv HR.out, Gr.alloc (Gr.alloc (Gr.refl w) _) _⟩
theorem order_c (a b : V) : OrdC 86 a b := order_n (dep a) a b (Nat.le_refl _)
end Go.Proofs.YtnchohglplobeaaGreat
namespace Go.Proofs.YtnchohglplobeaaGreat
open Go.RowKit Go.Maps Go.Sort
theorem RowsAt.low {w w' : World} {f : Us → Option Value} {g : Us → List Us} (h : RowsAt w f g) (hl : Low w w') : RowsAt w' f g := ⟨fun u v hv => (h.row u v hv).low hl, h.few⟩
theorem Low.trans_belowU {a b d : World} (h : Low a b) {B : Nat} (k : RowKit.Below B b d) (hB : a.heap.size ≤ B) : Low a d :=
 ⟨k.os.trans h.1, k.output.trans h.2.1, Nat.le_trans h.2.2.1 k.size, fun i hi => (k.block i (Nat.lt_of_lt_of_le hi hB)).trans (h.2.2.2 i hi)⟩
theorem low_newU {a b : World} (h : Low a b) (o : Obj) : Low a (b.alloc o) := h.trans (Low.of_below ((Below.refl b.heap.size b).alloc (Nat.le_refl _) o))
theorem u_info : (Tryz.prog.info? 23).map (fun i => (i.zero, i.size, i.bytes)) = some (some (.agg #[.string ⟨#[]⟩, .string ⟨#[]⟩]), 2, 32) := by kernel_rfl
theorem encU_len (x : Us) : x.cs.length = 2 := rfl
theorem encU_one (x : Us) : ∀ u ∈ x.cs, u.oneCell' = true := by
 intro u hu
 simp [Us.cs] at hu
 rcases hu with rfl | rfl <;> rfl
abbrev OwnU (B : Nat) (w : World) (v : Value) (l : List Us) : Prop := OwnR 23 2 Us.cs B w v l
def Cntv (w : World) (b n : Nat) (c : Us → Int) : Prop := ∃ fc, MapAt keyUs w b n fc ∧ ∀ x, (fc x).getD (.int .i64 0) = .int .i64 (c x)
theorem Cntv.block {w w' : World} {b n : Nat} {c : Us → Int} (h : Cntv w b n c) (e : w'.heap[b]? = w.heap[b]?) : Cntv w' b n c := by
 obtain ⟨fc, h1, h2⟩ := h
 exact ⟨fc, h1.block e, h2⟩
theorem Cntv.lt {w : World} {b n : Nat} {c : Us → Int} (h : Cntv w b n c) : b < w.heap.size := by
 obtain ⟨fc, h1, h2⟩ := h
 exact h1.lt
theorem ownU_pop {B : Nat} {w : World} {g n c : Nat} {L : List Us} {x : Us} (h : OwnU B w (.slice (some ⟨g, 0, none⟩) n c) (L.concat x)) : OwnU B w (.slice (some ⟨g, 0, none⟩) L.length c) L := by
 obtain ⟨h1, ⟨h2, _⟩ | ⟨g', cap, cur, hv, h3, h4, h5, h6, h7, h8⟩⟩ := h
 ·simp at h2
 ·simp only [Value.slice.injEq, Option.some.injEq, Addr.mk.injEq] at hv
  obtain ⟨⟨rfl, -, -⟩, -, rfl⟩ := hv
  simp at h5 h8
  refine ⟨flat_len encU_len L, .inr ⟨_, _, cur, rfl, h3, h4, by omega, h6, h7, ?_⟩⟩
  have hf := flat_len encU_len L
  have h9 := congrArg (List.take (L.length * 2)) h8
  rw [List.take_take, List.take_append_of_le_length (by omega), List.take_of_length_le (l := L.flatMap Us.cs) (by omega)] at h9
  rw [← h9]
  congr 1
  omega
end Go.Proofs.YtnchohglplobeaaGreat
namespace Go.Proofs.YtnchohglplobeaaGreat
section
variable {c : V → Int × V}
structure Sim (l m : List En) : Prop where
 u : (namesE l).Perm (namesE m)
 fw : ∀ e ∈ l, ∃ d ∈ m, d.u = e.u ∧ d.a = e.a ∧ ∀ z, z ∈ d.ps ↔ z ∈ e.ps
 bw : ∀ d ∈ m, ∃ e ∈ l, d.u = e.u ∧ d.a = e.a ∧ ∀ z, z ∈ d.ps ↔ z ∈ e.ps
theorem Sim.symm {l m : List En} (h : Sim l m) : Sim m l where
 u := h.u.symm
 fw := fun d hd => by obtain ⟨e, he, h1, h2, h3⟩ := h.bw d hd; exact ⟨e, he, h1.symm, h2.symm, fun z => (h3 z).symm⟩
 bw := fun e he => by obtain ⟨d, hd, h1, h2, h3⟩ := h.fw e he; exact ⟨d, hd, h1.symm, h2.symm, fun z => (h3 z).symm⟩
end
end Go.Proofs.YtnchohglplobeaaGreat
namespace Go.Proofs.YtnchohglplobeaaGreat
open Go.RowKit Go.Sort Go.Maps
def UsIn (A : Nat → Prop) (w : World) (r : Value) (l : List Us) : Prop :=
 ∃ ao c, r = .slice ao l.length c ∧ (l.length ≤ c ∧ c ≤ 9223372036854775807) ∧ ∀ j (hj : j < l.length), ∃ b o, ao = some ⟨b, o, none⟩ ∧ A b ∧ CellsAtv w b (o + j * 2) l[j].cs
theorem UsIn.any {A : Nat → Prop} {w : World} {r : Value} {l : List Us} (h : UsIn A w r l) : UsAt w r l := by
 obtain ⟨ao, c, rfl, hc, hx⟩ := h
 refine ⟨ao, c, rfl, hc, fun j hj => ?_⟩
 obtain ⟨b, o, rfl, _, hs⟩ := hx j hj
 exact ⟨b, o, rfl, hs⟩
theorem UsIn.to {A A' : Nat → Prop} {w w' : World} (h : ∀ b, A b → b < w.heap.size → A' b ∧ w'.heap[b]? = w.heap[b]?) {r : Value} {l : List Us} (hu : UsIn A w r l) : UsIn A' w' r l := by
 obtain ⟨ao, c, rfl, hc, hx⟩ := hu
 refine ⟨ao, c, rfl, hc, fun j hj => ?_⟩
 obtain ⟨b, o, rfl, ha, hs⟩ := hx j hj
 have hb := cell_lt (hs 0 _ rfl)
 exact ⟨b, o, rfl, (h b ha hb).1, fun k v hv => cell_tov (hs k v hv) fun k => (h b ha k).2⟩
theorem UsIn.low {A : Nat → Prop} {w w' : World} {r : Value} {l : List Us} (h : UsIn A w r l) (hl : Low w w') : UsIn A w' r l := h.to fun b ha hb => ⟨ha, hl.2.2.2 b hb⟩
theorem UsIn.mono {A A' : Nat → Prop} {w : World} {r : Value} {l : List Us} (h : UsIn A w r l) (hA : ∀ b, A b → A' b) : UsIn A' w r l := h.to fun b ha _ => ⟨hA b ha, rfl⟩
theorem UsIn.shape {A : Nat → Prop} {w : World} {ao : Option Addr} {n c : Nat} {l : List Us} (h : UsIn A w (.slice ao n c) l) : n = l.length ∧ l.length ≤ c ∧ c ≤ 9223372036854775807 := by
 obtain ⟨ao, c, hv, hc, -⟩ := h
 simp only [Value.slice.injEq] at hv
 obtain ⟨-, rfl, rfl⟩ := hv
 exact ⟨rfl, hc⟩
theorem OwnR.usIn {B : Nat} {w : World} {v : Value} {l : List Us} (h : OwnU B w v l) {A : Nat → Prop} (hA : ∀ g, v.ownBlock = some g → A g) : UsIn A w v l := by
 obtain ⟨ao, cap, rfl, h1, h2, h3⟩ := h.shape
 refine ⟨ao, cap, rfl, ⟨h1, h2⟩, fun j hj => ?_⟩
 rcases h3 with h0 | ⟨g, rfl, -, -⟩
 ·rw [h0] at hj; simp at hj
 ·refine ⟨g, 0, rfl, hA g rfl, fun c u hu => ?_⟩
  have hc : c < 2 := by have := (List.getElem?_eq_some_iff.1 hu).1; simpa [Us.cs] using this
  rw [Nat.zero_add, OwnR.cell encU_len h j c hj hc]
  exact hu
structure Ee where
 e : En
 ap : Option Addr
 cp : Nat
 ai : Option Addr
 ci : Nat
 an : Option Addr
 cn : Nat
def Ee.sh (q : Ee) : Sh := ⟨q.e.u, q.ap, q.e.ps.length, q.cp, q.e.a.h, q.ai, q.e.a.l.length, q.ci, q.an, q.e.a.ns.length, q.cn⟩
def Ee.it (q : Ee) : Value := .slice q.ai q.e.a.l.length q.ci
def Ee.nm (q : Ee) : Value := .slice q.an q.e.a.ns.length q.cn
def EeOk (A : Nat → Prop) (w : World) (q : Ee) : Prop := UsIn A w q.sh.p q.e.ps ∧ Rep A w q.e.a q.it q.nm
theorem EeOk.to {A A' : Nat → Prop} {w w' : World} (h : ∀ b, A b → b < w.heap.size → A' b ∧ w'.heap[b]? = w.heap[b]?) {q : Ee} (hq : EeOk A w q) : EeOk A' w' q := ⟨hq.1.to h, Rep.to h _ hq.2⟩
theorem EeOk.low {A : Nat → Prop} {w w' : World} {q : Ee} (hq : EeOk A w q) (hl : Low w w') : EeOk A w' q := hq.to fun b ha hb => ⟨ha, hl.2.2.2 b hb⟩
def EtAt (w : World) (r : Value) (qs : List Ee) : Prop := EsAt w r (qs.map Ee.sh) ∧ ∀ q ∈ qs, EeOk (fun _ => True) w q
theorem EtAt.low {w w' : World} {r : Value} {qs : List Ee} (h : EtAt w r qs) (hl : Low w w') : EtAt w' r qs := ⟨h.1.low hl, fun q hq => (h.2 q hq).low hl⟩
theorem EtAt.at {w : World} {r : Value} {qs : List Ee} (h : EtAt w r qs) : ∃ ao c, r = .slice ao qs.length c ∧ (qs.length ≤ c ∧ c ≤ 9223372036854775807) ∧ ∀ j (hj : j < qs.length), ∃ b o, ao = some ⟨b, o, none⟩ ∧ CellsAtv w b (o + j * 11) qs[j].sh.cs := by
 obtain ⟨ao, c, rfl, hc, hx⟩ := h.1
 refine ⟨ao, c, by rw [List.length_map], by rwa [List.length_map] at hc, fun j hj => ?_⟩
 obtain ⟨b, o, rfl, hs⟩ := hx j (by rwa [List.length_map])
 rw [List.getElem_map] at hs
 exact ⟨b, o, rfl, hs⟩
def ensOf (qs : List Ee) : List En := qs.map (·.e)
end Go.Proofs.YtnchohglplobeaaGreat
namespace Go.Proofs.YtnchohglplobeaaGreat
open Go.RowKit Go.Sort
theorem bh_of {w : World} {v : V} {it nm : Value} (h : R w v it nm) : Bh v.h := (rep_v.1 h).1
end Go.Proofs.YtnchohglplobeaaGreat
namespace Go.Proofs.YtnchohglplobeaaGreat
open Go.RowKit Go.Sort
theorem retBv {a b : Bool} (h : a = b) : Ending.returned (.bool a) = .returned (.bool b) := by rw [h]
theorem cells_box {w W : World} {h : Hd} {it nm : Value} {t : TypeId} (g : Gr (w.alloc (.cells #[.int .i64 h.k, .bool h.b, .int .i64 h.n, .string h.s, .string h.t, .string h.i, it, nm] t)) W) : CellsAtv W w.heap.size 0 (hdc h it nm) := fun j v hv => by
 rw [Nat.zero_add]
 exact gr_cells g (by simpa [hdc] using hv)
def IdxPv (p : V → Bool) (l : List V) (w : World) (e : Ending) (w' : World) : Prop := ∃ k : Int, e = .returned (.int .i64 k) ∧ decide (0 ≤ k) = l.any p ∧ Gr w w'
set_option maxHeartbeats 1600000 in
theorem idxH_c (p : V → Bool) (bx : Nat) (l : List V) (w : World) (hc : ∀ x ∈ l, ∀ w', Gr w w' → ∀ it nm, R w' x it nm → Calls Tryz.prog 181 #[avv x.h it nm, .pointer (some ⟨bx, 0, none⟩)] w' fun e w'' => e = .returned (.bool (p x)) ∧ Gr w' w'')
  (it : Value) (hl : Ro w l it) : Calls Tryz.prog 174 #[it, .func (.func 181) #[] #[.pointer (some ⟨bx, 0, none⟩)]] w (IdxPv p l w) := by
 obtain ⟨al, cl, rfl, ⟨zl, zl'⟩, -⟩ := id hl
 have HL := Lib.hid hl
 have HI := Lib.hid hc
 clear hl hc
 go_enter Tryz.func174, Tryz.ntmps174
 go_wp2_with fail
 go_loopg [8] l.length (fun gk vi wr => ∃ i : Nat, vi = .int .i64 (i : Int) ∧ i ≤ l.length ∧ l.length - i ≤ gk ∧ Hid (Gr w wr) ∧ Hid (l.any p = (l.drop i).any p))
 case atStart => exact ⟨0, rfl, Nat.zero_le _, Nat.le_refl _, Lib.hid (Gr.refl _), rfl⟩
 case round =>
  obtain ⟨i, rfl, hi, hg, G, K⟩ := hrel
  by_cases hlt : i < l.length
  ·have z1 : (i : Int) < (l.length : Int) := by omega
   obtain ⟨b, o, ai, ci, an, cn, rfl, hcs, hrx⟩ := ro_at (HL.out.low G.out.low) hlt
   obtain ⟨e0, e1, e2, e3, e4, e5, e6, e7⟩ := cells8 hcs
   have hcon := HI.out l[i] (List.getElem_mem hlt) wr G.out _ _ hrx
   have hst : l.any p = (p l[i] || (l.drop (i + 1)).any p) := by rw [K.out, drop_consv hlt, List.any_cons]
   generalize p l[i] = c at hcon hst
   have HC := Lib.hid hcon
   have HS := Lib.hid hst
   clear hcon hst hcs hrx
   go_wp2_with fail
   refine HC.out.mono ?_
   rintro e w1 ⟨rfl, g⟩
   cases c with
   | true =>
    have HQ := Lib.hid (show decide ((0 : Int) ≤ (i : Int)) = l.any p by rw [HS.out]; simp)
    go_wp2_with fail
    go_ret
    exact ⟨_, rfl, HQ.out, G.out.trans g⟩
   | false =>
    have HS' : Hid (l.any p = (l.drop (i + 1)).any p) := by show _ = _; rw [HS.out]; rfl
    go_wp2_with fail
    go_roundg (l.length - (i + 1))
    case measure => omega
    case rel => exact ⟨i + 1, by go_num, by omega, by omega, Lib.hid (G.out.trans g), HS'⟩
  ·have z1 : ¬ (i : Int) < (l.length : Int) := by omega
   have HQ := Lib.hid (show decide ((0 : Int) ≤ -1) = l.any p by rw [K.out, List.drop_eq_nil_of_le (show l.length ≤ i by omega)]; rfl)
   go_wp2_with fail
   go_ret
   exact ⟨_, rfl, HQ.out, G.out⟩
theorem conH_c (p : V → Bool) (bx : Nat) (l : List V) (w : World) (hc : ∀ x ∈ l, ∀ w', Gr w w' → ∀ it nm, R w' x it nm → Calls Tryz.prog 181 #[avv x.h it nm, .pointer (some ⟨bx, 0, none⟩)] w' fun e w'' => e = .returned (.bool (p x)) ∧ Gr w' w'')
  (it : Value) (hl : Ro w l it) : Calls Tryz.prog 136 #[it, .func (.func 181) #[] #[.pointer (some ⟨bx, 0, none⟩)]] w fun e w' => e = .returned (.bool (l.any p)) ∧ Gr w w' := by
 have HC := Lib.hid (idxH_c p bx l w hc it hl)
 obtain ⟨al, cl, rfl, -, -⟩ := id hl
 clear hc hl
 go_enter Tryz.func136, Tryz.ntmps136
 go_wp2_with fail
 refine HC.out.mono ?_
 rintro e w1 ⟨k, rfl, hk, g⟩
 have HK := Lib.hid hk
 clear hk
 go_wp2_with fail
 go_ret
 exact ⟨retBv HK.out, g⟩
set_option maxHeartbeats 1600000 in
theorem idxD_cv (p : V → Bool) (bx : Nat) (l : List V) (w : World) (hc : ∀ x ∈ l, ∀ w', Gr w w' → ∀ it nm, R w' x it nm → Calls Tryz.prog 138 #[avv x.h it nm, .pointer (some ⟨bx, 0, none⟩)] w' fun e w'' => e = .returned (.bool (p x)) ∧ Gr w' w'')
  (it : Value) (hl : Ro w l it) : Calls Tryz.prog 174 #[it, .func (.func 138) #[] #[.pointer (some ⟨bx, 0, none⟩)]] w (IdxPv p l w) := by
 obtain ⟨al, cl, rfl, ⟨zl, zl'⟩, -⟩ := id hl
 have HL := Lib.hid hl
 have HI := Lib.hid hc
 clear hl hc
 go_enter Tryz.func174, Tryz.ntmps174
 go_wp2_with fail
 go_loopg [8] l.length (fun gk vi wr => ∃ i : Nat, vi = .int .i64 (i : Int) ∧ i ≤ l.length ∧ l.length - i ≤ gk ∧ Hid (Gr w wr) ∧ Hid (l.any p = (l.drop i).any p))
 case atStart => exact ⟨0, rfl, Nat.zero_le _, Nat.le_refl _, Lib.hid (Gr.refl _), rfl⟩
 case round =>
  obtain ⟨i, rfl, hi, hg, G, K⟩ := hrel
  by_cases hlt : i < l.length
  ·have z1 : (i : Int) < (l.length : Int) := by omega
   obtain ⟨b, o, ai, ci, an, cn, rfl, hcs, hrx⟩ := ro_at (HL.out.low G.out.low) hlt
   obtain ⟨e0, e1, e2, e3, e4, e5, e6, e7⟩ := cells8 hcs
   have hcon := HI.out l[i] (List.getElem_mem hlt) wr G.out _ _ hrx
   have hst : l.any p = (p l[i] || (l.drop (i + 1)).any p) := by rw [K.out, drop_consv hlt, List.any_cons]
   generalize p l[i] = c at hcon hst
   have HC := Lib.hid hcon
   have HS := Lib.hid hst
   clear hcon hst hcs hrx
   go_wp2_with fail
   refine HC.out.mono ?_
   rintro e w1 ⟨rfl, g⟩
   cases c with
   | true =>
    have HQ := Lib.hid (show decide ((0 : Int) ≤ (i : Int)) = l.any p by rw [HS.out]; simp)
    go_wp2_with fail
    go_ret
    exact ⟨_, rfl, HQ.out, G.out.trans g⟩
   | false =>
    have HS' : Hid (l.any p = (l.drop (i + 1)).any p) := by show _ = _; rw [HS.out]; rfl
    go_wp2_with fail
    go_roundg (l.length - (i + 1))
    case measure => omega
    case rel => exact ⟨i + 1, by go_num, by omega, by omega, Lib.hid (G.out.trans g), HS'⟩
  ·have z1 : ¬ (i : Int) < (l.length : Int) := by omega
   have HQ := Lib.hid (show decide ((0 : Int) ≤ -1) = l.any p by rw [K.out, List.drop_eq_nil_of_le (show l.length ≤ i by omega)]; rfl)
   go_wp2_with fail
   go_ret
   exact ⟨_, rfl, HQ.out, G.out⟩
theorem conD_c (p : V → Bool) (bx : Nat) (l : List V) (w : World) (hc : ∀ x ∈ l, ∀ w', Gr w w' → ∀ it nm, R w' x it nm → Calls Tryz.prog 138 #[avv x.h it nm, .pointer (some ⟨bx, 0, none⟩)] w' fun e w'' => e = .returned (.bool (p x)) ∧ Gr w' w'')
  (it : Value) (hl : Ro w l it) : Calls Tryz.prog 136 #[it, .func (.func 138) #[] #[.pointer (some ⟨bx, 0, none⟩)]] w fun e w' => e = .returned (.bool (l.any p)) ∧ Gr w w' := by
 have HC := Lib.hid (idxD_cv p bx l w hc it hl)
 obtain ⟨al, cl, rfl, -, -⟩ := id hl
 clear hc hl
 go_enter Tryz.func136, Tryz.ntmps136
 go_wp2_with fail
 refine HC.out.mono ?_
 rintro e w1 ⟨k, rfl, hk, g⟩
 have HK := Lib.hid hk
 clear hk
 go_wp2_with fail
 go_ret
 exact ⟨retBv HK.out, g⟩
theorem same_c (a b : V) (w : World) (it nm it' nm' : Value) (ha : R w a it nm) (hb : R w b it' nm') : Calls Tryz.prog 100 #[avv a.h it nm, avv b.h it' nm'] w fun e w' => e = .returned (.bool (ord a b == 0)) ∧ Gr w w' := by
 obtain ⟨ai, ci, an, cn, rfl, rfl⟩ := r_slices ha
 obtain ⟨ai', ci', an', cn', rfl, rfl⟩ := r_slices hb
 have HC := Lib.hid fun W (h : Low w W) => order_c a b W _ _ _ _ (ha.low h) (hb.low h)
 generalize ord a b = r at HC ⊢
 have HE := Lib.hid (Gr.alloc (Gr.alloc (Gr.refl w) _) _ : Gr w ((w.alloc (.cells #[.int .i64 a.h.k, .bool a.h.b, .int .i64 a.h.n, .string a.h.s, .string a.h.t, .string a.h.i, .slice ai a.l.length ci, .slice an a.ns.length cn] 27)).alloc (.cells #[.int .i64 b.h.k, .bool b.h.b, .int .i64 b.h.n, .string b.h.s, .string b.h.t, .string b.h.i, .slice ai' b.l.length ci', .slice an' b.ns.length cn'] 27)))
 clear ha hb
 unfold avv at *
 go_enter Tryz.func100, Tryz.ntmps100
 go_wp2_with fail
 refine (HC.out _ HE.out.low).mono ?_
 rintro e w1 ⟨rfl, g⟩
 go_wp2_with fail
 go_ret
 exact ⟨rfl, HE.out.trans g⟩
set_option maxHeartbeats 800000 in
theorem holdsC_c (a b : V) (bx : Nat) (w : World) (it nm it' nm' : Value) (ha : R w a it nm) (hb : R w b it' nm') (hc : CellsAtv w bx 0 (hdc b.h it' nm')) :
  Calls Tryz.prog 181 #[avv a.h it nm, .pointer (some ⟨bx, 0, none⟩)] w fun e w' => e = .returned (.bool (ord a b == 0)) ∧ Gr w w' := by
 obtain ⟨ai, ci, an, cn, rfl, rfl⟩ := r_slices ha
 obtain ⟨ai', ci', an', cn', rfl, rfl⟩ := r_slices hb
 have HC := Lib.hid fun W (h : Low w W) => same_c a b W _ _ _ _ (ha.low h) (hb.low h)
 generalize (ord a b == 0) = r at HC ⊢
 have HE := Lib.hid (Gr.alloc (Gr.refl w) _ : Gr w (w.alloc (.cells #[.int .i64 a.h.k, .bool a.h.b, .int .i64 a.h.n, .string a.h.s, .string a.h.t, .string a.h.i, .slice ai a.l.length ci, .slice an a.ns.length cn] 27)))
 obtain ⟨e0, e1, e2, e3, e4, e5, e6, e7⟩ := cells8a hc
 simp only [Nat.zero_add] at e1 e2 e3 e4 e5 e6 e7
 clear ha hb hc
 unfold avv at *
 go_enter Tryz.func181, Tryz.ntmps181
 go_wp2_with fail
 refine (HC.out _ HE.out.low).mono ?_
 rintro e w1 ⟨rfl, g⟩
 go_wp2_with fail
 go_ret
 exact ⟨rfl, HE.out.trans g⟩
def holdsB (s x : V) : Bool := s.h.k == 5 && s.l.any fun y => ord y x == 0
set_option maxHeartbeats 1600000 in
theorem holds_c (a b : V) (w : World) (it nm it' nm' : Value) (ha : R w a it nm) (hb : R w b it' nm') : Calls Tryz.prog 144 #[avv a.h it nm, avv b.h it' nm'] w fun e w' => e = .returned (.bool (holdsB a b)) ∧ Gr w w' := by
 obtain ⟨ai, ci, an, cn, rfl, rfl⟩ := r_slices ha
 obtain ⟨ai', ci', an', cn', rfl, rfl⟩ := r_slices hb
 have HE := Lib.hid (Gr.alloc (Gr.alloc (Gr.refl w) _) _ : Gr w ((w.alloc (.cells #[.int .i64 a.h.k, .bool a.h.b, .int .i64 a.h.n, .string a.h.s, .string a.h.t, .string a.h.i, .slice ai a.l.length ci, .slice an a.ns.length cn] 27)).alloc (.cells #[.int .i64 b.h.k, .bool b.h.b, .int .i64 b.h.n, .string b.h.s, .string b.h.t, .string b.h.i, .slice ai' b.l.length ci', .slice an' b.ns.length cn'] 27)))
 by_cases hk : a.h.k = 5
 ·have hq : holdsB a b = a.l.any fun y => ord y b == 0 := by unfold holdsB; rw [hk]; rfl
  rw [hq]
  obtain ⟨W, hW⟩ : ∃ W, W = (w.alloc (.cells #[.int .i64 a.h.k, .bool a.h.b, .int .i64 a.h.n, .string a.h.s, .string a.h.t, .string a.h.i, .slice ai a.l.length ci, .slice an a.ns.length cn] 27)).alloc (.cells #[.int .i64 b.h.k, .bool b.h.b, .int .i64 b.h.n, .string b.h.s, .string b.h.t, .string b.h.i, .slice ai' b.l.length ci', .slice an' b.ns.length cn'] 27) := ⟨_, rfl⟩
  have hgw : Gr w W := hW ▸ HE.out
  have hbx : CellsAtv W (w.heap.size + 1) 0 (hdc b.h (.slice ai' b.l.length ci') (.slice an' b.ns.length cn')) := by
   have hx := cells_box (h := b.h) (it := .slice ai' b.l.length ci') (nm := .slice an' b.ns.length cn') (w := (w.alloc (.cells #[.int .i64 a.h.k, .bool a.h.b, .int .i64 a.h.n, .string a.h.s, .string a.h.t, .string a.h.i, .slice ai a.l.length ci, .slice an a.ns.length cn] 27))) (t := 27) (hW ▸ Gr.refl _ : Gr _ W)
   rwa [show (w.alloc (.cells #[.int .i64 a.h.k, .bool a.h.b, .int .i64 a.h.n, .string a.h.s, .string a.h.t, .string a.h.i, .slice ai a.l.length ci, .slice an a.ns.length cn] 27)).heap.size = w.heap.size + 1 by simp] at hx
  have HC := Lib.hid (conH_c (fun y => ord y b == 0) (w.heap.size + 1) a.l W (fun x _ w' h it nm hr => holdsC_c x b _ w' it nm _ _ hr ((hb.low hgw.low).low h.low) (h.low.cells hbx)) _ (((rep_v.1 ha).2.2 : Ro w a.l _).low hgw.low))
  clear hq hbx hgw ha hb
  generalize (a.l.any fun y => ord y b == 0) = r at HC ⊢
  rw [hW] at HC
  clear hW
  unfold avv
  rw [hk] at HE HC
  rw [hk]
  go_enter Tryz.func144, Tryz.ntmps144
  go_wp2_with fail
  refine HC.out.mono ?_
  rintro e w1 ⟨rfl, g⟩
  go_wp2_with fail
  go_ret
  exact ⟨rfl, HE.out.trans g⟩
 ·have hq : holdsB a b = false := by unfold holdsB; simp [hk]
  rw [hq]
  clear ha hb hq
  unfold avv
  go_enter Tryz.func144, Tryz.ntmps144
  go_wp2_with fail
  go_ret
  exact ⟨rfl, HE.out⟩
end Go.Proofs.YtnchohglplobeaaGreat
namespace Go.Proofs.YtnchohglplobeaaGreat
open Go.RowKit Go.Sort Go.WideShapes
theorem tl_injv {s t : ByteArray} : s.toList = t.toList ↔ s = t := by
 rw [ByteArray.toList_eq, ByteArray.toList_eq]
 exact ⟨bytes_inj, fun h => by rw [h]⟩
end Go.Proofs.YtnchohglplobeaaGreat
