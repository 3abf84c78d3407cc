/- conform.known and conform.complete, with their closures: are a record's names an attribute's each, are all that must be there? Condition: what conform.of answers of types less deep. Names compared, as one operation. No condition. Entities as cells of a row of the call's own. No condition. conform.same and slices.EqualFunc at entities; slices.Equal at names. Condition: none of the first; the entities' attributes as they must be of the second. slices.Contains at texts, and the reference's has: is a text among names? No condition. -/
import Derived.Test.YtnenjgngahipdaaGreatZg11
import Derived.Test.YtnenjgngahipdaaGreatZg06
import Derived.BigQuiet
import Derived.Deep.DeepCutAuto
import Derived.Test.YtnenjgngahipdaaGreatZg02
import Derived.Test.YtnenjgngahipdaaGreatZg08
import Derived.Test.YtnenjgngahipdaaGreatZg09
import Derived.Test.YtnenjgngahipdaaGreatZg10
import Derived.Test.YtnenjgngahipdaaGreatShelf
import Derived.Lib.SlicesS
set_option linter.unusedVariables false
set_option linter.unusedSimpArgs false
set_option linter.unnecessarySimpa false
namespace Go.Proofs.YtnenjgngahipdaaGreat
open Go.RowKit
set_option linter.unusedVariables false
theorem gen_w {P : World → Prop} {W : World} (h : ∀ V, V = W → P V) : P W := h W rfl
theorem box8v {w : World} {b : Nat} {h : Hd} {it nm : Value} (hc : CellsAtv w b 0 (hdc h it nm)) :
    w.cell? ⟨b, 0, none⟩ = some (.int .i64 h.k) ∧ w.cell? ⟨b, 1, none⟩ = some (.bool h.b) ∧ w.cell? ⟨b, 2, none⟩ = some (.int .i64 h.n) ∧ w.cell? ⟨b, 3, none⟩ = some (.string h.s) ∧
    w.cell? ⟨b, 4, none⟩ = some (.string h.t) ∧ w.cell? ⟨b, 5, none⟩ = some (.string h.i) ∧ w.cell? ⟨b, 6, none⟩ = some it ∧ w.cell? ⟨b, 7, none⟩ = some nm := by
  have h0 := cells8 hc
  simpa using h0
theorem BoxAt.at8 {w : World} {n : Nat} {c0 c1 c2 c3 c4 c5 c6 c7 : Value} (h : BoxAt w n [c0, c1, c2, c3, c4, c5, c6, c7]) :
    w.cell? ⟨n, 0, none⟩ = some c0 ∧ w.cell? ⟨n, 1, none⟩ = some c1 ∧ w.cell? ⟨n, 2, none⟩ = some c2 ∧ w.cell? ⟨n, 3, none⟩ = some c3 ∧ w.cell? ⟨n, 4, none⟩ = some c4 ∧ w.cell? ⟨n, 5, none⟩ = some c5 ∧ w.cell? ⟨n, 6, none⟩ = some c6 ∧ w.cell? ⟨n, 7, none⟩ = some c7 :=
  ⟨h.at 0 _ rfl, h.at 1 _ rfl, h.at 2 _ rfl, h.at 3 _ rfl, h.at 4 _ rfl, h.at 5 _ rfl, h.at 6 _ rfl, h.at 7 _ rfl⟩
theorem BoxAt.at6 {w : World} {n : Nat} {c0 c1 c2 c3 c4 c5 : Value} (h : BoxAt w n [c0, c1, c2, c3, c4, c5]) :
    w.cell? ⟨n, 0, none⟩ = some c0 ∧ w.cell? ⟨n, 1, none⟩ = some c1 ∧ w.cell? ⟨n, 2, none⟩ = some c2 ∧ w.cell? ⟨n, 3, none⟩ = some c3 ∧ w.cell? ⟨n, 4, none⟩ = some c4 ∧ w.cell? ⟨n, 5, none⟩ = some c5 :=
  ⟨h.at 0 _ rfl, h.at 1 _ rfl, h.at 2 _ rfl, h.at 3 _ rfl, h.at 4 _ rfl, h.at 5 _ rfl⟩
/-- What conform.of answers. -/
def OfC (n : Nat) : Prop := ∀ (v : V) (t : T) (w : World) (it nm e u : Value), Okv v → mayB n t = true → R w v it nm → RT (fun _ => True) w n t e u →
  Calls Tryz.prog 32 #[avv v.h it nm, tv t e u] w fun r w' => r = .returned (.bool (isV n v t)) ∧ Low w w'
set_option maxHeartbeats 3200000 in
set_option maxRecDepth 100000 in
theorem knownf_c (n : Nat) (ih : OfC n) (v : V) (l : List At) (s : ByteArray) (w : World) (it nm u : Value) (x0 x1 : Nat) (hv : R w v it nm) (ho : Okv v) (hl : RAs (fun _ => True) w n l u) (hm : ∀ x ∈ l, mayB n (aty x) = true)
    (c0 : w.cell? ⟨x0, 0, none⟩ = some u) (c1 : CellsAtv w x1 0 (hdc v.h it nm)) :
    Calls Tryz.prog 98 #[.string s, .pointer (some ⟨x0, 0, none⟩), .pointer (some ⟨x1, 0, none⟩)] w fun r w' => r = .returned (.bool (nameIs n v l s)) ∧ Low w w' := by
  obtain ⟨ai, ci, an', cn, rfl, rfl⟩ := r_slices hv
  obtain ⟨p, c, rfl, z1, z2⟩ := RowR.sl hl
  have CA := Lib.hid (attr9_c l s w _ hl)
  have HV := Lib.hid hv
  have HO := Lib.hid ho
  have HM := Lib.hid hm
  have C1 := Lib.hid c1
  obtain ⟨q, hq⟩ : ∃ q, q = nameIs n v l s := ⟨_, rfl⟩
  rw [← hq]
  have HQ := Lib.hid hq
  clear hv hl ho hm c1 hq
  go_enter Tryz.func98, Tryz.ntmps98
  go_wp2_with fail
  refine CA.out.mono ?_
  rintro e w1 ⟨x, pe, ce, pv, cv, b, rfl, l1, hx⟩
  have L1 := Lib.hid l1
  have HX := Lib.hid hx
  clear l1 hx CA c0
  go_upto_region 2 with fail
  refine gen_w (P := fun W => Code.wp _ _ _ _ W) (fun V1 hV1 => ?_)
  have LQ1 := Lib.hid (show Low w1 V1 by rw [hV1]; exact low_new (Low.refl _) _)
  have LV1 := Lib.hid (L1.out.trans LQ1.out)
  have BX := Lib.hid (BoxAt.made (cs := [.string (an x), .int .i64 (aty x).k, .string (aty x).n, .slice pe (aty x).l.length ce, .slice pv (aty x).ats.length cv, .bool (ao x)]) hV1 rfl rfl)
  clear hV1
  obtain ⟨e0, e1, e2, e3, e4, e5, e6, e7⟩ := box8v (LV1.out.cells C1.out)
  have CG := Lib.hid (get_c v s V1 _ _ (Rep.low HV.out LV1.out))
  unfold avv at CG
  go_wp2_with fail
  refine CG.out.mono ?_
  rintro e w2 ⟨gi, gn, rfl, hr2, g2⟩
  obtain ⟨gai, gci, gan, gcn, rfl, rfl⟩ := r_slices hr2
  have L2 := Lib.hid g2.low
  have HR2 := Lib.hid hr2
  clear hr2 g2 CG e0 e1 e2 e3 e4 e5 e6 e7
  obtain ⟨y, hy⟩ : ∃ y, y = getV v s := ⟨_, rfl⟩
  rw [← hy] at HR2 ⊢
  have HY := Lib.hid hy
  clear hy
  unfold avv
  go_upto_region 3 with fail
  refine gen_w (P := fun W => Code.wp _ _ _ _ W) (fun V2 hV2 => ?_)
  have LQ2 := Lib.hid (show Low w2 V2 by rw [hV2]; exact low_new (Low.refl _) _)
  have LV2 := Lib.hid (LV1.out.trans (L2.out.trans LQ2.out))
  have BY := Lib.hid (BoxAt.made (cs := [.int .i64 y.h.k, .bool y.h.b, .int .i64 y.h.n, .string y.h.s, .string y.h.t, .string y.h.i, .slice gai y.l.length gci, .slice gan y.ns.length gcn]) hV2 rfl rfl)
  clear hV2
  obtain ⟨d0, d1, d2, d3, d4, d5⟩ := (BX.out.low (L2.out.trans LQ2.out)).at6
  obtain ⟨f0, f1, f2, f3, f4, f5, f6, f7⟩ := BY.out.at8
  rcases HX.out with ⟨rfl, ha, -⟩ | ⟨rfl, i, hi, ha, rfl, hs, hrt⟩
  · have HF := Lib.hid (show false = q by
      rw [HQ.out]; unfold nameIs
      rcases gtAt_i l s with ⟨-, h2⟩ | ⟨k, hk, h2, -⟩
      · rw [h2]
      · rw [h2] at ha; omega)
    clear ha
    go_wp2_with fail
    go_ret
    exact ⟨retB HF.out, LV2.out⟩
  · have HF := Lib.hid (show isV n y (aty l[i]) = q by
      rw [HQ.out]; unfold nameIs
      rcases gtAt_i l s with ⟨h2, -⟩ | ⟨k, hk, h2, h3⟩
      · rw [h2] at ha; omega
      · have : k = i := by rw [h2] at ha; omega
        subst this
        rw [h3, HY.out])
    have CO := Lib.hid (ih y (aty l[i]) V2 _ _ _ _ (HY.out ▸ HO.out.get s) (HM.out _ (List.getElem_mem hi)) (Rep.low HR2.out LQ2.out) (RT.low hrt (LQ1.out.trans (L2.out.trans LQ2.out))))
    unfold avv tv at CO
    rw [HF.out] at CO
    clear ha hs hrt
    go_wp2_with fail
    refine CO.out.mono ?_
    rintro e w3 ⟨rfl, l3⟩
    have L3 := Lib.hid (LV2.out.trans l3)
    clear l3
    go_wp2_with fail
    go_ret
    exact ⟨rfl, L3.out⟩
set_option maxHeartbeats 3200000 in
set_option maxRecDepth 100000 in
theorem completef_c (v : V) (x : At) (w : World) (it nm : Value) (x0 : Nat) (pe : Option Addr) (ce : Nat) (pv : Option Addr) (cv : Nat) (hv : R w v it nm) (c1 : CellsAtv w x0 0 (hdc v.h it nm)) :
    Calls Tryz.prog 102 #[.agg #[.string (an x), .int .i64 (aty x).k, .string (aty x).n, .slice pe (aty x).l.length ce, .slice pv (aty x).ats.length cv, .bool (ao x)], .pointer (some ⟨x0, 0, none⟩)] w fun r w' => r = .returned (.bool (attrIs v x)) ∧ Low w w' := by
  obtain ⟨ai, ci, an', cn, rfl, rfl⟩ := r_slices hv
  obtain ⟨U, hU⟩ : ∃ U, U = w.alloc (.cells #[.string (an x), .int .i64 (aty x).k, .string (aty x).n, .slice pe (aty x).l.length ce, .slice pv (aty x).ats.length cv, .bool (ao x)] 63) := ⟨_, rfl⟩
  have LU := Lib.hid (show Low w U by rw [hU]; exact low_new (Low.refl w) _)
  have BX := Lib.hid (BoxAt.made (cs := [.string (an x), .int .i64 (aty x).k, .string (aty x).n, .slice pe (aty x).l.length ce, .slice pv (aty x).ats.length cv, .bool (ao x)]) hU rfl rfl)
  have CG := Lib.hid (get_c v (an x) U _ _ (Rep.low hv LU.out))
  have C1 := Lib.hid c1
  have HU := Lib.hid hU
  obtain ⟨z, hz⟩ : ∃ z, z = decide (0 ≤ getI v (an x)) := ⟨_, rfl⟩
  rw [← hz] at CG
  have HZ := Lib.hid (show (z || ao x) = attrIs v x by rw [hz]; rfl)
  clear hv c1 hU hz
  go_enter Tryz.func102, Tryz.ntmps102
  go_upto_region 1 with fail
  rw [← HU.out]
  obtain ⟨e0, e1, e2, e3, e4, e5, e6, e7⟩ := box8v (LU.out.cells C1.out)
  obtain ⟨d0, d1, d2, d3, d4, d5⟩ := BX.out.at6
  unfold avv at CG
  go_wp2_with fail
  refine CG.out.mono ?_
  rintro e w2 ⟨gi, gn, rfl, hr2, g2⟩
  obtain ⟨gai, gci, gan, gcn, rfl, rfl⟩ := r_slices hr2
  have L2 := Lib.hid g2.low
  clear hr2 g2 CG e0 e1 e2 e3 e4 e5 e6 e7 d0 d1 d2 d3 d4 d5
  unfold avv
  go_upto_region 2 with fail
  refine gen_w (P := fun W => Code.wp _ _ _ _ W) (fun V2 hV2 => ?_)
  have LQ2 := Lib.hid (show Low w2 V2 by rw [hV2]; exact low_new (Low.refl _) _)
  have LV2 := Lib.hid (LU.out.trans (L2.out.trans LQ2.out))
  clear hV2
  obtain ⟨d0, d1, d2, d3, d4, d5⟩ := (BX.out.low (L2.out.trans LQ2.out)).at6
  cases z with
  | true =>
    go_wp2_with fail
    go_ret
    exact ⟨retB (by rw [← HZ.out]; rfl), LV2.out⟩
  | false =>
    go_wp2_with fail
    go_ret
    exact ⟨retB (by rw [← HZ.out]; rfl), LV2.out⟩
set_option maxHeartbeats 3200000 in
set_option maxRecDepth 100000 in
theorem known_c (n : Nat) (ih : OfC n) (v : V) (l : List At) (w : World) (it nm u : Value) (hv : R w v it nm) (ho : Okv v) (hl : RAs (fun _ => True) w n l u) (hm : ∀ x ∈ l, mayB n (aty x) = true) :
    Calls Tryz.prog 63 #[avv v.h it nm, u] w fun r w' => r = .returned (.bool (v.ns.all (nameIs n v l))) ∧ Low w w' := by
  have hna : Na w v.ns nm := (rep_v.1 hv).2.1
  obtain ⟨ai, ci, an', cn, rfl, rfl⟩ := r_slices hv
  obtain ⟨p, c, rfl, z1, z2⟩ := RowR.sl hl
  obtain ⟨U0, hU0⟩ : ∃ U, U = w.alloc (.cells #[.int .i64 v.h.k, .bool v.h.b, .int .i64 v.h.n, .string v.h.s, .string v.h.t, .string v.h.i, .slice ai v.l.length ci, .slice an' v.ns.length cn] 27) := ⟨_, rfl⟩
  obtain ⟨U, hU⟩ : ∃ U, U = U0.alloc (.cells #[.slice p l.length c] 29) := ⟨_, rfl⟩
  have s0 : U0.heap.size = w.heap.size + 1 := by rw [hU0]; simp
  have L0 : Low U0 U := by rw [hU]; exact low_new (Low.refl _) _
  have LU := Lib.hid (show Low w U from (by rw [hU0]; exact low_new (Low.refl w) _ : Low w U0).trans L0)
  have BV := Lib.hid ((BoxAt.made (cs := [.int .i64 v.h.k, .bool v.h.b, .int .i64 v.h.n, .string v.h.s, .string v.h.t, .string v.h.i, .slice ai v.l.length ci, .slice an' v.ns.length cn]) hU0 rfl rfl).low L0)
  have BL := Lib.hid (BoxAt.made (cs := [.slice p l.length c]) hU s0 rfl)
  have CB := Lib.hid (allS_c v.ns (nameIs n v l) (w.heap.size + 1) w.heap.size U _ (NamesAt.low hna LU.out) fun j hj W hlW _ => knownf_c n ih v l v.ns[j] W _ _ _ (w.heap.size + 1) w.heap.size (Rep.low hv (LU.out.trans hlW)) ho (RAs.low hl (LU.out.trans hlW)) hm (hlW.keep (BL.out.at 0 _ rfl)) (hlW.cells BV.out.cells))
  obtain ⟨q, hq⟩ : ∃ q, q = v.ns.all (nameIs n v l) := ⟨_, rfl⟩
  rw [← hq] at CB ⊢
  rw [hU0] at hU
  have HU := Lib.hid hU
  clear hv hl ho hm hU hU0 L0 s0 hna hq
  unfold avv
  go_enter Tryz.func63, Tryz.ntmps63
  go_upto_region 1 with fail
  rw [← HU.out]
  obtain ⟨e0, e1, e2, e3, e4, e5, e6, e7⟩ := BV.out.at8
  go_wp2_with fail
  refine CB.out.mono ?_
  rintro e w2 ⟨rfl, l2⟩
  have L2 := Lib.hid (LU.out.trans l2)
  clear l2
  go_wp2_with fail
  go_ret
  exact ⟨rfl, L2.out⟩
set_option maxHeartbeats 3200000 in
set_option maxRecDepth 100000 in
theorem complete_c (n : Nat) (v : V) (l : List At) (w : World) (it nm u : Value) (hv : R w v it nm) (hl : RAs (fun _ => True) w n l u) :
    Calls Tryz.prog 64 #[avv v.h it nm, u] w fun r w' => r = .returned (.bool (l.all (attrIs v))) ∧ Low w w' := by
  obtain ⟨ai, ci, an', cn, rfl, rfl⟩ := r_slices hv
  obtain ⟨p, c, rfl, z1, z2⟩ := RowR.sl hl
  obtain ⟨U, hU⟩ : ∃ U, U = w.alloc (.cells #[.int .i64 v.h.k, .bool v.h.b, .int .i64 v.h.n, .string v.h.s, .string v.h.t, .string v.h.i, .slice ai v.l.length ci, .slice an' v.ns.length cn] 27) := ⟨_, rfl⟩
  have LU := Lib.hid (show Low w U by rw [hU]; exact low_new (Low.refl w) _)
  have BV := Lib.hid (BoxAt.made (cs := [.int .i64 v.h.k, .bool v.h.b, .int .i64 v.h.n, .string v.h.s, .string v.h.t, .string v.h.i, .slice ai v.l.length ci, .slice an' v.ns.length cn]) hU rfl rfl)
  have CB := Lib.hid (allA_c n l (attrIs v) w.heap.size U _ (RAs.low hl LU.out) fun j hj W pe ce pv cv hlW _ => completef_c v l[j] W _ _ w.heap.size pe ce pv cv (Rep.low hv (LU.out.trans hlW)) (hlW.cells BV.out.cells))
  obtain ⟨q, hq⟩ : ∃ q, q = l.all (attrIs v) := ⟨_, rfl⟩
  rw [← hq] at CB ⊢
  have HU := Lib.hid hU
  clear hv hl hU hq
  unfold avv
  go_enter Tryz.func64, Tryz.ntmps64
  go_upto_region 1 with fail
  rw [← HU.out]
  go_wp2_with fail
  refine CB.out.mono ?_
  rintro e w2 ⟨rfl, l2⟩
  have L2 := Lib.hid (LU.out.trans l2)
  clear l2
  go_wp2_with fail
  go_ret
  exact ⟨rfl, L2.out⟩
end Go.Proofs.YtnenjgngahipdaaGreat
namespace Go.Proofs.YtnenjgngahipdaaGreat
open Go.RowKit Go.Maps
theorem us_eql (a b : Us) (w : World) : (binOp .eql 23 (.agg #[.string a.t, .string a.i]) (.agg #[.string b.t, .string b.i])).run Tryz.prog w = .ok (.bool (decide (a = b))) w := by
  by_cases h : a = b
  · subst h
    rw [decide_eq_true rfl]
    go_simp
  · rw [decide_eq_false h]
    by_cases ht : a.t.toList = b.t.toList
    · have hi : ¬ a.i.toList = b.i.toList := fun hi => h (Us.ext' (tl_injE ht) (tl_injE hi))
      go_simp
    · go_simp
theorem us_neq (a b : Us) (w : World) : (binOp .neq 23 (.agg #[.string a.t, .string a.i]) (.agg #[.string b.t, .string b.i])).run Tryz.prog w = .ok (.bool (!decide (a = b))) w := by
  by_cases h : a = b
  · subst h
    rw [decide_eq_true rfl]
    go_simp
  · rw [decide_eq_false h]
    by_cases ht : a.t.toList = b.t.toList
    · have hi : ¬ a.i.toList = b.i.toList := fun hi => h (Us.ext' (tl_injE ht) (tl_injE hi))
      go_simp
    · go_simp
end Go.Proofs.YtnenjgngahipdaaGreat
namespace Go.Proofs.YtnenjgngahipdaaGreat
open Go.RowKit Go.Sort Go.Lib
/-! ### Entities -/
def encE (q : Ee) : List Value := q.sh.cs
theorem encE_len (q : Ee) : (encE q).length = 11 := rfl
theorem encE_one (q : Ee) : ∀ u ∈ encE q, u.oneCell' = true := by
  intro u hu
  simp only [encE, Sh.cs, Ee.sh, List.mem_cons, List.not_mem_nil, or_false] at hu
  rcases hu with rfl | rfl | rfl | rfl | rfl | rfl | rfl | rfl | rfl | rfl | rfl <;> rfl
abbrev OwnE (B : Nat) (w : World) (v : Value) (l : List Ee) : Prop := OwnR 71 11 encE B w v l
theorem e_info : (Tryz.prog.info? 71).map (fun i => (i.zero, i.size, i.bytes)) = some (some (.agg #[.string ⟨#[]⟩, .string ⟨#[]⟩, .slice none 0 0, .int .i64 0, .bool false, .int .i64 0, .string ⟨#[]⟩, .string ⟨#[]⟩, .string ⟨#[]⟩, .slice none 0 0, .slice none 0 0]), 11, 176) := by kernel_rfl
def U0 : Us := ⟨⟨#[]⟩, ⟨#[]⟩, Nat.zero_le _, Nat.zero_le _⟩
def E0 : En := ⟨U0, [], V0⟩
instance : Inhabited Ee := ⟨⟨E0, none, 0, none, 0, none, 0⟩⟩
theorem OwnR.esAt {B : Nat} {w : World} {v : Value} {l : List Ee} (h : OwnE B w v l) : EsAt w v (l.map Ee.sh) := by
  obtain ⟨ao, cap, rfl, h1, h2, h3⟩ := h.shape
  refine ⟨ao, cap, by rw [List.length_map], ⟨by rw [List.length_map]; exact h1, h2⟩, fun j hj => ?_⟩
  have hj' : j < l.length := by simpa using hj
  rcases h3 with h0 | ⟨g, rfl, -, -⟩
  · rw [h0] at hj'; simp at hj'
  · refine ⟨g, 0, rfl, fun c u hu => ?_⟩
    rw [List.getElem_map] at hu
    have hc : c < 11 := by have := (List.getElem?_eq_some_iff.1 hu).1; simpa [Sh.cs] using this
    rw [Nat.zero_add, OwnR.cell encE_len h j c hj' hc]
    exact hu
/-- Behind an append the elements lie apart from the row still; the new one, whose names lie in newer blocks, too. -/
theorem ee_stepA {B : Nat} {w0 wo wi W w4 : World} {v v2 vp : Value} {ms : List Ee} {y : Ee} (hB : B = w0.heap.size) (L0 : Low w0 wo) (E : ∀ p ∈ ms, EeOk (fun b => some b ≠ v.ownBlock) wo p) (L1 : Low wo wi) (LW : Low wi W) (O : OwnE B wo v ms)
    (hU : OwnU wo.heap.size wi vp y.e.ps) (hvp : vp = y.sh.p) (hR : Rep (fun _ => True) w0 y.e.a y.it y.nm) (k2 : ∀ b, b < W.heap.size → some b ≠ v.ownBlock → w4.heap[b]? = W.heap[b]?) (n2 : v2.ownBlock = v.ownBlock ∨ ∀ g, v2.ownBlock = some g → W.heap.size ≤ g) (h2 : OwnE B w4 v2 (ms ++ [y])) :
    ∀ p ∈ ms ++ [y], EeOk (fun b => some b ≠ v2.ownBlock) w4 p := by
  have hv : ∀ g, v.ownBlock = some g → B ≤ g ∧ g < wo.heap.size := fun g hg => World.ownsRow.lt O g hg
  have s0 := L0.size
  have s1 := L1.size
  have s2 := LW.size
  have key : ∀ b, b < wi.heap.size → some b ≠ v.ownBlock → some b ≠ v2.ownBlock ∧ w4.heap[b]? = wi.heap[b]? := fun b hb hne => by
    refine ⟨?_, (k2 b (by omega) hne).trans (LW.2.2.2 b hb)⟩
    rcases n2 with h | h
    · rw [h]; exact hne
    · intro e
      have := h b e.symm
      omega
  intro p hp
  rcases List.mem_append.1 hp with hp | hp
  · refine EeOk.to (fun b ha hb => ?_) (E p hp)
    obtain ⟨h1, h3⟩ := key b (by omega) ha
    exact ⟨h1, h3.trans (L1.2.2.2 b hb)⟩
  · simp at hp
    subst hp
    subst hvp
    refine ⟨?_, ?_⟩
    · have hI : UsIn (fun b => wo.heap.size ≤ b) wi p.sh.p p.e.ps := OwnR.usIn hU fun g hg => (World.ownsRow.lt hU g hg).1
      refine hI.to fun b ha hb => ?_
      exact key b hb fun e => by have := (hv b e.symm).2; omega
    · refine Rep.to (fun b _ hb => ?_) _ hR
      obtain ⟨h1, h3⟩ := key b (by omega) fun e => by have := (hv b e.symm).1; omega
      exact ⟨h1, (h3.trans (L1.2.2.2 b (by omega))).trans (L0.2.2.2 b hb)⟩
theorem EeOk.any {A : Nat → Prop} {w : World} {q : Ee} (h : EeOk A w q) : EeOk (fun _ => True) w q := h.to fun _ _ _ => ⟨trivial, rfl⟩
end Go.Proofs.YtnenjgngahipdaaGreat
namespace Go.Proofs.YtnenjgngahipdaaGreat
open Go.RowKit
set_option linter.unusedVariables false
theorem list_at {α : Type} {l m : List α} (h : l = m) {i : Nat} (h1 : i < l.length) (h2 : i < m.length) : l[i] = m[i] := by subst h; rfl
set_option maxHeartbeats 1600000 in
theorem equalU_c (l m : List Us) (w : World) (v u : Value) (h : UsAt w v l) (h' : UsAt w u m) : Calls Tryz.prog 75 #[v, u] w fun e w' => e = .returned (.bool (decide (l = m))) ∧ Low w w' := by
  obtain ⟨p, c, rfl, ⟨z1, z2⟩, -⟩ := id h
  obtain ⟨p', c', rfl, ⟨z1', z2'⟩, -⟩ := id h'
  have HA := Lib.hid h
  have HB := Lib.hid h'
  obtain ⟨r, hr⟩ : ∃ r, r = decide (l = m) := ⟨_, rfl⟩
  rw [← hr]
  have CL := Lib.hid (show ¬ l.length = m.length → false = r from fun h => by rw [hr]; exact (decide_eq_false fun e => h (congrArg List.length e)).symm)
  have CN := Lib.hid (show ∀ i (h1 : i < l.length) (h2 : i < m.length), l[i] ≠ m[i] → false = r from fun i h1 h2 h => by rw [hr]; exact (decide_eq_false fun e => h (list_at e h1 h2)).symm)
  have CY := Lib.hid (show l.length = m.length → (∀ i (h1 : i < l.length) (h2 : i < m.length), l[i] = m[i]) → true = r from fun h1 h2 => by rw [hr]; exact (decide_eq_true (List.ext_getElem h1 h2)).symm)
  clear h h' hr
  by_cases hlen : l.length = m.length
  case neg =>
    have HF := Lib.hid (CL.out hlen)
    have zn : ¬ (l.length : Int) = (m.length : Int) := by omega
    clear hlen
    go_enter Tryz.func75, Tryz.ntmps75
    go_wp2_with fail
    go_ret
    exact ⟨retB HF.out, Low.refl _⟩
  case pos =>
    have HLN := Lib.hid hlen
    rw [← hlen] at z1' ⊢
    clear hlen
    go_enter Tryz.func75, Tryz.ntmps75
    go_wp2_with fail
    go_loopg [13] l.length (fun gk vi wr => ∃ i : Nat, vi = .int .i64 (i : Int) ∧ i ≤ l.length ∧ l.length - i ≤ gk ∧ Hid (Low w wr) ∧ Hid (∀ j (h1 : j < l.length) (h2 : j < m.length), j < i → l[j] = m[j]))
    case atStart => exact ⟨0, rfl, Nat.zero_le _, Nat.le_refl _, Lib.hid (Low.refl _), Lib.hid fun j hj _ h => absurd h (Nat.not_lt_zero _)⟩
    case round =>
      obtain ⟨i, rfl, hi, hg, G, K⟩ := hrel
      by_cases hlt : i < l.length
      · have zl : (i : Int) < (l.length : Int) := by omega
        have hlt' : i < m.length := by rw [← HLN.out]; exact hlt
        have HBL := Lib.hid (show UsAt w (.slice p' m.length c') m from HB.out)
        obtain ⟨b, o, rfl, h1⟩ := us_at (UsAt.low HA.out G.out) hlt
        obtain ⟨b', o', rfl, h2⟩ := us_at (UsAt.low HBL.out G.out) hlt'
        obtain ⟨e0, e1⟩ := cells2 h1
        obtain ⟨d0, d1⟩ := cells2 h2
        have HX := Lib.hid (CN.out i hlt hlt')
        have HQ := Lib.hid (fun (j : Nat) (h : j < l.length) => h)
        obtain ⟨x, hx⟩ : ∃ x, x = l[i] := ⟨_, rfl⟩
        obtain ⟨y, hy⟩ : ∃ y, y = m[i] := ⟨_, rfl⟩
        rw [← hx] at e0 e1
        rw [← hy] at d0 d1
        have HXE := Lib.hid hx
        have HYE := Lib.hid hy
        have qN := fun W => us_neq x y W
        have e0p := fun q : InL wr => q.cell e0
        have e1p := fun q : InL wr => q.cell e1
        have d0p := fun q : InL wr => q.cell d0
        have d1p := fun q : InL wr => q.cell d1
        haveI := InL.some wr
        clear h1 h2 hx hy HBL
        obtain ⟨z, hz⟩ : ∃ z, z = decide (x = y) := ⟨_, rfl⟩
        rw [← hz] at qN
        have HZ := Lib.hid hz
        clear hz
        go_upto_region 6 with fail
        refine wp_region_low mixedT (by kernel_rfl) ?_
        repeat (go_big_quiet_step (fail))
        refine wpQuiet_nil ?_
        rintro W8 ⟨p8, hW8⟩
        have L8 := Lib.hid (show Low w W8 by rw [hW8]; exact G.out.trans p8.ok)
        clear hW8 p8 e0 e1 d0 d1 e0p e1p d0p d1p qN this
        cases z with
        | false =>
          have HF := Lib.hid (HX.out (by rw [← HXE.out, ← HYE.out]; exact of_decide_eq_false HZ.out.symm))
          go_wp2_with fail
          go_ret
          exact ⟨retB HF.out, L8.out⟩
        | true =>
          go_wp2_with fail
          go_roundg (l.length - (i + 1))
          case measure => omega
          case rel =>
            refine ⟨i + 1, by go_num, by omega, by omega, L8, Lib.hid fun j h1 h2 hji => ?_⟩
            rcases Nat.lt_succ_iff_lt_or_eq.1 hji with h | rfl
            · exact K.out j h1 h2 h
            · rw [← HXE.out, ← HYE.out]; exact of_decide_eq_true HZ.out.symm
      · have zl : ¬ (i : Int) < (l.length : Int) := by omega
        have HF := Lib.hid (CY.out HLN.out fun j h1 h2 => K.out j h1 h2 (by omega))
        go_wp2_with fail
        go_ret
        exact ⟨retB HF.out, G.out⟩
/-- Are two entities the same? -/
def sameB (a b : En) : Bool := decide (a.u = b.u) && (decide (a.ps = b.ps) && (ord a.a b.a == 0))
def eeV (q : Ee) : Value := .agg #[.string q.e.u.t, .string q.e.u.i, .slice q.ap q.e.ps.length q.cp, .int .i64 q.e.a.h.k, .bool q.e.a.h.b, .int .i64 q.e.a.h.n, .string q.e.a.h.s, .string q.e.a.h.t, .string q.e.a.h.i, .slice q.ai q.e.a.l.length q.ci, .slice q.an q.e.a.ns.length q.cn]
def eeC (q : Ee) : Obj := .cells #[.string q.e.u.t, .string q.e.u.i, .slice q.ap q.e.ps.length q.cp, .int .i64 q.e.a.h.k, .bool q.e.a.h.b, .int .i64 q.e.a.h.n, .string q.e.a.h.s, .string q.e.a.h.t, .string q.e.a.h.i, .slice q.ai q.e.a.l.length q.ci, .slice q.an q.e.a.ns.length q.cn] 71
theorem eeL {w : World} {n : Nat} (q : Ee) (h : CellsAt w n 0 q.sh.cs) :
    w.cell? ⟨n, 0, none⟩ = some (.string q.e.u.t) ∧ w.cell? ⟨n, 1, none⟩ = some (.string q.e.u.i) ∧ w.cell? ⟨n, 2, none⟩ = some (.slice q.ap q.e.ps.length q.cp) ∧ w.cell? ⟨n, 3, none⟩ = some (.int .i64 q.e.a.h.k) ∧ w.cell? ⟨n, 4, none⟩ = some (.bool q.e.a.h.b) ∧ w.cell? ⟨n, 5, none⟩ = some (.int .i64 q.e.a.h.n) ∧
    w.cell? ⟨n, 6, none⟩ = some (.string q.e.a.h.s) ∧ w.cell? ⟨n, 7, none⟩ = some (.string q.e.a.h.t) ∧ w.cell? ⟨n, 8, none⟩ = some (.string q.e.a.h.i) ∧ w.cell? ⟨n, 9, none⟩ = some (.slice q.ai q.e.a.l.length q.ci) ∧ w.cell? ⟨n, 10, none⟩ = some (.slice q.an q.e.a.ns.length q.cn) := by
  have h0 := ent11 (q := q) (o := 0) h
  simpa using h0
theorem ee_box {w W : World} {n : Nat} (q : Ee) (h : W = w.alloc (eeC q)) (hn : w.heap.size = n) : BoxAt W n q.sh.cs := BoxAt.made h hn rfl
set_option maxHeartbeats 3200000 in
set_option maxRecDepth 100000 in
theorem same13_c (x y : Ee) (w : World) (hx : EeOk (fun _ => True) w x) (hy : EeOk (fun _ => True) w y) : Calls Tryz.prog 46 #[eeV x, eeV y] w fun e w' => e = .returned (.bool (sameB x.e y.e)) ∧ Low w w' := by
  obtain ⟨U0, hU0⟩ : ∃ U, U = w.alloc (eeC x) := ⟨_, rfl⟩
  obtain ⟨U, hU⟩ : ∃ U, U = U0.alloc (eeC y) := ⟨_, rfl⟩
  have s0 : U0.heap.size = w.heap.size + 1 := by rw [hU0]; simp
  have L0 : Low U0 U := by rw [hU]; exact low_new (Low.refl _) _
  have LU := Lib.hid (show Low w U from (by rw [hU0]; exact low_new (Low.refl w) _ : Low w U0).trans L0)
  have BX := Lib.hid ((ee_box x hU0 rfl).low L0)
  have BY := Lib.hid (ee_box y hU s0)
  have CE := Lib.hid (equalU_c x.e.ps y.e.ps U _ _ ((hx.1.low LU.out).any) ((hy.1.low LU.out).any))
  have CS := Lib.hid fun W (l : Low U W) => same_c x.e.a y.e.a W _ _ _ _ (Rep.low hx.2 (LU.out.trans l)) (Rep.low hy.2 (LU.out.trans l))
  have qE := fun W => us_eql x.e.u y.e.u W
  obtain ⟨q1, hq1⟩ : ∃ q, q = decide (x.e.u = y.e.u) := ⟨_, rfl⟩
  obtain ⟨q2, hq2⟩ : ∃ q, q = decide (x.e.ps = y.e.ps) := ⟨_, rfl⟩
  obtain ⟨q3, hq3⟩ : ∃ q, q = (ord x.e.a y.e.a == 0) := ⟨_, rfl⟩
  have HR := Lib.hid (show (q1 && (q2 && q3)) = sameB x.e y.e by rw [hq1, hq2, hq3]; rfl)
  rw [← hq1] at qE
  rw [← hq2] at CE
  rw [← hq3] at CS
  obtain ⟨r, hr⟩ : ∃ r, r = sameB x.e y.e := ⟨_, rfl⟩
  rw [← hr] at HR ⊢
  rw [hU0] at hU
  unfold eeC at hU
  have HU := Lib.hid hU
  clear hx hy hU hU0 s0 L0 hq1 hq2 hq3 hr
  unfold eeV
  unfold avv Ee.it Ee.nm at CS
  unfold Sh.p Ee.sh at CE
  simp only at CE
  go_enter Tryz.func46, Tryz.ntmps46
  go_upto_region 1 with fail
  rw [← HU.out]
  clear HU
  obtain ⟨d0, d1, d2, d3, d4, d5, d6, d7, d8, d9, d10⟩ := eeL x BX.out.cells
  obtain ⟨e0, e1, e2, e3, e4, e5, e6, e7, e8, e9, e10⟩ := eeL y BY.out.cells
  cases q1 with
  | false =>
    go_wp2_with fail
    go_ret
    exact ⟨retB HR.out, LU.out⟩
  | true =>
    go_wp2_with fail
    refine CE.out.mono ?_
    rintro e w2 ⟨rfl, l2⟩
    cases q2 with
    | false =>
      have L2 := Lib.hid (LU.out.trans l2)
      clear l2
      go_wp2_with fail
      go_ret
      exact ⟨retB HR.out, L2.out⟩
    | true =>
      have CS2 := Lib.hid (CS.out w2 l2)
      have L2 := Lib.hid (LU.out.trans l2)
      obtain ⟨d0, d1, d2, d3, d4, d5, d6, d7, d8, d9, d10⟩ := eeL x (BX.out.low l2).cells
      obtain ⟨e0, e1, e2, e3, e4, e5, e6, e7, e8, e9, e10⟩ := eeL y (BY.out.low l2).cells
      clear l2 CS
      go_wp2_with fail
      refine CS2.out.mono ?_
      rintro e w3 ⟨rfl, g3⟩
      have L3 := Lib.hid (L2.out.trans g3.low)
      clear g3
      go_wp2_with fail
      go_ret
      exact ⟨retB HR.out, L3.out⟩
/-- Are two rows of entities the same, one by one? -/
def sameL : List En → List En → Bool
  | [], [] => true
  | a :: l, b :: m => sameB a b && sameL l m
  | _, _ => false
theorem sameL_len : ∀ {l m : List En}, l.length ≠ m.length → sameL l m = false
  | [], [], h => absurd rfl h
  | [], _ :: _, _ => rfl
  | _ :: _, [], _ => rfl
  | a :: l, b :: m, h => by rw [sameL, sameL_len (by simpa using h), Bool.and_false]
theorem sameL_no : ∀ {l m : List En} {i : Nat} (h1 : i < l.length) (h2 : i < m.length), sameB l[i] m[i] = false → sameL l m = false
  | [], _, _, h, _, _ => absurd h (Nat.not_lt_zero _)
  | _ :: _, [], _, _, h, _ => absurd h (Nat.not_lt_zero _)
  | a :: l, b :: m, 0, _, _, h => by rw [sameL]; simp only [List.getElem_cons_zero] at h; rw [h, Bool.false_and]
  | a :: l, b :: m, i + 1, h1, h2, h => by rw [sameL, sameL_no (i := i) (by simpa using h1) (by simpa using h2) (by simpa using h), Bool.and_false]
theorem sameL_yes : ∀ {l m : List En}, l.length = m.length → (∀ i (h1 : i < l.length) (h2 : i < m.length), sameB l[i] m[i] = true) → sameL l m = true
  | [], [], _, _ => rfl
  | [], _ :: _, h, _ => by simp at h
  | _ :: _, [], h, _ => by simp at h
  | a :: l, b :: m, h, k => by
    rw [sameL, sameL_yes (by simpa using h) fun i h1 h2 => k (i + 1) (by simpa using h1) (by simpa using h2), Bool.and_true]
    exact k 0 (by simp) (by simp)
theorem ens_at {qs : List Ee} {i : Nat} (h : i < (ensOf qs).length) : (ensOf qs)[i] = (qs[i]'(by simpa [ensOf] using h)).e := List.getElem_map (fun q : Ee => q.e)
set_option maxHeartbeats 3200000 in
set_option maxRecDepth 100000 in
theorem equalFunc_c (xs ys : List Ee) (w : World) (v u : Value) (h : EtAt w v xs) (h' : EtAt w u ys) :
    Calls Tryz.prog 45 #[v, u, .func (.func 46) #[] #[]] w fun e w' => e = .returned (.bool (sameL (ensOf xs) (ensOf ys))) ∧ Low w w' := by
  obtain ⟨p, c, rfl, ⟨z1, z2⟩, -⟩ := EtAt.at h
  obtain ⟨p', c', rfl, ⟨z1', z2'⟩, -⟩ := EtAt.at h'
  have HA := Lib.hid h
  have HB := Lib.hid h'
  obtain ⟨r, hr⟩ : ∃ r, r = sameL (ensOf xs) (ensOf ys) := ⟨_, rfl⟩
  rw [← hr]
  have el : ∀ qs : List Ee, (ensOf qs).length = qs.length := fun qs => by simp [ensOf]
  have CL := Lib.hid (show ¬ xs.length = ys.length → false = r from fun h => by rw [hr]; exact (sameL_len (by rw [el, el]; exact h)).symm)
  have CN := Lib.hid (show ∀ i (h1 : i < xs.length) (h2 : i < ys.length), sameB xs[i].e ys[i].e = false → false = r from fun i h1 h2 h => by rw [hr]; exact (sameL_no (i := i) (by rw [el]; exact h1) (by rw [el]; exact h2) (by rw [ens_at, ens_at]; exact h)).symm)
  have CY := Lib.hid (show xs.length = ys.length → (∀ i (h1 : i < xs.length) (h2 : i < ys.length), sameB xs[i].e ys[i].e = true) → true = r from fun h1 h2 => by rw [hr]; exact (sameL_yes (by rw [el, el]; exact h1) fun i k1 k2 => by rw [ens_at, ens_at]; exact h2 i (by rwa [el] at k1) (by rwa [el] at k2)).symm)
  clear h h' hr el
  by_cases hlen : xs.length = ys.length
  case neg =>
    have HF := Lib.hid (CL.out hlen)
    have zn : ¬ (xs.length : Int) = (ys.length : Int) := by omega
    clear hlen
    go_enter Tryz.func45, Tryz.ntmps45
    go_wp2_with fail
    go_ret
    exact ⟨retB HF.out, Low.refl _⟩
  case pos =>
    have HLN := Lib.hid hlen
    rw [← hlen] at z1' ⊢
    clear hlen
    go_enter Tryz.func45, Tryz.ntmps45
    go_wp2_with fail
    go_loopg [17] xs.length (fun gk vi wr => ∃ i : Nat, vi = .int .i64 (i : Int) ∧ i ≤ xs.length ∧ xs.length - i ≤ gk ∧ Hid (Low w wr) ∧ Hid (∀ j (h1 : j < xs.length) (h2 : j < ys.length), j < i → sameB xs[j].e ys[j].e = true))
    case atStart => exact ⟨0, rfl, Nat.zero_le _, Nat.le_refl _, Lib.hid (Low.refl _), Lib.hid fun j hj _ h => absurd h (Nat.not_lt_zero _)⟩
    case round =>
      obtain ⟨i, rfl, hi, hg, G, K⟩ := hrel
      by_cases hlt : i < xs.length
      · have zl : (i : Int) < (xs.length : Int) := by omega
        have hlt' : i < ys.length := by rw [← HLN.out]; exact hlt
        have HBL := Lib.hid (show EtAt w (.slice p' ys.length c') ys from HB.out)
        obtain ⟨b, o, rfl, h1, k1⟩ := et_at (EtAt.low HA.out G.out) hlt
        obtain ⟨b', o', rfl, h2, k2⟩ := et_at (EtAt.low HBL.out G.out) hlt'
        have HX := Lib.hid (CN.out i hlt hlt')
        obtain ⟨x, hx⟩ : ∃ x, x = xs[i] := ⟨_, rfl⟩
        obtain ⟨y, hy⟩ : ∃ y, y = ys[i] := ⟨_, rfl⟩
        rw [← hx] at h1 k1
        rw [← hy] at h2 k2
        have HXE := Lib.hid hx
        have HYE := Lib.hid hy
        obtain ⟨d0, d1, d2, d3, d4, d5, d6, d7, d8, d9, d10⟩ := ent11 h1
        have H2 := Lib.hid h2
        have HKX := Lib.hid k1
        have HKY := Lib.hid k2
        clear h1 h2 hx hy HBL k1 k2
        go_upto_region 6 with fail
        refine gen_w (P := fun W => Code.wp _ _ _ _ W) (fun V1 hV1 => ?_)
        have LV1 := Lib.hid (show Low wr V1 by rw [hV1]; exact low_new (Low.refl _) _)
        have BX := Lib.hid (ee_box x (by unfold eeC; exact hV1) rfl)
        clear hV1 d0 d1 d2 d3 d4 d5 d6 d7 d8 d9 d10
        obtain ⟨e0, e1, e2, e3, e4, e5, e6, e7, e8, e9, e10⟩ := ent11 (LV1.out.cells H2.out)
        go_upto_region 7 with fail
        refine gen_w (P := fun W => Code.wp _ _ _ _ W) (fun V2 hV2 => ?_)
        have LV2 := Lib.hid (show Low V1 V2 by rw [hV2]; exact low_new (Low.refl _) _)
        have BY := Lib.hid (ee_box y (by unfold eeC; exact hV2) rfl)
        have GV2 := Lib.hid (LV1.out.trans LV2.out)
        clear hV2 e0 e1 e2 e3 e4 e5 e6 e7 e8 e9 e10
        obtain ⟨d0, d1, d2, d3, d4, d5, d6, d7, d8, d9, d10⟩ := eeL x (BX.out.low LV2.out).cells
        obtain ⟨e0, e1, e2, e3, e4, e5, e6, e7, e8, e9, e10⟩ := eeL y BY.out.cells
        have CS := Lib.hid (same13_c x y V2 (HKX.out.low GV2.out) (HKY.out.low GV2.out))
        unfold eeV at CS
        obtain ⟨z, hz⟩ : ∃ z, z = sameB x.e y.e := ⟨_, rfl⟩
        rw [← hz] at CS
        have HZ := Lib.hid hz
        clear hz
        go_wp2_with fail
        refine CS.out.mono ?_
        rintro e w2 ⟨rfl, l2⟩
        have L8 := Lib.hid (G.out.trans (GV2.out.trans l2))
        clear l2 CS d0 d1 d2 d3 d4 d5 d6 d7 d8 d9 d10 e0 e1 e2 e3 e4 e5 e6 e7 e8 e9 e10
        cases z with
        | false =>
          have HF := Lib.hid (HX.out (by rw [← HXE.out, ← HYE.out]; exact HZ.out.symm))
          go_wp2_with fail
          go_ret
          exact ⟨retB HF.out, L8.out⟩
        | true =>
          go_wp2_with fail
          go_roundg (xs.length - (i + 1))
          case measure => omega
          case rel =>
            refine ⟨i + 1, by go_num, by omega, by omega, L8, Lib.hid fun j h1 h2 hji => ?_⟩
            rcases Nat.lt_succ_iff_lt_or_eq.1 hji with h | rfl
            · exact K.out j h1 h2 h
            · rw [← HXE.out, ← HYE.out]; exact HZ.out.symm
      · have zl : ¬ (i : Int) < (xs.length : Int) := by omega
        have HF := Lib.hid (CY.out HLN.out fun j h1 h2 => K.out j h1 h2 (by omega))
        go_wp2_with fail
        go_ret
        exact ⟨retB HF.out, G.out⟩
end Go.Proofs.YtnenjgngahipdaaGreat
namespace Go.Proofs.YtnenjgngahipdaaGreat
open Go.RowKit
set_option linter.unusedVariables false
def hasN (l : List Nm) (s : ByteArray) : Bool := l.any (eqN s)
theorem ns_getD {l : List Nm} {j : Nat} (hj : j < (l.map (·.s)).length) : (l.map (·.s)).getD j ByteArray.empty = (l[j]'(by simpa using hj)).s := by
  have hj2 : j < l.length := by simpa using hj
  simp [List.getD, hj2]
theorem contains_c (l : List Nm) (s : ByteArray) (w : World) (v : Value) (h : NsAt w l v) : Calls Tryz.prog 55 #[v, .string s] w fun e w' => e = .returned (.bool (hasN l s)) ∧ w' = w := by
  obtain ⟨p, c, rfl, z1, z2⟩ := RowB.sl h
  rcases Nat.eq_zero_or_pos l.length with h0 | h0
  · obtain rfl : l = [] := List.eq_nil_of_length_eq_zero h0
    exact Tryz.slices_Contains_string_empty p c s w
  · obtain ⟨b, o, rfl, -⟩ := NsAt.at h h0
    have h1 := Tryz.slices_Contains_string b o l.length c (l.map (·.s)) s w (by simp) (by omega) fun j hj => by
      obtain ⟨b', o', he, h2⟩ := NsAt.at h (j := j) (by simpa using hj)
      simp only [Option.some.injEq, Addr.mk.injEq] at he
      obtain ⟨rfl, rfl, -⟩ := he
      rw [ns_getD hj]
      exact h2
    have e : Lib.containsS ((l.map (·.s)).take l.length) s = hasN l s := by
      have : (l.map (·.s)).take l.length = l.map (·.s) := by
        have := List.take_length (l := l.map (·.s))
        rwa [List.length_map] at this
      rw [this, Bool.eq_iff_iff, Lib.containsS_iff]
      unfold hasN
      rw [List.any_eq_true, List.mem_map]
      constructor
      · rintro ⟨x, hx, rfl⟩; exact ⟨x, hx, by simp [eqN]⟩
      · rintro ⟨x, hx, he⟩; exact ⟨x, hx, by simpa [eqN] using he⟩
    rw [e] at h1
    exact h1
set_option maxHeartbeats 1600000 in
theorem has13_c (l : List Nm) (s : ByteArray) (w : World) (v : Value) (h : NsAt w l v) : Calls Tryz.prog 52 #[v, .string s] w fun e w' => e = .returned (.bool (hasN l s)) ∧ Low w w' := by
  obtain ⟨p, c, rfl, z1, z2⟩ := RowB.sl h
  have HA := Lib.hid h
  obtain ⟨r, hr⟩ : ∃ r, r = hasN l s := ⟨_, rfl⟩
  have CS := Lib.hid (show ∀ i (hi : i < l.length), l[i].s = s → true = r from fun i hi h1 => by rw [hr]; exact (List.any_eq_true.2 ⟨_, List.getElem_mem hi, by simp [eqN, h1]⟩).symm)
  have CN := Lib.hid (show (∀ j (hj : j < l.length), l[j].s ≠ s) → false = r from fun h2 => by
    rw [hr]; symm
    unfold hasN
    rw [List.any_eq_false]
    intro x hx
    obtain ⟨j, hj, rfl⟩ := List.getElem_of_mem hx
    simpa [eqN] using h2 j hj)
  rw [← hr]
  clear h hr
  go_enter Tryz.func52, Tryz.ntmps52
  go_wp2_with fail
  go_loopg [5] l.length (fun gk vi wr => ∃ i : Nat, vi = .int .i64 (i : Int) ∧ i ≤ l.length ∧ l.length - i ≤ gk ∧ Hid (Low w wr) ∧ Hid (∀ j (hj : j < l.length), j < i → l[j].s ≠ s))
  case atStart => exact ⟨0, rfl, Nat.zero_le _, Nat.le_refl _, Lib.hid (Low.refl _), Lib.hid fun j hj h => absurd h (Nat.not_lt_zero _)⟩
  case round =>
    obtain ⟨i, rfl, hi, hg, G, K⟩ := hrel
    by_cases hlt : i < l.length
    · have zl : (i : Int) < (l.length : Int) := by omega
      obtain ⟨b, o, rfl, e0⟩ := NsAt.at (NsAt.low HA.out G.out) hlt
      by_cases he : l[i].s = s
      · have HF := Lib.hid (CS.out i hlt he)
        rw [he] at e0
        clear he
        go_wp2_with fail
        go_ret
        exact ⟨retB HF.out, G.out⟩
      · have he2 : ¬ l[i].s.toList = s.toList := fun h => he (tl_inj.1 h)
        have he3 : (l[i].s.toList == s.toList) = false := by simpa using he2
        have HE := Lib.hid he
        clear he
        go_wp2_with fail
        go_roundg (l.length - (i + 1))
        case measure => omega
        case rel =>
          refine ⟨i + 1, by go_num, by omega, by omega, G, Lib.hid fun j hj hji => ?_⟩
          rcases Nat.lt_succ_iff_lt_or_eq.1 hji with h | rfl
          · exact K.out j hj h
          · exact HE.out
    · have zl : ¬ (i : Int) < (l.length : Int) := by omega
      have HF := Lib.hid (CN.out fun j hj => K.out j hj (by omega))
      go_wp2_with fail
      go_ret
      exact ⟨retB HF.out, G.out⟩
end Go.Proofs.YtnenjgngahipdaaGreat
