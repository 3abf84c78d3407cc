/- Entities with any attributes are told as the reference says, or refused. No condition. -/
import Derived.Test.YtbfaccndgjilmaaGreatCansL
import Derived.Deep.DeepCutAuto
import Derived.Deep.CutRange
namespace Go.Proofs.YtbfaccndgjilmaaGreat
open Go.RowKit Go.Sort
theorem us_keep {n : Nat} {w w' : World} {r : Value} {l : List Us} (K : KeptBut w w' (some n)) (h : UsIn (fun b => b ≠ n) w r l) : UsIn (fun b => b ≠ n) w' r l := UsIn.to (fun b hb hlt => ⟨hb, K.2.2.2 b hlt (by simpa using hb)⟩) h
theorem rep_keep {n : Nat} {w w' : World} {v : V} {it nm : Value} (K : KeptBut w w' (some n)) (h : Rep (fun b => b ≠ n) w v it nm) : Rep (fun b => b ≠ n) w' v it nm := Rep.to (fun b hb hlt => ⟨hb, K.2.2.2 b hlt (by simpa using hb)⟩) v h
theorem box_usA (A : Nat → Prop) {w : World} {b c : Nat} (hA : A b) (l : List Us) (h : BoxAt w b (l.flatMap Us.cs)) (hc : l.length ≤ c) (h9 : c ≤ 9223372036854775807) : UsIn A w (.slice (some ⟨b, 0, none⟩) l.length c) l := by
  refine ⟨some ⟨b, 0, none⟩, c, rfl, ⟨hc, h9⟩, fun j hj => ⟨b, 0, rfl, hA, fun k u hu => ?_⟩⟩
  have hk : k < 2 := by have := (List.getElem?_eq_some_iff.1 hu).1; simpa [Us.cs] using this
  rw [Nat.zero_add]
  refine h.at (j * 2 + k) u ?_
  rw [flat_at encU_len l j k hj hk]
  exact hu
def uV : Us := ⟨⟨#[86]⟩, ⟨#[]⟩, by decide, by decide⟩
set_option maxHeartbeats 16000000 in
set_option maxRecDepth 100000 in
theorem entityAttrs_v (a b : V) (mi tw : Bool) (w : World) (ita nma itb nmb : Value) (ra : R w a ita nma) (rb : R w b itb nmb) : Calls Tryz.prog 6 #[av a.h ita nma, av b.h itb nmb, .bool mi, .bool tw] w fun e w' => e = .returned (.bool true) ∧ Low w w' := by
  obtain ⟨ai, ci, an, cn, rfl, rfl⟩ := r_slices ra
  obtain ⟨bi, di, bn, dn, rfl, rfl⟩ := r_slices rb
  have L0 := Lib.hid (Low.alloc (Low.alloc (Low.refl w) (.cells #[.int .i64 a.h.k, .bool a.h.b, .int .i64 a.h.n, .string a.h.s, .string a.h.t, .string a.h.i, .slice ai a.l.length ci, .slice an a.ns.length cn] 35)) (.cells #[.int .i64 b.h.k, .bool b.h.b, .int .i64 b.h.n, .string b.h.s, .string b.h.t, .string b.h.i, .slice bi b.l.length di, .slice bn b.ns.length dn] 35))
  have RA := Lib.hid ra
  have RB := Lib.hid rb
  have HN1 := Lib.hid (show (w.alloc (.cells #[.int .i64 a.h.k, .bool a.h.b, .int .i64 a.h.n, .string a.h.s, .string a.h.t, .string a.h.i, .slice ai a.l.length ci, .slice an a.ns.length cn] 35)).heap.size = w.heap.size + 1 by simp)
  clear ra rb
  unfold av
  go_enter Tryz.func6, Tryz.ntmps6
  go_wp2_with fail
  refine (awake5_c _).mono ?_
  rintro e w1 ⟨rfl, l1⟩
  have L1 := Lib.hid (L0.out.trans l1)
  have XA := Lib.hid (BoxAt.new w.heap.size ((Low.alloc (Low.refl _) _).trans l1) (cs := [.int .i64 a.h.k, .bool a.h.b, .int .i64 a.h.n, .string a.h.s, .string a.h.t, .string a.h.i, .slice ai a.l.length ci, .slice an a.ns.length cn]) rfl rfl)
  have XB := Lib.hid (BoxAt.new (w.heap.size + 1) l1 (cs := [.int .i64 b.h.k, .bool b.h.b, .int .i64 b.h.n, .string b.h.s, .string b.h.t, .string b.h.i, .slice bi b.l.length di, .slice bn b.ns.length dn]) rfl HN1.out)
  clear l1
  have fa : ∀ X Y j v, [.int .i64 a.h.k, .bool a.h.b, .int .i64 a.h.n, .string a.h.s, .string a.h.t, .string a.h.i, .slice ai a.l.length ci, .slice an a.ns.length cn][j]? = some v → ((w1.alloc X).alloc Y).cell? ⟨w.heap.size, j, none⟩ = some v := fun X Y j v h => ((XA.out.low (Low.alloc (Low.refl _) X)).low (Low.alloc (Low.refl _) Y)).at j v h
  have fb : ∀ X Y Z j v, [.int .i64 b.h.k, .bool b.h.b, .int .i64 b.h.n, .string b.h.s, .string b.h.t, .string b.h.i, .slice bi b.l.length di, .slice bn b.ns.length dn][j]? = some v → (((w1.alloc X).alloc Y).alloc Z).cell? ⟨w.heap.size + 1, j, none⟩ = some v := fun X Y Z j v h => (((XB.out.low (Low.alloc (Low.refl _) X)).low (Low.alloc (Low.refl _) Y)).low (Low.alloc (Low.refl _) Z)).at j v h
  have a0 : ∀ X Y, ((w1.alloc X).alloc Y).cell? ⟨w.heap.size, 0, none⟩ = some (.int .i64 a.h.k) := fun X Y => fa X Y 0 _ rfl
  have b0 : ∀ X Y Z, (((w1.alloc X).alloc Y).alloc Z).cell? ⟨w.heap.size + 1, 0, none⟩ = some (.int .i64 b.h.k) := fun X Y Z => fb X Y Z 0 _ rfl
  have a1 : ∀ X Y, ((w1.alloc X).alloc Y).cell? ⟨w.heap.size, 1, none⟩ = some (.bool a.h.b) := fun X Y => fa X Y 1 _ rfl
  have b1 : ∀ X Y Z, (((w1.alloc X).alloc Y).alloc Z).cell? ⟨w.heap.size + 1, 1, none⟩ = some (.bool b.h.b) := fun X Y Z => fb X Y Z 1 _ rfl
  have a2 : ∀ X Y, ((w1.alloc X).alloc Y).cell? ⟨w.heap.size, 2, none⟩ = some (.int .i64 a.h.n) := fun X Y => fa X Y 2 _ rfl
  have b2 : ∀ X Y Z, (((w1.alloc X).alloc Y).alloc Z).cell? ⟨w.heap.size + 1, 2, none⟩ = some (.int .i64 b.h.n) := fun X Y Z => fb X Y Z 2 _ rfl
  have a3 : ∀ X Y, ((w1.alloc X).alloc Y).cell? ⟨w.heap.size, 3, none⟩ = some (.string a.h.s) := fun X Y => fa X Y 3 _ rfl
  have b3 : ∀ X Y Z, (((w1.alloc X).alloc Y).alloc Z).cell? ⟨w.heap.size + 1, 3, none⟩ = some (.string b.h.s) := fun X Y Z => fb X Y Z 3 _ rfl
  have a4 : ∀ X Y, ((w1.alloc X).alloc Y).cell? ⟨w.heap.size, 4, none⟩ = some (.string a.h.t) := fun X Y => fa X Y 4 _ rfl
  have b4 : ∀ X Y Z, (((w1.alloc X).alloc Y).alloc Z).cell? ⟨w.heap.size + 1, 4, none⟩ = some (.string b.h.t) := fun X Y Z => fb X Y Z 4 _ rfl
  have a5 : ∀ X Y, ((w1.alloc X).alloc Y).cell? ⟨w.heap.size, 5, none⟩ = some (.string a.h.i) := fun X Y => fa X Y 5 _ rfl
  have b5 : ∀ X Y Z, (((w1.alloc X).alloc Y).alloc Z).cell? ⟨w.heap.size + 1, 5, none⟩ = some (.string b.h.i) := fun X Y Z => fb X Y Z 5 _ rfl
  have a6 : ∀ X Y, ((w1.alloc X).alloc Y).cell? ⟨w.heap.size, 6, none⟩ = some (.slice ai a.l.length ci) := fun X Y => fa X Y 6 _ rfl
  have b6 : ∀ X Y Z, (((w1.alloc X).alloc Y).alloc Z).cell? ⟨w.heap.size + 1, 6, none⟩ = some (.slice bi b.l.length di) := fun X Y Z => fb X Y Z 6 _ rfl
  have a7 : ∀ X Y, ((w1.alloc X).alloc Y).cell? ⟨w.heap.size, 7, none⟩ = some (.slice an a.ns.length cn) := fun X Y => fa X Y 7 _ rfl
  have b7 : ∀ X Y Z, (((w1.alloc X).alloc Y).alloc Z).cell? ⟨w.heap.size + 1, 7, none⟩ = some (.slice bn b.ns.length dn) := fun X Y Z => fb X Y Z 7 _ rfl
  clear fa fb
  have LW6 := Lib.hid (show Low w1 ((((w1.alloc (.cells #[.string ⟨#[85]⟩, .string ⟨#[97]⟩] 31)).alloc (.cells #[.string ⟨#[85]⟩, .string ⟨#[98]⟩] 31)).alloc (.cells #[.string ⟨#[85]⟩, .string ⟨#[98]⟩] 31)).alloc (.cells #[.string ⟨#[85]⟩, .string ⟨#[98]⟩, .slice none 0 0, .int .i64 a.h.k, .bool a.h.b, .int .i64 a.h.n, .string a.h.s, .string a.h.t, .string a.h.i, .slice ai a.l.length ci, .slice an a.ns.length cn, .string ⟨#[85]⟩, .string ⟨#[97]⟩, .slice (some ⟨w1.heap.size + 1 + 1, 0, none⟩) 1 1, .int .i64 b.h.k, .bool b.h.b, .int .i64 b.h.n, .string b.h.s, .string b.h.t, .string b.h.i, .slice bi b.l.length di, .slice bn b.ns.length dn] 37)) from Low.alloc (Low.alloc (Low.alloc (Low.alloc (Low.refl w1) _) _) _) _)
  obtain ⟨W6, hW6⟩ : ∃ W, W = ((((w1.alloc (.cells #[.string ⟨#[85]⟩, .string ⟨#[97]⟩] 31)).alloc (.cells #[.string ⟨#[85]⟩, .string ⟨#[98]⟩] 31)).alloc (.cells #[.string ⟨#[85]⟩, .string ⟨#[98]⟩] 31)).alloc (.cells #[.string ⟨#[85]⟩, .string ⟨#[98]⟩, .slice none 0 0, .int .i64 a.h.k, .bool a.h.b, .int .i64 a.h.n, .string a.h.s, .string a.h.t, .string a.h.i, .slice ai a.l.length ci, .slice an a.ns.length cn, .string ⟨#[85]⟩, .string ⟨#[97]⟩, .slice (some ⟨w1.heap.size + 1 + 1, 0, none⟩) 1 1, .int .i64 b.h.k, .bool b.h.b, .int .i64 b.h.n, .string b.h.s, .string b.h.t, .string b.h.i, .slice bi b.l.length di, .slice bn b.ns.length dn] 37)) := ⟨_, rfl⟩
  have HW6 := Lib.hid hW6
  have BL6 := Lib.hid (show BoxAt W6 (w1.heap.size + 1 + 1 + 1) [.string ⟨#[85]⟩, .string ⟨#[98]⟩, .slice none 0 0, .int .i64 a.h.k, .bool a.h.b, .int .i64 a.h.n, .string a.h.s, .string a.h.t, .string a.h.i, .slice ai a.l.length ci, .slice an a.ns.length cn, .string ⟨#[85]⟩, .string ⟨#[97]⟩, .slice (some ⟨w1.heap.size + 1 + 1, 0, none⟩) 1 1, .int .i64 b.h.k, .bool b.h.b, .int .i64 b.h.n, .string b.h.s, .string b.h.t, .string b.h.i, .slice bi b.l.length di, .slice bn b.ns.length dn] from hW6 ▸ BoxAt.new _ (Low.refl ((((w1.alloc (.cells #[.string ⟨#[85]⟩, .string ⟨#[97]⟩] 31)).alloc (.cells #[.string ⟨#[85]⟩, .string ⟨#[98]⟩] 31)).alloc (.cells #[.string ⟨#[85]⟩, .string ⟨#[98]⟩] 31)).alloc (.cells #[.string ⟨#[85]⟩, .string ⟨#[98]⟩, .slice none 0 0, .int .i64 a.h.k, .bool a.h.b, .int .i64 a.h.n, .string a.h.s, .string a.h.t, .string a.h.i, .slice ai a.l.length ci, .slice an a.ns.length cn, .string ⟨#[85]⟩, .string ⟨#[97]⟩, .slice (some ⟨w1.heap.size + 1 + 1, 0, none⟩) 1 1, .int .i64 b.h.k, .bool b.h.b, .int .i64 b.h.n, .string b.h.s, .string b.h.t, .string b.h.i, .slice bi b.l.length di, .slice bn b.ns.length dn] 37))) rfl (by simp))
  have B116 := Lib.hid (show BoxAt W6 (w1.heap.size + 1) [.string ⟨#[85]⟩, .string ⟨#[98]⟩] from hW6 ▸ BoxAt.new (C := #[.string ⟨#[85]⟩, .string ⟨#[98]⟩]) (t := 31) _ (Low.alloc (Low.alloc (Low.refl ((w1.alloc (.cells #[.string ⟨#[85]⟩, .string ⟨#[97]⟩] 31)).alloc (.cells #[.string ⟨#[85]⟩, .string ⟨#[98]⟩] 31))) _) _) rfl (by simp))
  have HROW6 := Lib.hid (show UsIn (fun b => b ≠ w1.heap.size + 1 + 1 + 1) W6 (.slice (some ⟨w1.heap.size + 1 + 1, 0, none⟩) 1 1) [uB] from box_usA (fun b => b ≠ w1.heap.size + 1 + 1 + 1) (by omega) [uB] (hW6 ▸ BoxAt.new (C := #[.string ⟨#[85]⟩, .string ⟨#[98]⟩]) (t := 31) _ (Low.alloc (Low.refl (((w1.alloc (.cells #[.string ⟨#[85]⟩, .string ⟨#[97]⟩] 31)).alloc (.cells #[.string ⟨#[85]⟩, .string ⟨#[98]⟩] 31)).alloc (.cells #[.string ⟨#[85]⟩, .string ⟨#[98]⟩] 31))) _) rfl (by simp)) (Nat.le_refl _) (by decide))
  have L16 := Lib.hid (show Low w1 W6 from hW6 ▸ LW6.out)
  have L06 := Lib.hid (L1.out.trans L16.out)
  have HSW := Lib.hid (show w.heap.size ≤ w1.heap.size from L1.out.size)
  have RA6 := Lib.hid (show Rep (fun b => b ≠ w1.heap.size + 1 + 1 + 1) W6 a (.slice ai a.l.length ci) (.slice an a.ns.length cn) from Rep.to (fun x _ hx => ⟨by have := HSW.out; omega, L06.out.2.2.2 x hx⟩) _ RA.out)
  have RB6 := Lib.hid (show Rep (fun b => b ≠ w1.heap.size + 1 + 1 + 1) W6 b (.slice bi b.l.length di) (.slice bn b.ns.length dn) from Rep.to (fun x _ hx => ⟨by have := HSW.out; omega, L06.out.2.2.2 x hx⟩) _ RB.out)
  clear hW6
  go_upto_if 32 with fail
  rw [← HW6.out]
  clear HW6 LW6 a0 a1 a2 a3 a4 a5 a6 a7 b0 b1 b2 b3 b4 b5 b6 b7 XA XB
  have HS6 := Lib.hid (show (w1.heap.size + 1 + 1 + 1) < W6.heap.size from BL6.out.lt)
  go_cut [] from 18 to 38 (fun wx => ∃ (pa : List Us) (apx : Option Addr) (cpx : Nat), pa.length ≤ 2 ∧ Hid (Low w wx) ∧ Hid (BoxAt wx (w1.heap.size + 1 + 1 + 1) [.string ⟨#[85]⟩, .string ⟨#[98]⟩, .slice apx pa.length cpx, .int .i64 a.h.k, .bool a.h.b, .int .i64 a.h.n, .string a.h.s, .string a.h.t, .string a.h.i, .slice ai a.l.length ci, .slice an a.ns.length cn, .string ⟨#[85]⟩, .string ⟨#[97]⟩, .slice (some ⟨w1.heap.size + 1 + 1, 0, none⟩) 1 1, .int .i64 b.h.k, .bool b.h.b, .int .i64 b.h.n, .string b.h.s, .string b.h.t, .string b.h.i, .slice bi b.l.length di, .slice bn b.ns.length dn]) ∧ Hid (UsIn (fun b => b ≠ w1.heap.size + 1 + 1 + 1) wx (.slice apx pa.length cpx) pa) ∧ Hid (BoxAt wx (w1.heap.size + 1) [.string ⟨#[85]⟩, .string ⟨#[98]⟩]) ∧ Hid (UsIn (fun b => b ≠ w1.heap.size + 1 + 1 + 1) wx (.slice (some ⟨w1.heap.size + 1 + 1, 0, none⟩) 1 1) [uB]) ∧ Hid (Rep (fun b => b ≠ w1.heap.size + 1 + 1 + 1) wx a (.slice ai a.l.length ci) (.slice an a.ns.length cn)) ∧ Hid (Rep (fun b => b ≠ w1.heap.size + 1 + 1 + 1) wx b (.slice bi b.l.length di) (.slice bn b.ns.length dn)))
  case first =>
    cases mi with
    | false =>
      go_wp2_with fail
      go_meet
      case rel => exact ⟨[], none, 0, by simp, L06, BL6, Lib.hid ⟨none, 0, rfl, ⟨by simp, by simp⟩, fun j hj => by simp at hj⟩, B116, HROW6, RA6, RB6⟩
    | true =>
      have l2 : ∀ X, (W6.alloc X).cell? ⟨w1.heap.size + 1 + 1 + 1, 2, none⟩ = some (.slice none 0 0) := fun X => (BL6.out.low (Low.alloc (Low.refl W6) X)).at 2 _ rfl
      have q2 : ∀ X, (W6.alloc X).frozen? ⟨w1.heap.size + 1 + 1 + 1, 2, none⟩ = false := fun X => (BL6.out.low (Low.alloc (Low.refl W6) X)).open' 2
      go_wp2_with fail
      go_meet
      case rel =>
        have LA := Low.alloc (Low.refl W6) (.cells #[.string ⟨#[86]⟩, .string ⟨#[]⟩] 31)
        have K : KeptBut (W6.alloc (.cells #[.string ⟨#[86]⟩, .string ⟨#[]⟩] 31)) ((W6.alloc (.cells #[.string ⟨#[86]⟩, .string ⟨#[]⟩] 31)).setCell ⟨w1.heap.size + 1 + 1 + 1, 2, none⟩ (.slice (some ⟨W6.heap.size, 0, none⟩) 1 1)) (some (w1.heap.size + 1 + 1 + 1)) := kept_setCell _ _ _ _
        have hs := HS6.out
        have hs1 := HSW.out
        have HU : UsIn (fun b => b ≠ w1.heap.size + 1 + 1 + 1) (W6.alloc (.cells #[.string ⟨#[86]⟩, .string ⟨#[]⟩] 31)) (.slice (some ⟨W6.heap.size, 0, none⟩) 1 1) [uV] := box_usA (fun b => b ≠ w1.heap.size + 1 + 1 + 1) (by omega) [uV] (BoxAt.new (C := #[.string ⟨#[86]⟩, .string ⟨#[]⟩]) (t := 31) _ (Low.refl (W6.alloc (.cells #[.string ⟨#[86]⟩, .string ⟨#[]⟩] 31))) rfl rfl) (Nat.le_refl _) (by decide)
        exact ⟨[uV], some ⟨W6.heap.size, 0, none⟩, 1, by simp, Lib.hid ((L06.out.trans LA).kept K fun g hg => by simp at hg; omega), Lib.hid ((BL6.out.low LA).put 2 _), Lib.hid (us_keep K HU), Lib.hid ((B116.out.low LA).kept K (by simp)), Lib.hid (us_keep K (HROW6.out.low LA)), Lib.hid (rep_keep K (RA6.out.low LA)), Lib.hid (rep_keep K (RB6.out.low LA))⟩
  case rest =>
  clear L06 BL6 B116 HROW6 RA6 RB6 HS6 L16
  obtain ⟨pa, apx, cpx, hpa, LC, BC, UC, B11C, HRC, RAC, RBC⟩ := hcut
  obtain ⟨w7, hw7⟩ : ∃ W, W = wc := ⟨_, rfl⟩
  subst hw7
  go_upto_if 38 with fail
  go_cut [] from 18 to 43 (fun wx => ∃ u2 : Us, Hid (Low w wx) ∧ Hid (BoxAt wx (w1.heap.size + 1 + 1 + 1) [.string ⟨#[85]⟩, .string ⟨#[98]⟩, .slice apx pa.length cpx, .int .i64 a.h.k, .bool a.h.b, .int .i64 a.h.n, .string a.h.s, .string a.h.t, .string a.h.i, .slice ai a.l.length ci, .slice an a.ns.length cn, .string u2.t, .string u2.i, .slice (some ⟨w1.heap.size + 1 + 1, 0, none⟩) 1 1, .int .i64 b.h.k, .bool b.h.b, .int .i64 b.h.n, .string b.h.s, .string b.h.t, .string b.h.i, .slice bi b.l.length di, .slice bn b.ns.length dn]) ∧ Hid (UsIn (fun b => b ≠ w1.heap.size + 1 + 1 + 1) wx (.slice apx pa.length cpx) pa) ∧ Hid (BoxAt wx (w1.heap.size + 1) [.string ⟨#[85]⟩, .string ⟨#[98]⟩]) ∧ Hid (UsIn (fun b => b ≠ w1.heap.size + 1 + 1 + 1) wx (.slice (some ⟨w1.heap.size + 1 + 1, 0, none⟩) 1 1) [uB]) ∧ Hid (Rep (fun b => b ≠ w1.heap.size + 1 + 1 + 1) wx a (.slice ai a.l.length ci) (.slice an a.ns.length cn)) ∧ Hid (Rep (fun b => b ≠ w1.heap.size + 1 + 1 + 1) wx b (.slice bi b.l.length di) (.slice bn b.ns.length dn)))
  case first =>
    cases tw with
    | false =>
      go_wp2_with fail
      go_meet
      case rel => exact ⟨uA, LC, BC, UC, B11C, HRC, RAC, RBC⟩
    | true =>
      obtain ⟨t0, t1⟩ := B11C.out.at2
      have l0 : w7.cell? ⟨w1.heap.size + 1 + 1 + 1, 11, none⟩ = some (.string ⟨#[85]⟩) := BC.out.at 11 _ rfl
      have l1 : w7.cell? ⟨w1.heap.size + 1 + 1 + 1, 12, none⟩ = some (.string ⟨#[97]⟩) := BC.out.at 12 _ rfl
      have q0 := BC.out.open' 11
      have q1 := BC.out.open' 12
      go_wp2_with fail
      go_meet
      case rel =>
        have K : KeptBut w7 ((w7.setCell ⟨w1.heap.size + 1 + 1 + 1, 11, none⟩ (.string ⟨#[85]⟩)).setCell ⟨w1.heap.size + 1 + 1 + 1, 12, none⟩ (.string ⟨#[98]⟩)) (some (w1.heap.size + 1 + 1 + 1)) := (kept_setCell _ _ _ _).trans (kept_setCell _ _ _ _)
        have hs1 := HSW.out
        exact ⟨uB, Lib.hid (LC.out.kept K fun g hg => by simp at hg; omega), Lib.hid ((BC.out.put 11 _).put 12 _), Lib.hid (us_keep K UC.out), Lib.hid (B11C.out.kept K (by simp)), Lib.hid (us_keep K HRC.out), Lib.hid (rep_keep K RAC.out), Lib.hid (rep_keep K RBC.out)⟩
  case rest =>
  clear LC BC UC B11C HRC RAC RBC
  obtain ⟨u2, LC, BC, UC, B11C, HRC, RAC, RBC⟩ := hcut
  obtain ⟨w8, hw8⟩ : ∃ W, W = wc := ⟨_, rfl⟩
  subst hw8
  have het : EtAt w8 (.slice (some ⟨w1.heap.size + 1 + 1 + 1, 0, none⟩) 2 2) [⟨⟨uB, pa, a⟩, apx, cpx, ai, ci, an, cn⟩, ⟨⟨u2, [uB], b⟩, some ⟨w1.heap.size + 1 + 1, 0, none⟩, 1, bi, di, bn, dn⟩] := by
    refine ⟨box_es [⟨⟨uB, pa, a⟩, apx, cpx, ai, ci, an, cn⟩, ⟨⟨u2, [uB], b⟩, some ⟨w1.heap.size + 1 + 1, 0, none⟩, 1, bi, di, bn, dn⟩] BC.out (Nat.le_refl _) (by decide), fun q hq => ?_⟩
    simp at hq
    rcases hq with rfl | rfl
    · exact ⟨UC.out.mono fun _ _ => trivial, RAC.out.any⟩
    · exact ⟨HRC.out.mono fun _ _ => trivial, RBC.out.any⟩
  obtain ⟨qs, hqs⟩ : ∃ qs, qs = [(⟨⟨uB, pa, a⟩, apx, cpx, ai, ci, an, cn⟩ : Ee), ⟨⟨u2, [uB], b⟩, some ⟨w1.heap.size + 1 + 1, 0, none⟩, 1, bi, di, bn, dn⟩] := ⟨_, rfl⟩
  rw [← hqs] at het
  have HE := Lib.hid het
  clear het hqs BC UC B11C HRC RAC RBC
  have SC := Lib.hid (small_c qs w8 _ HE.out)
  go_wp2_with fail
  refine SC.out.mono ?_
  rintro e w2 ⟨p, rfl, hp, g⟩
  have L82 := Lib.hid g.low
  have L2 := Lib.hid (LC.out.trans g.low)
  have HP := Lib.hid hp
  clear hp g SC
  rcases p with _ | _
  · go_wp2_with fail
    go_ret
    exact ⟨rfl, L2.out⟩
  obtain ⟨h20, hsm⟩ := HP.out rfl
  have HSM := Lib.hid (show ∀ e ∈ ensOf qs, SmE e from fun e he => by unfold ensOf at he; obtain ⟨q, hq, rfl⟩ := List.mem_map.1 he; exact hsm q hq)
  have H20 := Lib.hid (show (ensOf qs).length ≤ 20 by unfold ensOf; rwa [List.length_map])
  have HSQ := Lib.hid hsm
  have CC := Lib.hid (eCanon_c qs w2 _ (HE.out.low L82.out) (few_sm H20.out HSM.out) fun q hq => (hsm q hq).1)
  obtain ⟨c1, res1, hres⟩ : ∃ c1 res1, canE canD (ensOf qs) = (c1, res1) := ⟨_, _, rfl⟩
  rw [hres] at CC
  have HR1 := Lib.hid hres
  clear HP hsm hres h20
  go_wp2_with fail
  refine CC.out.mono ?_
  rintro e w3 ⟨v5, rfl, l3, rs1, hrs1, het1⟩
  have L3 := Lib.hid (L2.out.trans l3)
  have HET1 := Lib.hid het1
  have HRS1 := Lib.hid (show ensOf rs1 = res1 from hrs1)
  have RC := Lib.hid (rcanE_c qs w3 _ (HE.out.low (L82.out.trans l3)) (few_sm H20.out HSM.out) (fun q hq => (HSQ.out q hq).1) fun q hq => by have := (HSQ.out q hq).2.1; omega)
  rw [HR1.out] at RC
  clear l3 hrs1 het1 CC
  go_wp2_with fail
  refine RC.out.mono ?_
  rintro e w4 ⟨v7, rfl, l4, rs2, hrs2, het2⟩
  have L4 := Lib.hid (L3.out.trans l4)
  have WC := Lib.hid (wholeE_c rs1 rs2 w4 _ _ (HET1.out.low l4) het2 (by rw [HRS1.out]; exact hrs2.symm))
  clear l4 hrs2 het2 RC
  go_wp2_with fail
  refine WC.out.mono ?_
  rintro e w5 ⟨rfl, g5⟩
  have L5 := Lib.hid (L4.out.trans g5.low)
  clear g5 WC
  go_wp2_with fail
  go_ret
  exact ⟨rfl, L5.out⟩
end Go.Proofs.YtbfaccndgjilmaaGreat
