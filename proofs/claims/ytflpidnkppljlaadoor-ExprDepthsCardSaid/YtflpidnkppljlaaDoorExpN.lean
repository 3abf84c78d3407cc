/- A record's fields, one by one. Condition: as in the text on a set's items. -/
import Derived.Test.YtflpidnkppljlaaDoorExpL
import Derived.Deep.DeepCutAuto
import Derived.Deep.CutRange
set_option linter.unusedVariables false
set_option linter.unnecessarySimpa false
set_option linter.unusedSimpArgs false
namespace Go.Proofs.YtflpidnkppljlaaDoor
open Go.RowKit
section
variable {b : Nat} {ao : Option Addr} {cap : Nat} {l : List Wd} {op : Int} {W1 W w2 : World} {p : Pl} {xs : List (Ex × Pl)} {ys : List (List UInt8)}
def TxE (b : Nat) (ao : Option Addr) (cap : Nat) (l : List Wd) (d : Nat) (op : Int) (W1 : World) (p : Pl) (xs : List (Ex × Pl)) (ys : List (List UInt8)) (r : Rd (List UInt8)) (W : World) (e : Ending) (w3 : World) : Prop :=
  e = .returned (.string ⟨r.getL.toArray⟩) ∧ ES b op W1 w3 p xs ys ∧ St b ao cap l (d : Int) r.unit w3 ∧ Lx b W w3
theorem ES.box11 (h : ES b op W1 W p xs ys) (_bl : RowKit.Below (W1.heap.size + 1) W w2) (k2 : ∀ i, i < W.heap.size → some i ≠ (Value.slice p.na ys.length p.nc).ownBlock → w2.heap[i]? = W.heap[i]?) :
    w2.cell? ⟨W1.heap.size, 11, none⟩ = some (.slice p.na ys.length p.nc) ∧ ∀ j, w2.frozen? ⟨W1.heap.size, j, none⟩ = false := by
  have e := k2 W1.heap.size h.box.lt (fun e => by have := (World.ownsRow.lt h.nms _ e.symm).1; omega)
  exact ⟨(World.cell?_of_block (a := ⟨W1.heap.size, 11, none⟩) e).trans h.c11, fun j => (World.frozen?_of_block (a := ⟨W1.heap.size, j, none⟩) e).trans (h.box.2 j)⟩
theorem rec_then {α : Type} {s1 : Rd Unit} {R1 : Rd α} {k : Int} {t : List UInt8} {f d : Nat} (h : s1 = R1.unit) {y : Ex × List (List UInt8)} {n : Int} {L : List (List UInt8)} (hy : (((mustS l s1 k t).then fun _ a => rdE l f 0 d a).then fun x n => (.ok (x, L) n : Rd (Ex × List (List UInt8)))) = .ok y n) : True := trivial
set_option maxHeartbeats 32000000 in
set_option maxRecDepth 100000 in
theorem item2_c (hl : l.length ≤ 70000) {d f : Nat} {s : Rd Unit} (br : Nat) (hbr : br < W1.heap.size) (hbb : br ≠ b) (hcap : W1.cell? ⟨br, 0, none⟩ = some (.pointer (some ⟨b, 0, none⟩))) (wr : World) (h : St b ao cap l (d : Int) s wr) (he : ES b op W1 wr p xs ys) (hx : xs.length ≤ 70000) (hy : ys.length ≤ 70000)
    (ih : RuleC b ao cap l 18 0 f d) (hm : Ms l f 0 (mustS l (fldS l s).unit 5 [58])) :
    Calls Tryd.prog 91 #[.pointer (some ⟨W1.heap.size, 0, none⟩), .pointer (some ⟨br, 0, none⟩)] wr (ItP b ao cap l d op W1 xs ys (((mustS l (fldS l s).unit 5 [58]).then fun _ a => rdE l f 0 d a).then fun x n => .ok (x, [(fldS l s).getL]) n)) := by
  have TC : Hid (∀ W, Low wr W → Calls Tryd.prog 92 #[.pointer (some ⟨b, 0, none⟩)] W (TxE b ao cap l d op W1 p xs ys (fldS l s) W)) := Lib.hid fun W hW => (field_c hl W (h.low hW)).mono fun e w3 ⟨h1, h2, h3⟩ => ⟨h1, (he.lww hW).lxw h3, h2, h3⟩
  have HI := Lib.hid fun (p2 : Pl) (ys2 : List (List UInt8)) (WN W : World) (hE : ES b op W1 WN p2 xs ys2) (hs : St b ao cap l (d : Int) (fldS l s).unit WN) (hW : Low WN W) => itE_of hE W hW (ofField_c hl W (hs.low hW) ih hm)
  have HRB0 := Lib.hid (st_lt h)
  have HXL := Lib.hid hx
  have HYL := Lib.hid hy
  have HBW := Lib.hid he.hb
  have HLX := Lib.hid he.lx
  have c7 := he.c11
  have cr := cell_toE hcap fun hlt => he.lx.block br hlt hbb
  have HCR := Lib.hid fun WX (hL : Lx b W1 WX) => cell_toE (w' := WX) hcap fun hlt => hL.block br hlt hbb
  generalize (mustS l (fldS l s).unit 5 [58]).then (fun _ a => rdE l f 0 d a) = R at *
  generalize hF : fldS l s = F1 at *
  clear hF
  obtain ⟨t, ht⟩ : ∃ t, F1.getL = t := ⟨_, rfl⟩
  unfold TxE at TC
  rw [ht] at TC
  rw [ht]
  clear h he hm ih hx hy hcap ht
  go_enter Tryd.func91, Tryd.ntmps91
  go_upto_region 1 with fail
  go_cut [] from 2 to 8 (fun WN => ∃ p2 : Pl, Hid (ES b op W1 WN p2 xs (ys ++ [t])) ∧ Hid (St b ao cap l (d : Int) F1.unit WN))
  case first =>
   go_wp2_with fail
   go_region_law (first
    | (refine ownR_stepK rfl _ _ _ rfl Tryd.underlying25 str_infoE rfl (by decide) (by decide) encT_len encT_one (W1.heap.size + 1) (.slice p.na ys.length p.nc) ys rfl (HT3.out.lww (low_new (Low.refl w3) (.cells #[.string ⟨t.toArray⟩] 9))).nms t ⟨w3.heap.size, 0, none⟩ 1 rfl (fun j u hj => newcell_at _ _ _ _ _ rfl hj) (by have := HYL.out; omega) (HT3.out.lww (low_new (Low.refl w3) (.cells #[.string ⟨t.toArray⟩] 9))).sz ?_; intro b2 w4 h2 bl k2 n2; obtain ⟨ao2, cp2, hv2, -, -, -⟩ := OwnR.shape h2; obtain ⟨nn2, hnn2⟩ : ∃ q, q = (ys ++ [t]).length := ⟨_, rfl⟩; rw [← hnn2] at hv2; subst hv2; have HNN := Lib.hid hnn2; clear hnn2; have f7 := ((HT3.out.lww (low_new (Low.refl w3) (.cells #[.string ⟨t.toArray⟩] 9))).box11 bl k2).1; have z7 := ((HT3.out.lww (low_new (Low.refl w3) (.cells #[.string ⟨t.toArray⟩] 9))).box11 bl k2).2; have HST2 := Lib.hid ((HT3.out.lww (low_new (Low.refl w3) (.cells #[.string ⟨t.toArray⟩] 9))).putN h2 bl k2 n2 HNN.out); have HS9 := Lib.hid (((HS8.out.low (low_new (Low.refl w3) (.cells #[.string ⟨t.toArray⟩] 9))).bel bl (by have := HBW.out; omega)).setN (w0 := W1) W1.heap.size 11 (.slice ao2 nn2 cp2) HBW.out (Nat.le_refl _)); clear h2 bl k2 n2)
    | (go_simp; go_at_call 92; refine (TC.out _ ?hL).mono ?_; (case hL => first | exact Low.refl _ | exact (Low.of_drew ⟨1, rfl⟩) | exact ((low_new (Low.refl _) _).trans (Low.of_drew ⟨1, rfl⟩))); rintro e w3 ⟨rfl, S3, s3, K3⟩; have HT3 := Lib.hid S3; have HS8 := Lib.hid s3; have c73 := S3.c11; have c74 : ∀ X, (w3.alloc X).cell? ⟨W1.heap.size, 11, none⟩ = some (.slice p.na ys.length p.nc) := (fun X => (S3.lww (low_new (Low.refl w3) X)).c11); clear S3 s3 K3))
   all_goals
    go_wp2_with fail
    go_meet
    case rel => exact ⟨_, HST2, HS9⟩
  case rest =>
    obtain ⟨p2, HST2, HS9⟩ := hcut
    obtain ⟨WN, hWN⟩ : ∃ W, W = wc := ⟨_, rfl⟩
    subst hWN
    clear cr c7 TC
    have c6 := HST2.out.c10
    have c6b : ∀ X, (WN.alloc X).cell? ⟨W1.heap.size, 10, none⟩ = some (.slice p2.ka xs.length p2.kc) := fun X => (HST2.out.lww (low_new (Low.refl WN) X)).c10
    have HC := Lib.hid (HI.out p2 (ys ++ [t]) WN · HST2.out HS9.out)
    have HRB := Lib.hid (st_lt HS9.out)
    have cr := HCR.out WN HST2.out.lx
    have cr2 : ∀ X, (WN.alloc X).cell? ⟨br, 0, none⟩ = some (.pointer (some ⟨b, 0, none⟩)) := fun X => HCR.out _ (HST2.out.lww (low_new (Low.refl WN) X)).lx
    have zx : 0 ≤ (xs.length : Int) := by omega
    have zx1 : (xs.length : Int) < ((xs.length + 1 : Nat) : Int) := by omega
    have zx2 : (xs.length : Int) < (xs.length : Int) + 1 := by omega
    have zx3 : xs.length ≤ 70000 := HXL.out
    go_wp2_with fail
    go_region_law (first
        | ((fail_if_success (have := HS3)); go_simp; go_at_call 93; refine (HC.out _ ?hL).mono ?_; (case hL => first | exact Low.refl _ | exact (Low.of_drew ⟨1, rfl⟩) | exact ((low_new (Low.refl _) _).trans (Low.of_drew ⟨1, rfl⟩))); rintro e w3 ⟨x, q, rfl, S3, hp, t3, ok3, K3⟩; have HS3 := Lib.hid S3; have HP := Lib.hid hp; have HT3 := Lib.hid t3; have OK3 := Lib.hid ok3; have HK3 := Lib.hid K3; have c63 := S3.c10; have c64 : ∀ X, (w3.alloc X).cell? ⟨W1.heap.size, 10, none⟩ = some (.slice p2.ka xs.length p2.kc) := (fun X => (S3.lww (low_new (Low.refl w3) X)).c10); clear S3 hp t3 ok3 K3; unfold exv)
        | (have HSX := HS3; refine ownR_stepK rfl _ _ _ rfl Tryd.underlying28 ex_info rfl (by decide) (by decide) encX_len encX_one (W1.heap.size + 1) (.slice p2.ka xs.length p2.kc) xs rfl HS3.out.its xpZ ⟨WN.heap.size, 0, none⟩ 1 rfl (fun j u hj => newcell_lx rfl HK3.out HRB.out hj) (by have := HXL.out; omega) HS3.out.sz ?_; have HPX := HP; have HTX := HT3; intro a2 w4 h2 bl k2 n2; have HB2 := Lib.hid (show RowKit.Below _ _ _ from bl); obtain ⟨g, cc, ha2, ⟨hg1, hg2⟩, ⟨d0, d1, d2, d3, d4, d5, d6, d7, d8, d9, d10, d11⟩, fz⟩ := own_last rfl h2; subst ha2; have H2 := Lib.hid (show OwnK _ _ _ _ from h2); have HK2 := Lib.hid k2; have HN2 := Lib.hid n2; have hgx : ¬ W1.heap.size = g := (by omega); have hgx2 : ¬ g = W1.heap.size := (by omega); have b6 := (HSX.out.box10 bl k2).1; have z6 := (HSX.out.box10 bl k2).2; have q0 := fz (xs.length * 12); have q1 := fz (xs.length * 12 + 1); have q2 := fz (xs.length * 12 + 2); have q3 := fz (xs.length * 12 + 3); have q4 := fz (xs.length * 12 + 4); have q5 := fz (xs.length * 12 + 5); have q6 := fz (xs.length * 12 + 6); have q7 := fz (xs.length * 12 + 7); have q8 := fz (xs.length * 12 + 8); have q9 := fz (xs.length * 12 + 9); have q10 := fz (xs.length * 12 + 10); have q11 := fz (xs.length * 12 + 11); clear h2 bl k2 n2 fz hg1 hg2)
        | (have HSX := Lib.hid (HS3.out.lww (low_new (Low.refl w3) (.cells #[.int .i64 0, .int .i64 0, .bool false, .int .i64 0, .string ⟨#[]⟩, .string ⟨#[]⟩, .string ⟨#[]⟩, .slice none 0 0, .slice none 0 0, .string ⟨#[]⟩, .slice none 0 0, .slice none 0 0] 30))); refine ownR_stepK rfl _ _ _ rfl Tryd.underlying28 ex_info rfl (by decide) (by decide) encX_len encX_one (W1.heap.size + 1) (.slice p2.ka xs.length p2.kc) xs rfl HSX.out.its xpZ ⟨w3.heap.size, 0, none⟩ 1 rfl (fun j u hj => newcell_at _ _ _ _ _ rfl hj) (by have := HXL.out; omega) HSX.out.sz ?_; have HPX := Lib.hid (HP.out.low (low_new (Low.refl w3) (.cells #[.int .i64 0, .int .i64 0, .bool false, .int .i64 0, .string ⟨#[]⟩, .string ⟨#[]⟩, .string ⟨#[]⟩, .slice none 0 0, .slice none 0 0, .string ⟨#[]⟩, .slice none 0 0, .slice none 0 0] 30))); have HTX := Lib.hid (HT3.out.low (low_new (Low.refl w3) (.cells #[.int .i64 0, .int .i64 0, .bool false, .int .i64 0, .string ⟨#[]⟩, .string ⟨#[]⟩, .string ⟨#[]⟩, .slice none 0 0, .slice none 0 0, .string ⟨#[]⟩, .slice none 0 0, .slice none 0 0] 30))); intro a2 w4 h2 bl k2 n2; have HB2 := Lib.hid (show RowKit.Below _ _ _ from bl); obtain ⟨g, cc, ha2, ⟨hg1, hg2⟩, ⟨d0, d1, d2, d3, d4, d5, d6, d7, d8, d9, d10, d11⟩, fz⟩ := own_last rfl h2; subst ha2; have H2 := Lib.hid (show OwnK _ _ _ _ from h2); have HK2 := Lib.hid k2; have HN2 := Lib.hid n2; have hgx : ¬ W1.heap.size = g := (by omega); have hgx2 : ¬ g = W1.heap.size := (by omega); have b6 := (HSX.out.box10 bl k2).1; have z6 := (HSX.out.box10 bl k2).2; have q0 := fz (xs.length * 12); have q1 := fz (xs.length * 12 + 1); have q2 := fz (xs.length * 12 + 2); have q3 := fz (xs.length * 12 + 3); have q4 := fz (xs.length * 12 + 4); have q5 := fz (xs.length * 12 + 5); have q6 := fz (xs.length * 12 + 6); have q7 := fz (xs.length * 12 + 7); have q8 := fz (xs.length * 12 + 8); have q9 := fz (xs.length * 12 + 9); have q10 := fz (xs.length * 12 + 10); have q11 := fz (xs.length * 12 + 11); clear h2 bl k2 n2 fz hg1 hg2))
    all_goals
      go_returns
      have hg9 : W1.heap.size ≤ g := by have := (World.ownsRow.lt H2.out g rfl).1; omega
      have S4 := HTX.out.bel HB2.out (by have := HBW.out; omega)
      refine ⟨rfl, x, q, [t], ⟨some ⟨g, 0, none⟩, cc, p2.na, p2.nc⟩, ?_, ?_, fun y n hy => ?_⟩
      · first
          | with_reducible exact ES.putX HSX.out H2.out HB2.out HK2.out HN2.out HPX.out rfl
          | with_reducible exact ES.putXb HSX.out H2.out HB2.out HK2.out HN2.out HPX.out rfl
      · rw [unit_thenE]
        first
          | with_reducible exact (S4.tow HBW.out hg9).setN (w0 := W1) _ _ _ HBW.out (Nat.le_refl _)
          | with_reducible exact (S4.setN (w0 := W1) _ _ _ HBW.out (Nat.le_refl _)).tow HBW.out hg9
      · obtain ⟨x', n', hx', hy'⟩ := then_ok.1 hy
        injection hy' with hy'
        rw [OK3.out x' n' hx']; exact hy'
end
end Go.Proofs.YtflpidnkppljlaaDoor
