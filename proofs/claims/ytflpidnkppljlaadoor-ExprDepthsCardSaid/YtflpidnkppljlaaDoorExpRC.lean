/- Rows of operators: the level above product. Condition: as in the text on rows. -/
import Derived.Test.YtflpidnkppljlaaDoorExpRow
set_option linter.unusedVariables false
set_option linter.unnecessarySimpa false
set_option linter.unusedSimpArgs false
namespace Go.Proofs.YtflpidnkppljlaaDoor
open Go.RowKit
section
variable {b : Nat} {ao : Option Addr} {cap : Nat} {l : List Wd}
set_option maxHeartbeats 16000000 in
set_option maxRecDepth 100000 in
theorem row_product (hl : l.length ≤ 70000) {d f : Nat} {s : Rd Unit} (g c : Nat) (ops : List (List UInt8 × Int)) (hn : ops.length ≤ 2) (hc : ops.length ≤ c) (hcm : c ≤ 100) (hz : ∀ o ∈ ops, o.2 ≠ 0)
    (hops : ∀ a, opL l (.ok () a) ops = opAt l 4 a) (hm : Ms l (f + 1) 4 s) (w : World) (hg : g ≠ b) (h : St b ao cap l (d : Int) s w) (ho : OpsAt g ops w)
    (ih : ∀ f', f' ≤ f → RuleC b ao cap l 77 5 f' d) :
    Calls Tryd.prog 60 #[.pointer (some ⟨b, 0, none⟩), .func (.func 77) #[] #[], .slice (some ⟨g, 0, none⟩) ops.length c] w (RuleP b ao cap l (d : Int) (s.then fun _ a => rdE l (f + 1) 4 d a) w) := by
  have H := Lib.hid h
  have HO := Lib.hid ho
  have HBW := Lib.hid (st_lt h)
  have IH := Lib.hid ih
  have HM := Lib.hid hm
  have HZ := Lib.hid hz
  have HP := Lib.hid hops
  have HG := Lib.hid hg
  have EQ := Lib.hid (show (s.then fun _ a => rdE l (f + 1) 4 d a) = ((s.then fun _ a => rdE l f 5 d a).then fun x n => rowE l f 4 d x n) by cases s <;> simp only [Rd.then, rdE])
  have M1 : Ms l f 5 s := by
    cases s with
    | ok u a => have : 12 * leftW l a + 12 - 4 ≤ f + 1 := hm; show 12 * leftW l a + 12 - 5 ≤ f; omega
    | bad e p => have : 12 - 4 ≤ f + 1 := hm; show 12 - 5 ≤ f; omega
  have HM1 := Lib.hid M1
  rw [EQ.out]
  clear h ho ih hm hz hops hg M1
  go_enter Tryd.func60, Tryd.ntmps60
  go_wp2_with fail
  refine (IH.out f (Nat.le_refl _) s _ (H.out.new _) HM1.out).mono ?_
  rintro e w1 ⟨x0, p0, rfl, x1, s1, l1, ok1⟩
  have X1 := Lib.hid x1
  have S1 := Lib.hid s1
  have L1 := Lib.hid l1
  have K0 := Lib.hid (rowK_start (ops := ops) HM.out (by decide) ok1)
  have HSZ := Lib.hid (show w.heap.size + 1 ≤ w1.heap.size by have := l1.size; simpa using this)
  clear x1 s1 l1 ok1
  unfold exv
  go_wp2_with fail
  go_loopg [8] f (fun gk vo wr => ∃ (x : Ex) (p : Pl) (r : Rd Unit) (fi : Nat), fi ≤ gk ∧ fi ≤ f ∧ Hid (BoxE w1.heap.size x p wr) ∧ Hid (XAt (fun g => w.heap.size < g ∧ g ≠ w1.heap.size) wr x p) ∧ Hid (St b ao cap l (d : Int) r wr) ∧ Hid (Lx b (w.alloc (.cells #[.int .i64 0, .int .i64 0, .bool false, .int .i64 0, .string ⟨#[]⟩, .string ⟨#[]⟩, .string ⟨#[]⟩, .slice none 0 0, .slice none 0 0, .string ⟨#[]⟩, .slice none 0 0, .slice none 0 0] 30)) wr) ∧ Hid (RowK l 4 d ((s.then fun _ a => rdE l f 5 d a).then fun x n => rowE l f 4 d x n) ops fi x r) ∧ w1.heap.size < wr.heap.size)
  case atStart => exact ⟨x0, p0, _, f, Nat.le_refl _, Nat.le_refl _, Lib.hid (BoxE.new w1 x0 p0 _), Lib.hid ((X1.out.to (fun g hg hlt => ⟨⟨by have : (w.alloc _).heap.size ≤ g := hg; simp at this; omega, by omega⟩, Below.heap_alloc _ _ _ hlt⟩) x0)), Lib.hid (S1.out.new _), Lib.hid (L1.out.alloc _), K0, by simp⟩
  case round =>
    obtain ⟨x, p, r, fi, hgk, hfi, BX, XA, SR, LR, K, hsz⟩ := hrel
    have HT := Lib.hid (takesOne_c hl g c HG.out ops hn hc hcm wr SR.out (HO.out.lx (((Lx.refl b w).alloc _).trans LR.out) HG.out))
    have HB := Lib.hid (show w1.heap.size ≠ b by have := HBW.out; have := HSZ.out; omega)
    have HSR := Lib.hid hsz
    clear hsz
    by_cases h0 : opL l r ops = 0
    · have KE := Lib.hid (rowK_end K.out h0 (fun u a e => by subst e; exact HP.out a))
      have ES := Lib.hid (opS_zero HZ.out h0)
      rw [h0, ES.out] at HT
      clear h0
      go_wp2_with fail
      refine HT.out.mono ?_
      rintro e w2 ⟨rfl, s2, l2⟩
      have S2 := Lib.hid s2
      have L2 := Lib.hid (LR.out.trans l2)
      obtain ⟨⟨b0, b1, b2, b3, b4, b5, b6, b7, b8, b9, b10, b11⟩, -⟩ := BX.out.lx l2 HB.out
      obtain ⟨⟨c0, c1, c2, c3, c4, c5, c6, c7, c8, c9, c10, c11⟩, fz⟩ := box12 L2.out HBW.out
      have XA2 := Lib.hid (XA.out.lx l2 (fun g hg => by have := HBW.out; have := hg.1; omega))
      clear s2 l2 HT
      go_wp2_with fail
      obtain ⟨E0, E1, E2, E3, E4, E5, E6, E7, E8, E9, E10, E11⟩ := put12 c0 c1 c2 c3 c4 c5 c6 c7 c8 c9 c10 c11
      refine bodyPost_ret (v := .agg #[.int .i64 x.op, .int .i64 x.v.k, .bool x.v.b, .int .i64 x.v.n, .string ⟨x.v.s.toArray⟩, .string ⟨x.v.t.toArray⟩, .string ⟨x.v.i.toArray⟩, .slice none 0 0, .slice none 0 0, .string ⟨x.nm.toArray⟩, .slice p.ka x.ks.length p.kc, .slice p.na x.ns.length p.nc]) (by simp [results, Tryd.results60, go_sem, E0, E1, E2, E3, E4, E5, E6, E7, E8, E9, E10, E11]) rfl ?_
      exact ⟨x, p, rfl, (tow_xa XA2.out (fun g hg => by have := hg.1; omega)).base (fun g hg => by have := hg.1; show w.heap.size ≤ g; omega), by rw [KE.out.1]; exact tow_st S2.out HBW.out, tow_lx (((Lx.refl b w).alloc _).trans L2.out), KE.out.2⟩
    · obtain ⟨n, rfl, hn', hS⟩ := opS_pos h0
      have hop := HP.out (n : Int)
      obtain ⟨f', rfl, hm', hnx⟩ := rowK_next (by decide) hn' K.out (by rw [← hop]; exact h0)
      have product := Lib.hid hnx
      have HM' := Lib.hid hm'
      rw [hop, hS] at HT
      rw [hop] at h0
      have z0 : (opAt l 4 (n : Int) == 0) = false := by simpa using h0
      generalize opAt l 4 (n : Int) = o at *
      clear hS hop hnx hm' h0 hn'
      go_wp2_with fail
      refine HT.out.mono ?_
      rintro e w2 ⟨rfl, s2, l2⟩
      have S2 := Lib.hid s2
      have L2 := Lib.hid (LR.out.trans l2)
      have BX2 := Lib.hid (BX.out.lx l2 HB.out)
      have XA2 := Lib.hid (XA.out.lx l2 (fun g hg => by have := HBW.out; have := hg.1; omega))
      have hsz2 : w1.heap.size < w2.heap.size := by have := l2.size; have := HSR.out; omega
      have HS2 := Lib.hid hsz2
      obtain ⟨⟨b0, b1, b2, b3, b4, b5, b6, b7, b8, b9, b10, b11⟩, -⟩ := BX2.out
      have HC := Lib.hid (IH.out f' (by omega) (.ok () ((n : Int) + 1)) w2.drew (S2.out.low (Low.of_drew ⟨1, rfl⟩)) HM'.out)
      clear s2 l2 HT hsz2
      go_wp2_with fail
      go_region_law (first
        | (go_simp; go_at_call 77; (with_reducible refine HC.out.mono ?_); rintro e w3 ⟨y, q, rfl, y3, s3, l3, ok3⟩; have X3 := Lib.hid (XA2.out.lx (((lx_draw b w2)).trans l3) (fun g hg => by have := HBW.out; have := hg.1; omega)); have Y3 := Lib.hid y3; have S3 := Lib.hid s3; have L3 := Lib.hid ((lx_draw b w2).trans l3); have N3 := Lib.hid (product.out y ok3); have BX3 := Lib.hid (BX2.out.lx L3.out HB.out); obtain ⟨⟨d0, d1, d2, d3, d4, d5, d6, d7, d8, d9, d10, d11⟩, -⟩ := BX3.out; clear y3 s3 l3 ok3; unfold exv)
        | (go_simp; go_at_call 48; (with_reducible refine (node_c _ _ _ _ _).mono ?_); rintro e w4 ⟨rfl, l4⟩; have L4 := Lib.hid l4; have BX4 := Lib.hid ((BX3.out.low (low_new (Low.refl _) _)).low l4); obtain ⟨⟨d0, d1, d2, d3, d4, d5, d6, d7, d8, d9, d10, d11⟩, fz⟩ := BX4.out; unfold ndv))
      all_goals
        have hw3 : w2.heap.size ≤ w3.heap.size := L3.out.size
        have hw4 : w3.heap.size + 1 ≤ w4.heap.size := by have := L4.out.size; simpa using this
        have hk1 : w.heap.size + 1 ≤ w1.heap.size := HSZ.out
        have hk2 : w1.heap.size < w2.heap.size := HS2.out
        go_wp2_with fail
        go_roundg f'
        case measure => omega
        case rel =>
          refine ⟨nodE o [x, y], ⟨some ⟨w3.heap.size, 0, none⟩, 2, none, 0⟩, _, f', Nat.le_refl _, by omega, Lib.hid (BX4.out.put (nodE o [x, y]) ⟨some ⟨w3.heap.size, 0, none⟩, 2, none, 0⟩), Lib.hid (tow_xa ((nod_at o [(x, p), (y, q)] (by simp) ⟨by omega, by omega⟩ (fun z hz => ?_) _ _ rfl [] _ rfl _ rfl).low L4.out) (fun g hg => hg.2)), Lib.hid (tow_stk (w0 := w) ((S3.out.new _).low L4.out) HBW.out (by omega)), Lib.hid (tow_lxk (((L2.out.trans L3.out).alloc _).low' L4.out) (by simp; omega)), Lib.hid N3.out, by simp only [World.size_setCell]; omega⟩
          simp only [List.mem_cons, List.not_mem_nil, or_false] at hz
          rcases hz with rfl | rfl
          · exact X3.out
          · exact Y3.out.base (fun g hg => ⟨by have : w2.heap.size ≤ g := hg; omega, by have : w2.heap.size ≤ g := hg; omega⟩)
end
end Go.Proofs.YtflpidnkppljlaaDoor
