/- A set's items, one by one. Condition: the words are no more than 70000; what an expression reads. -/
import Derived.Test.YtflpidnkppljlaaDoorExK
set_option linter.unusedVariables false
set_option linter.unnecessarySimpa false
set_option linter.unusedSimpArgs false
namespace Go.Proofs.YtflpidnkppljlaaDoor
open Go.RowKit
section
variable {b : Nat} {ao : Option Addr} {cap : Nat} {l : List Wd} {op : Int} {W1 W w2 : World} {p : Pl} {xs : List (Ex × Pl)} {ys : List (List UInt8)}
theorem ES.c10 (h : ES b op W1 W p xs ys) : W.cell? ⟨W1.heap.size, 10, none⟩ = some (.slice p.ka xs.length p.kc) := by
  have := h.box.1.2.2.2.2.2.2.2.2.2.2.1
  simpa [Ex.ks] using this
theorem ES.c11 (h : ES b op W1 W p xs ys) : W.cell? ⟨W1.heap.size, 11, none⟩ = some (.slice p.na ys.length p.nc) := h.box.1.2.2.2.2.2.2.2.2.2.2.2
theorem ES.sz (h : ES b op W1 W p xs ys) : W1.heap.size + 1 ≤ W.heap.size := h.box.lt
theorem ES.box10 (h : ES b op W1 W p xs ys) (_bl : RowKit.Below (W1.heap.size + 1) W w2) (k2 : ∀ i, i < W.heap.size → some i ≠ (Value.slice p.ka xs.length p.kc).ownBlock → w2.heap[i]? = W.heap[i]?) :
    w2.cell? ⟨W1.heap.size, 10, none⟩ = some (.slice p.ka xs.length p.kc) ∧ ∀ j, w2.frozen? ⟨W1.heap.size, j, none⟩ = false := by
  have e := k2 W1.heap.size h.box.lt (fun e => by have := (World.ownsRow.lt h.its _ e.symm).1; omega)
  exact ⟨(World.cell?_of_block (a := ⟨W1.heap.size, 10, none⟩) e).trans h.c10, fun j => (World.frozen?_of_block (a := ⟨W1.heap.size, j, none⟩) e).trans (h.box.2 j)⟩
theorem newcell_lx {wr w3 : World} {C : Array Value} {t : TypeId} {cs : List Value} (hC : C = cs.toArray) (K : Lx b (wr.alloc (.cells C t)).drew w3) (hb : b < wr.heap.size) {j : Nat} {u : Value} (hj : cs[j]? = some u) : w3.cell? ((⟨wr.heap.size, 0, none⟩ : Addr).add j) = some u := by
  have h1 := newcell_at wr C t wr.heap.size cs hC hj rfl
  rw [Addr.add_lit] at h1 ⊢
  exact cell_toE (w := (wr.alloc (.cells C t)).drew) h1 fun hl => K.block _ hl (by omega)
/-- What the reading of an item answers. -/
def ItE (b : Nat) (ao : Option Addr) (cap : Nat) (l : List Wd) (d : Nat) (op : Int) (W1 : World) (p : Pl) (xs : List (Ex × Pl)) (ys : List (List UInt8)) (r : Rd Ex) (W : World) (e : Ending) (w3 : World) : Prop :=
  ∃ x q, e = .returned (exv x q) ∧ ES b op W1 w3 p xs ys ∧ XAt (Apt W1 (.slice p.ka xs.length p.kc) (.slice p.na ys.length p.nc)) w3 x q ∧ St b ao cap l (d : Int) r.unit w3 ∧ (∀ y n, r = .ok y n → x = y) ∧ Lx b W w3
theorem itE_of {d : Nat} {F : Nat} {args : Array Value} {r : Rd Ex} {wr : World} (h : ES b op W1 wr p xs ys) (W : World) (hW : Low wr W) (hc : Calls Tryd.prog F args W (RuleP b ao cap l (d : Int) r W)) : Calls Tryd.prog F args W (ItE b ao cap l d op W1 p xs ys r W) := by
  refine hc.mono ?_
  rintro e w3 ⟨x, q, rfl, hx, hs, hl, ok⟩
  exact ⟨x, q, rfl, (h.lww hW).lxw hl, ((h.lww hW).fresh hx).base (fun _ h => h), hs, ok, hl⟩
/-- A store into the list's row and box leaves the reader as it is. -/
theorem St.tow {d : Int} {s : Rd Unit} {w : World} (h : St b ao cap l d s w) (hb : b < W1.heap.size) {g n : Nat} (hg : W1.heap.size ≤ g) {u0 u1 u2 u3 u4 u5 u6 u7 u8 u9 u10 u11 : Value} : St b ao cap l d s ((((((((((((w.setCell ⟨g, n, none⟩ u0).setCell ⟨g, n + 1, none⟩ u1).setCell ⟨g, n + 2, none⟩ u2).setCell ⟨g, n + 3, none⟩ u3).setCell ⟨g, n + 4, none⟩ u4).setCell ⟨g, n + 5, none⟩ u5).setCell ⟨g, n + 6, none⟩ u6).setCell ⟨g, n + 7, none⟩ u7).setCell ⟨g, n + 8, none⟩ u8).setCell ⟨g, n + 9, none⟩ u9).setCell ⟨g, n + 10, none⟩ u10).setCell ⟨g, n + 11, none⟩ u11) := ((((((((((((h.setN (w0 := W1) _ _ _ hb hg).setN (w0 := W1) _ _ _ hb hg).setN (w0 := W1) _ _ _ hb hg).setN (w0 := W1) _ _ _ hb hg).setN (w0 := W1) _ _ _ hb hg).setN (w0 := W1) _ _ _ hb hg).setN (w0 := W1) _ _ _ hb hg).setN (w0 := W1) _ _ _ hb hg).setN (w0 := W1) _ _ _ hb hg).setN (w0 := W1) _ _ _ hb hg).setN (w0 := W1) _ _ _ hb hg).setN (w0 := W1) _ _ _ hb hg)
theorem St.bel {d : Int} {s : Rd Unit} {w w' : World} {B : Nat} (h : St b ao cap l d s w) (k : RowKit.Below B w w') (hb : b < B) : St b ao cap l d s w' := by
  have hbw := st_lt h
  have e1 : w'.heap[b]? = w.heap[b]? := k.block b hb
  have key : ∀ a e p, RSt b ao cap l a d e p w → RSt b ao cap l a d e p w' := fun a e p h => by
    have e2 : ∀ j, w'.cell? ⟨b, j, none⟩ = w.cell? ⟨b, j, none⟩ := fun j => World.cell?_of_block (a := ⟨b, j, none⟩) e1
    refine ⟨(e2 0).trans h.c0, (e2 1).trans h.c1, (e2 2).trans h.c2, (e2 3).trans h.c3, (e2 4).trans h.c4, fun j => (World.frozen?_of_block (a := ⟨b, j, none⟩) e1).trans (h.fz j), ?_⟩
    rcases h.ws with h | ⟨g, rfl, hg, hc⟩
    · exact .inl h
    · exact .inr ⟨g, rfl, hg, fun j hj i u hu => cell_toE (hc j hj i u hu) fun _ => k.block g (by omega)⟩
  cases s with
  | ok u a => obtain ⟨⟨p, h⟩, h2⟩ := h; exact ⟨⟨p, key _ _ _ h⟩, h2⟩
  | bad e p => obtain ⟨h0, a, h⟩ := h; exact ⟨h0, a, key _ _ _ h⟩
theorem unit_thenE {α β : Type} {R : Rd α} {g : α → β} : (R.then fun x n => .ok (g x) n).unit = R.unit := by cases R <;> rfl
/-- What an item leaves. -/
def ItP (b : Nat) (ao : Option Addr) (cap : Nat) (l : List Wd) (d : Nat) (op : Int) (W1 : World) (xs : List (Ex × Pl)) (ys : List (List UInt8)) (r : Rd (Ex × List (List UInt8))) (e : Ending) (w' : World) : Prop :=
  e = .returned (.tuple #[]) ∧ ∃ x q t p', ES b op W1 w' p' (xs ++ [(x, q)]) (ys ++ t) ∧ St b ao cap l (d : Int) r.unit w' ∧ ∀ y n, r = .ok y n → (x, t) = y
set_option maxHeartbeats 16000000 in
set_option maxRecDepth 100000 in
theorem item1_c (hl : l.length ≤ 70000) {d f : Nat} {s : Rd Unit} (br : Nat) (hbr : br < W1.heap.size) (hbb : br ≠ b) (hcap : W1.cell? ⟨br, 0, none⟩ = some (.pointer (some ⟨b, 0, none⟩))) (wr : World) (h : St b ao cap l (d : Int) s wr) (he : ES b op W1 wr p xs ys) (hx : xs.length ≤ 70000)
    (ih : RuleC b ao cap l 18 0 f d) (hm : Ms l f 0 s) :
    Calls Tryd.prog 90 #[.pointer (some ⟨W1.heap.size, 0, none⟩), .pointer (some ⟨br, 0, none⟩)] wr (ItP b ao cap l d op W1 xs ys ((s.then fun _ a => rdE l f 0 d a).then fun x n => .ok (x, []) n)) := by
  have HC := Lib.hid fun W (hW : Low wr W) => itE_of he W hW (ih s W (h.low hW) hm)
  have HRB := Lib.hid (st_lt h)
  have HXL := Lib.hid hx
  have HBW := Lib.hid he.hb
  have c6 := he.c10
  have c6b : ∀ X, (wr.alloc X).cell? ⟨W1.heap.size, 10, none⟩ = some (.slice p.ka xs.length p.kc) := fun X => (he.lww (low_new (Low.refl wr) X)).c10
  have cr := cell_toE hcap fun hlt => he.lx.block br hlt hbb
  have cr2 : ∀ X, (wr.alloc X).cell? ⟨br, 0, none⟩ = some (.pointer (some ⟨b, 0, none⟩)) := fun X => cell_toE cr fun hlt => Below.heap_alloc _ _ _ hlt
  have zx : 0 ≤ (xs.length : Int) := by omega
  have zx1 : (xs.length : Int) < ((xs.length + 1 : Nat) : Int) := by omega
  have zx2 : (xs.length : Int) < (xs.length : Int) + 1 := by omega
  have zx3 : xs.length ≤ 70000 := hx
  generalize (s.then fun _ a => rdE l f 0 d a) = R at *
  clear h he hm ih hx hcap
  go_enter Tryd.func90, Tryd.ntmps90
  go_wp2_with fail
  go_region_law (first
      | ((fail_if_success (have := HS3)); go_simp; go_at_call 18; refine (HC.out _ ?hL).mono ?_; (case hL => first | exact Low.refl _ | exact (Low.of_drew ⟨1, rfl⟩) | exact ((low_new (Low.refl _) _).trans (Low.of_drew ⟨1, rfl⟩))); rintro e w3 ⟨x, q, rfl, S3, hp, t3, ok3, K3⟩; have HS3 := Lib.hid S3; have HP := Lib.hid hp; have HT3 := Lib.hid t3; have OK3 := Lib.hid ok3; have HK3 := Lib.hid K3; have c63 := S3.c10; have c64 : ∀ X, (w3.alloc X).cell? ⟨W1.heap.size, 10, none⟩ = some (.slice p.ka xs.length p.kc) := (fun X => (S3.lww (low_new (Low.refl w3) X)).c10); clear S3 hp t3 ok3 K3; unfold exv)
      | (have HSX := HS3; refine ownR_stepK rfl _ _ _ rfl Tryd.underlying28 ex_info rfl (by decide) (by decide) encX_len encX_one (W1.heap.size + 1) (.slice p.ka xs.length p.kc) xs rfl HS3.out.its xpZ ⟨wr.heap.size, 0, none⟩ 1 rfl (fun j u hj => newcell_lx rfl HK3.out HRB.out hj) (by have := HXL.out; omega) HS3.out.sz ?_; have HPX := HP; have HTX := HT3; intro a2 w4 h2 bl k2 n2; have HB2 := Lib.hid (show RowKit.Below _ _ _ from bl); obtain ⟨g, cc, ha2, ⟨hg1, hg2⟩, ⟨d0, d1, d2, d3, d4, d5, d6, d7, d8, d9, d10, d11⟩, fz⟩ := own_last rfl h2; subst ha2; have H2 := Lib.hid (show OwnK _ _ _ _ from h2); have HK2 := Lib.hid k2; have HN2 := Lib.hid n2; have hgx : ¬ W1.heap.size = g := (by omega); have hgx2 : ¬ g = W1.heap.size := (by omega); have b6 := (HSX.out.box10 bl k2).1; have z6 := (HSX.out.box10 bl k2).2; have q0 := fz (xs.length * 12); have q1 := fz (xs.length * 12 + 1); have q2 := fz (xs.length * 12 + 2); have q3 := fz (xs.length * 12 + 3); have q4 := fz (xs.length * 12 + 4); have q5 := fz (xs.length * 12 + 5); have q6 := fz (xs.length * 12 + 6); have q7 := fz (xs.length * 12 + 7); have q8 := fz (xs.length * 12 + 8); have q9 := fz (xs.length * 12 + 9); have q10 := fz (xs.length * 12 + 10); have q11 := fz (xs.length * 12 + 11); clear h2 bl k2 n2 fz hg1 hg2)
      | (have HSX := Lib.hid (HS3.out.lww (low_new (Low.refl w3) (.cells #[.int .i64 0, .int .i64 0, .bool false, .int .i64 0, .string ⟨#[]⟩, .string ⟨#[]⟩, .string ⟨#[]⟩, .slice none 0 0, .slice none 0 0, .string ⟨#[]⟩, .slice none 0 0, .slice none 0 0] 30))); refine ownR_stepK rfl _ _ _ rfl Tryd.underlying28 ex_info rfl (by decide) (by decide) encX_len encX_one (W1.heap.size + 1) (.slice p.ka xs.length p.kc) xs rfl HSX.out.its xpZ ⟨w3.heap.size, 0, none⟩ 1 rfl (fun j u hj => newcell_at _ _ _ _ _ rfl hj) (by have := HXL.out; omega) HSX.out.sz ?_; have HPX := Lib.hid (HP.out.low (low_new (Low.refl w3) (.cells #[.int .i64 0, .int .i64 0, .bool false, .int .i64 0, .string ⟨#[]⟩, .string ⟨#[]⟩, .string ⟨#[]⟩, .slice none 0 0, .slice none 0 0, .string ⟨#[]⟩, .slice none 0 0, .slice none 0 0] 30))); have HTX := Lib.hid (HT3.out.low (low_new (Low.refl w3) (.cells #[.int .i64 0, .int .i64 0, .bool false, .int .i64 0, .string ⟨#[]⟩, .string ⟨#[]⟩, .string ⟨#[]⟩, .slice none 0 0, .slice none 0 0, .string ⟨#[]⟩, .slice none 0 0, .slice none 0 0] 30))); intro a2 w4 h2 bl k2 n2; have HB2 := Lib.hid (show RowKit.Below _ _ _ from bl); obtain ⟨g, cc, ha2, ⟨hg1, hg2⟩, ⟨d0, d1, d2, d3, d4, d5, d6, d7, d8, d9, d10, d11⟩, fz⟩ := own_last rfl h2; subst ha2; have H2 := Lib.hid (show OwnK _ _ _ _ from h2); have HK2 := Lib.hid k2; have HN2 := Lib.hid n2; have hgx : ¬ W1.heap.size = g := (by omega); have hgx2 : ¬ g = W1.heap.size := (by omega); have b6 := (HSX.out.box10 bl k2).1; have z6 := (HSX.out.box10 bl k2).2; have q0 := fz (xs.length * 12); have q1 := fz (xs.length * 12 + 1); have q2 := fz (xs.length * 12 + 2); have q3 := fz (xs.length * 12 + 3); have q4 := fz (xs.length * 12 + 4); have q5 := fz (xs.length * 12 + 5); have q6 := fz (xs.length * 12 + 6); have q7 := fz (xs.length * 12 + 7); have q8 := fz (xs.length * 12 + 8); have q9 := fz (xs.length * 12 + 9); have q10 := fz (xs.length * 12 + 10); have q11 := fz (xs.length * 12 + 11); clear h2 bl k2 n2 fz hg1 hg2))
  all_goals
    go_returns
    have hg9 : W1.heap.size ≤ g := by have := (World.ownsRow.lt H2.out g rfl).1; omega
    have S4 := HTX.out.bel HB2.out (by have := HBW.out; omega)
    refine ⟨rfl, x, q, [], ⟨some ⟨g, 0, none⟩, cc, p.na, p.nc⟩, ?_, ?_, fun y n hy => ?_⟩
    · rw [List.append_nil]
      first
        | with_reducible exact ES.putX HSX.out H2.out HB2.out HK2.out HN2.out HPX.out rfl
        | with_reducible exact ES.putXb HSX.out H2.out HB2.out HK2.out HN2.out HPX.out rfl
    · rw [unit_thenE]
      first
        | with_reducible exact (S4.tow HBW.out hg9).setN (w0 := W1) _ _ _ HBW.out (Nat.le_refl _)
        | with_reducible exact (S4.setN (w0 := W1) _ _ _ HBW.out (Nat.le_refl _)).tow HBW.out hg9
    · obtain ⟨x', n', hx', hy'⟩ := then_ok.1 hy
      injection hy' with hy'
      rw [OK3.out x' n' hx']; exact hy'
end
end Go.Proofs.YtflpidnkppljlaaDoor
