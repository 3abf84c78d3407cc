/- Literals as expressions, and what two of them come to; Eval without a request and a store. No condition. awake. No condition. -/
import Derived.Test.YtnchohglplobeaaGreatZEvEvalq12
set_option linter.unusedVariables false
set_option linter.unusedSimpArgs false
set_option linter.unnecessarySimpa false
namespace Go.Proofs.YtnchohglplobeaaGreat
open Go.RowKit Go.Sort Go.Maps
def us0 : Us := ⟨⟨#[]⟩, ⟨#[]⟩, Nat.zero_le _, Nat.zero_le _⟩
noncomputable def Q0 : RqE := mkQ us0 us0 us0 V0 none
def lfE (v : V) : E := .mk 1 v ⟨#[]⟩ [] []
def twE (op : Int) (x y : E) : E := .mk op V0 ⟨#[]⟩ [x, y] []
def onE (op : Int) (x : E) : E := .mk op V0 ⟨#[]⟩ [x] []
structure Flat (v : V) : Prop where
 l : v.l = []
 ns : v.ns = []
 b : Bh v.h
 n : -9223372036854775808 ≤ v.h.n ∧ v.h.n ≤ 9223372036854775807
theorem Flat.r {w : World} {v : V} (h : Flat v) : R w v (.slice none 0 0) (.slice none 0 0) := by
 obtain ⟨hd, l, ns⟩ := v
 have h1 : l = [] := h.l
 have h2 : ns = [] := h.ns
 subst h1 h2
 exact rep_flat h.b
theorem Flat.ok {v : V} (h : Flat v) : Smv v ∧ Iv v ∧ dep v ≤ 1000 := by
 obtain ⟨hd, l, ns⟩ := v
 have h1 : l = [] := h.l
 have h2 : ns = [] := h.ns
 subst h1 h2
 have := vok_flat (h := hd) h.n
 exact ⟨this.sm, this.iv, this.dp⟩
theorem flat_tru (b : Bool) : Flat (truV b) := ⟨rfl, rfl, bh_zero, iv_zero⟩
theorem flat_num {n : Int} (h : -9223372036854775808 ≤ n ∧ n ≤ 9223372036854775807) : Flat (numV n) := ⟨rfl, rfl, bh_zero, h⟩
theorem flat_V0 : Flat V0 := ⟨rfl, rfl, bh_zero, iv_zero⟩
theorem na_nil {w : World} : Na w [] (.slice none 0 0) := ⟨none, 0, rfl, by simp, by simp, .inl rfl⟩
theorem row_nil {n : Nat} {w : World} : RowB w 12 encE4 (RE n) [] (.slice none 0 0) := ⟨none, 0, rfl, by simp, fun j hj => absurd hj (Nat.not_lt_zero _)⟩
abbrev pZ : P4 := ((.slice none 0 0, .slice none 0 0), .slice none 0 0, .slice none 0 0)
theorem re_leaf {n : Nat} {w : World} {v : V} (h : Flat v) : RE (n + 1) w (lfE v) pZ := re_succ.2 ⟨h.r, Nat.zero_le _, row_nil, na_nil⟩
theorem ok_leaf {n : Nat} {v : V} (h : Flat v) : OkE (n + 1) (lfE v) := ⟨⟨⟨h.ok.1, h.ok.2.1, h.ok.2.2, by simp [lfE, E.ks], by simp [lfE, E.ns]⟩, by simp [lfE, E.op], by simp [lfE, E.op]⟩, fun x hx => by simp [lfE, E.ks] at hx⟩
theorem cells_app {w : World} {b : Nat} {l m : List Value} (h : CellsAtv w b 0 (l ++ m)) {k : Nat} (hk : l.length = k) : CellsAt w b 0 l ∧ CellsAt w b k m := by
 constructor
 ·intro j v hv
  exact h j v (by rw [List.getElem?_append_left (List.getElem?_eq_some_iff.1 hv).1]; exact hv)
 ·intro j v hv
  have := h (k + j) v (by rw [List.getElem?_append_right (by omega), hk, Nat.add_sub_cancel_left]; exact hv)
  rwa [Nat.zero_add] at this
theorem row_two {n : Nat} {w : World} {b : Nat} {x y : E} {p q : P4} (h : CellsAtv w b 0 (encE4 x p ++ encE4 y q)) (hx : RE n w x p) (hy : RE n w y q) : RowB w 12 encE4 (RE n) [x, y] (.slice (some ⟨b, 0, none⟩) 2 2) := by
 obtain ⟨h1, h2⟩ := cells_app h (k := 12) rfl
 refine ⟨_, _, rfl, by simp, fun j hj => ?_⟩
 match j, hj with
 | 0, _ => exact ⟨b, 0, p, rfl, h1, hx⟩
 | 1, _ => exact ⟨b, 0, q, rfl, h2, hy⟩
theorem re_two {n : Nat} {w : World} {op : Int} {x y : E} {it : Value} (h : RowB w 12 encE4 (RE n) [x, y] it) : RE (n + 1) w (twE op x y) ((.slice none 0 0, .slice none 0 0), it, .slice none 0 0) := re_succ.2 ⟨flat_V0.r, Nat.zero_le _, h, na_nil⟩
theorem ok_two {n : Nat} {op : Int} {x y : E} (hop : -9223372036854775808 ≤ op ∧ op ≤ 9223372036854775807) (hx : OkE n x) (hy : OkE n y) : OkE (n + 1) (twE op x y) :=
 ⟨⟨⟨flat_V0.ok.1, flat_V0.ok.2.1, flat_V0.ok.2.2, by simp [twE, E.ks], by simp [twE, E.ns]⟩, hop⟩, fun z hz => by
  simp only [twE, E.ks, List.mem_cons, List.not_mem_nil, or_false] at hz
  rcases hz with rfl | rfl
  ·exact hx
  ·exact hy⟩
theorem okQ0 : OkQ (mkQ us0 us0 us0 V0 none) := ⟨flat_V0.ok, fun u r h => by cases h⟩
theorem vr_rtru {A : Nat → Prop} {b : Bool} {w w' : World} {e : Ending} (h : VR none A (0, truV b) w e w') : ∃ ai ci an cn, e = .returned (.tuple #[.agg #[.int .i64 1, .bool b, .int .i64 0, .string ⟨#[]⟩, .string ⟨#[]⟩, .string ⟨#[]⟩, .slice ai 0 ci, .slice an 0 cn], .int .i64 0]) ∧ Low w w' := by
 obtain ⟨ai, ci, an, cn, he, hr, g⟩ := h
 exact ⟨ai, ci, an, cn, he, g.lo⟩
theorem vr_rnum {A : Nat → Prop} {n : Int} {w w' : World} {e : Ending} (h : VR none A (0, numV n) w e w') : ∃ ai ci an cn, e = .returned (.tuple #[.agg #[.int .i64 2, .bool false, .int .i64 n, .string ⟨#[]⟩, .string ⟨#[]⟩, .string ⟨#[]⟩, .slice ai 0 ci, .slice an 0 cn], .int .i64 0]) ∧ Low w w' := by
 obtain ⟨ai, ci, an, cn, he, hr, g⟩ := h
 exact ⟨ai, ci, an, cn, he, g.lo⟩
theorem vr_rerr {A : Nat → Prop} {k : Int} {w w' : World} {e : Ending} (h : VR none A (k, V0) w e w') : ∃ ai ci an cn, e = .returned (.tuple #[.agg #[.int .i64 0, .bool false, .int .i64 0, .string ⟨#[]⟩, .string ⟨#[]⟩, .string ⟨#[]⟩, .slice ai 0 ci, .slice an 0 cn], .int .i64 k]) ∧ Low w w' := by
 obtain ⟨ai, ci, an, cn, he, hr, g⟩ := h
 exact ⟨ai, ci, an, cn, he, g.lo⟩
theorem can_tru (b : Bool) : canD (truV b) = (0, truV b) := by
 unfold canD
 rw [if_neg (by rw [dpt_v]; show ¬ 50 < 0 + 1; decide), can_v]; rfl
theorem can_num (n : Int) : canD (numV n) = (0, numV n) := by
 unfold canD
 rw [if_neg (by rw [dpt_v]; show ¬ 50 < 0 + 1; decide), can_v]; rfl
theorem ev_leaf {Q : RqE} {n : Nat} {v : V} : evS Q (n + 1) (lfE v) = canD v := by
 rw [evS, if_neg (by simp [formB, twE, onE, lfE, kidsN, E.op, E.ks, E.ns])]; rfl
theorem dp_two {op : Int} {x y : V} : dpE (twE op (lfE x) (lfE y)) = 2 := by simp [twE, lfE, dpE, dpEL]
theorem ev_two {Q : RqE} {op : Int} {x y : V} (hx : canD x = (0, x)) (hy : canD y = (0, y)) (hop : op = 8 ∨ op = 9 ∨ op = 10 ∨ op = 11 ∨ op = 12 ∨ op = 13) : evalE Q (twE op (lfE x) (lfE y)) = op2 Q op x y := by
 unfold evalE
 rw [dp_two, if_neg (by decide), evS, if_neg (by rcases hop with rfl | rfl | rfl | rfl | rfl | rfl <;> simp [formB, twE, onE, lfE, kidsN, E.op, E.ks, E.ns])]
 have h : evK Q (evS Q 49) op V0 ⟨#[]⟩ [lfE x, lfE y] [] = evM Q (evS Q 49) op ⟨#[]⟩ [lfE x, lfE y] := by
  unfold evK
  rw [if_neg (by omega), if_neg (by omega), if_neg (by omega), if_neg (by omega), if_neg (by omega)]
 show evK Q (evS Q 49) op V0 ⟨#[]⟩ [lfE x, lfE y] [] = _
 rw [h]
 simp only [evM, if_neg (show op ≠ 4 by omega), if_neg (show op ≠ 5 by omega), thenS, ev_leaf, hx, hy, ↓reduceIte]
theorem ev_and {Q : RqE} {x y : V} (hx : canD x = (0, x)) (hy : canD y = (0, y)) : evalE Q (twE 4 (lfE x) (lfE y)) = truS (0, x) fun a => if a = false then (0, truV false) else truS (0, y) fun b => (0, truV b) := by
 unfold evalE
 rw [dp_two, if_neg (by decide), evS, if_neg (by simp [formB, twE, onE, lfE, kidsN, E.op, E.ks, E.ns])]
 show evM Q (evS Q 49) 4 ⟨#[]⟩ [lfE x, lfE y] = _
 simp only [evM, ev_leaf, hx, hy, ↓reduceIte]
theorem lit_c (v : V) (w : World) (ai : Option Addr) (ci : Nat) (an : Option Addr) (cn : Nat) : Calls Tryz.prog 17 #[av8 v.h ai v.l.length ci an v.ns.length cn] w fun e w' => e = .returned (.agg #[.int .i64 1, .int .i64 v.h.k, .bool v.h.b, .int .i64 v.h.n, .string v.h.s, .string v.h.t, .string v.h.i, .slice ai v.l.length ci, .slice an v.ns.length cn, .string ⟨#[]⟩, .slice none 0 0, .slice none 0 0]) ∧ Low w w' := by
 go_enter Tryz.func17, Tryz.ntmps17
 go_wp2_with fail
 refine bodyPost_ret (v := .agg #[.int .i64 1, .int .i64 v.h.k, .bool v.h.b, .int .i64 v.h.n, .string v.h.s, .string v.h.t, .string v.h.i, .slice ai v.l.length ci, .slice an v.ns.length cn, .string ⟨#[]⟩, .slice none 0 0, .slice none 0 0]) (by simp [results, Tryz.results17, go_sem]; try rfl) rfl ?_
 exact ⟨rfl, Low.alloc (Low.alloc (Low.refl w) _) _⟩
theorem eval0_c (n : Nat) (e : E) (ai : Option Addr) (ci : Nat) (an : Option Addr) (cn : Nat) (ak : Option Addr) (ck : Nat) (am : Option Addr) (cm : Nat) (w : World) (hr : RE n w e (p4 e ai ci an cn ak ck am cm)) (ho : OkE n e) : Calls Tryz.prog 14 #[ex12 e ai ci an cn ak ck am cm, .agg #[.string ⟨#[]⟩, .string ⟨#[]⟩, .string ⟨#[]⟩, .string ⟨#[]⟩, .string ⟨#[]⟩, .string ⟨#[]⟩, .int .i64 0, .bool false, .int .i64 0, .string ⟨#[]⟩, .string ⟨#[]⟩, .string ⟨#[]⟩, .slice none 0 0, .slice none 0 0], .pointer none] w (VR none (fun b => b < 0) (evalE Q0 e) w) :=
 eval_c (X := none) n e ai ci an cn ak ck am cm us0 us0 us0 V0 none 0 none 0 w hr ho flat_V0.r okQ0 trivial
theorem holds0_c (w : World) : Calls Tryz.prog 19 #[.agg #[.int .i64 3, .string ⟨#[65]⟩, .string ⟨#[]⟩, .string ⟨#[]⟩, .bool false, .slice none 0 0], .agg #[.string ⟨#[65]⟩, .string ⟨#[]⟩], .pointer none] w fun e w' => e = .returned (.tuple #[.bool true, .int .i64 0]) ∧ Low w w' := by
 go_enter Tryz.func19, Tryz.ntmps19
 go_wp2_with fail
 go_ret2
 exact ⟨rfl, Low.alloc (Low.alloc (Low.refl w) _) _⟩
end Go.Proofs.YtnchohglplobeaaGreat
namespace Go.Proofs.YtnchohglplobeaaGreat
open Go.RowKit Go.Sort Go.Maps
set_option maxRecDepth 100000 in
set_option maxHeartbeats 4000000 in
theorem awake14_c (w : World) : Calls Tryz.prog 10 #[] w fun e w' => e = .returned (.bool true) ∧ Low w w' := by
 have HF := Lib.hid (show ∀ W, _ from fun W => lit_c (truV false) W none 0 none 0)
 have HT := Lib.hid (show ∀ W, _ from fun W => lit_c (truV true) W none 0 none 0)
 have HN := Lib.hid (show ∀ W, _ from fun W => lit_c (numV 1) W none 0 none 0)
 have HH := Lib.hid holds0_c
 simp only [truV, numV, V.h, V.l, V.ns, hd0, List.length_nil] at HF HT HN
 have E1 := Lib.hid fun (W : World) (b : Nat) (h : CellsAtv W b 0 [.int .i64 1, .int .i64 1, .bool false, .int .i64 0, .string ⟨#[]⟩, .string ⟨#[]⟩, .string ⟨#[]⟩, .slice none 0 0, .slice none 0 0, .string ⟨#[]⟩, .slice none 0 0, .slice none 0 0, .int .i64 1, .int .i64 2, .bool false, .int .i64 1, .string ⟨#[]⟩, .string ⟨#[]⟩, .string ⟨#[]⟩, .slice none 0 0, .slice none 0 0, .string ⟨#[]⟩, .slice none 0 0, .slice none 0 0]) => eval0_c 2 (twE 4 (lfE (truV false)) (lfE (numV 1))) none 0 none 0 (some ⟨b, 0, none⟩) 2 none 0 W (re_two (row_two (n := 1) (p := pZ) (q := pZ) h (re_leaf (flat_tru _)) (re_leaf (flat_num (by decide))))) (ok_two (by decide) (ok_leaf (flat_tru _)) (ok_leaf (flat_num (by decide))))
 have E2 := Lib.hid fun (W : World) (b : Nat) (h : CellsAtv W b 0 [.int .i64 1, .int .i64 1, .bool true, .int .i64 0, .string ⟨#[]⟩, .string ⟨#[]⟩, .string ⟨#[]⟩, .slice none 0 0, .slice none 0 0, .string ⟨#[]⟩, .slice none 0 0, .slice none 0 0, .int .i64 1, .int .i64 2, .bool false, .int .i64 1, .string ⟨#[]⟩, .string ⟨#[]⟩, .string ⟨#[]⟩, .slice none 0 0, .slice none 0 0, .string ⟨#[]⟩, .slice none 0 0, .slice none 0 0]) => eval0_c 2 (twE 4 (lfE (truV true)) (lfE (numV 1))) none 0 none 0 (some ⟨b, 0, none⟩) 2 none 0 W (re_two (row_two (n := 1) (p := pZ) (q := pZ) h (re_leaf (flat_tru _)) (re_leaf (flat_num (by decide))))) (ok_two (by decide) (ok_leaf (flat_tru _)) (ok_leaf (flat_num (by decide))))
 have E3 := Lib.hid fun (W : World) (b : Nat) (h : CellsAtv W b 0 [.int .i64 1, .int .i64 2, .bool false, .int .i64 1, .string ⟨#[]⟩, .string ⟨#[]⟩, .string ⟨#[]⟩, .slice none 0 0, .slice none 0 0, .string ⟨#[]⟩, .slice none 0 0, .slice none 0 0, .int .i64 1, .int .i64 2, .bool false, .int .i64 1, .string ⟨#[]⟩, .string ⟨#[]⟩, .string ⟨#[]⟩, .slice none 0 0, .slice none 0 0, .string ⟨#[]⟩, .slice none 0 0, .slice none 0 0]) => eval0_c 2 (twE 11 (lfE (numV 1)) (lfE (numV 1))) none 0 none 0 (some ⟨b, 0, none⟩) 2 none 0 W (re_two (row_two (n := 1) (p := pZ) (q := pZ) h (re_leaf (flat_num (by decide))) (re_leaf (flat_num (by decide))))) (ok_two (by decide) (ok_leaf (flat_num (by decide))) (ok_leaf (flat_num (by decide))))
 rw [show evalE Q0 (twE 4 (lfE (truV false)) (lfE (numV 1))) = (0, truV false) from by rw [ev_and (can_tru _) (can_num _)]; rfl] at E1
 rw [show evalE Q0 (twE 4 (lfE (truV true)) (lfE (numV 1))) = (30, V0) from by rw [ev_and (can_tru _) (can_num _)]; rfl] at E2
 rw [show evalE Q0 (twE 11 (lfE (numV 1)) (lfE (numV 1))) = (0, numV 2) from by rw [ev_two (can_num _) (can_num _) (by decide)]; rfl] at E3
 simp only [ex12, twE, E.op, E.v, E.nm, E.ks, E.ns, V0, V.h, V.l, V.ns, hd0, List.length_nil, List.length_cons] at E1 E2 E3
 go_enter Tryz.func10, Tryz.ntmps10
 go_upto_region 2 with (go_at_call 17; refine (HF.out _).mono ?_; rintro e w1 ⟨rfl, l1⟩)
 have M1 := Lib.hid l1
 clear l1
 obtain ⟨B1, hB1⟩ : ∃ W, W = w1.alloc (.cells #[.int .i64 1, .int .i64 1, .bool false, .int .i64 0, .string ⟨#[]⟩, .string ⟨#[]⟩, .string ⟨#[]⟩, .slice none 0 0, .slice none 0 0, .string ⟨#[]⟩, .slice none 0 0, .slice none 0 0] 30) := ⟨_, rfl⟩
 have LB1 := Lib.hid (show Low w1 B1 by rw [hB1]; exact Low.alloc (Low.refl _) _)
 have XB1 := Lib.hid (show BoxAtv B1 w1.heap.size [.int .i64 1, .int .i64 1, .bool false, .int .i64 0, .string ⟨#[]⟩, .string ⟨#[]⟩, .string ⟨#[]⟩, .slice none 0 0, .slice none 0 0, .string ⟨#[]⟩, .slice none 0 0, .slice none 0 0] from BoxAtv.made hB1 rfl rfl)
 rw [← hB1]
 clear hB1
 have T1 := Lib.hid (M1.out.trans LB1.out)
 go_upto_region 3 with (go_at_call 17; refine (HT.out _).mono ?_; rintro e w2 ⟨rfl, l2⟩)
 have M2 := Lib.hid l2
 clear l2
 obtain ⟨B2, hB2⟩ : ∃ W, W = w2.alloc (.cells #[.int .i64 1, .int .i64 1, .bool true, .int .i64 0, .string ⟨#[]⟩, .string ⟨#[]⟩, .string ⟨#[]⟩, .slice none 0 0, .slice none 0 0, .string ⟨#[]⟩, .slice none 0 0, .slice none 0 0] 30) := ⟨_, rfl⟩
 have LB2 := Lib.hid (show Low w2 B2 by rw [hB2]; exact Low.alloc (Low.refl _) _)
 have XB2 := Lib.hid (show BoxAtv B2 w2.heap.size [.int .i64 1, .int .i64 1, .bool true, .int .i64 0, .string ⟨#[]⟩, .string ⟨#[]⟩, .string ⟨#[]⟩, .slice none 0 0, .slice none 0 0, .string ⟨#[]⟩, .slice none 0 0, .slice none 0 0] from BoxAtv.made hB2 rfl rfl)
 rw [← hB2]
 clear hB2
 have T2 := Lib.hid (M2.out.trans LB2.out)
 go_upto_region 4 with (go_at_call 17; refine (HN.out _).mono ?_; rintro e w3 ⟨rfl, l3⟩)
 have M3 := Lib.hid l3
 clear l3
 obtain ⟨B3, hB3⟩ : ∃ W, W = w3.alloc (.cells #[.int .i64 1, .int .i64 2, .bool false, .int .i64 1, .string ⟨#[]⟩, .string ⟨#[]⟩, .string ⟨#[]⟩, .slice none 0 0, .slice none 0 0, .string ⟨#[]⟩, .slice none 0 0, .slice none 0 0] 30) := ⟨_, rfl⟩
 have LB3 := Lib.hid (show Low w3 B3 by rw [hB3]; exact Low.alloc (Low.refl _) _)
 have XB3 := Lib.hid (show BoxAtv B3 w3.heap.size [.int .i64 1, .int .i64 2, .bool false, .int .i64 1, .string ⟨#[]⟩, .string ⟨#[]⟩, .string ⟨#[]⟩, .slice none 0 0, .slice none 0 0, .string ⟨#[]⟩, .slice none 0 0, .slice none 0 0] from BoxAtv.made hB3 rfl rfl)
 rw [← hB3]
 clear hB3
 have T3 := Lib.hid (M3.out.trans LB3.out)
 have P1 := Lib.hid (T2.out.trans T3.out)
 have G1 := Lib.hid (XB1.out.low P1.out)
 have G2 := Lib.hid (XB2.out.low T3.out)
 have G3 := Lib.hid XB3.out
 have LL := Lib.hid (T1.out.trans P1.out)
 clear XB1 XB2 XB3
 obtain ⟨C1, hC1⟩ : ∃ W, W = B3.alloc (.cells #[.int .i64 1, .int .i64 1, .bool false, .int .i64 0, .string ⟨#[]⟩, .string ⟨#[]⟩, .string ⟨#[]⟩, .slice none 0 0, .slice none 0 0, .string ⟨#[]⟩, .slice none 0 0, .slice none 0 0, .int .i64 1, .int .i64 2, .bool false, .int .i64 1, .string ⟨#[]⟩, .string ⟨#[]⟩, .string ⟨#[]⟩, .slice none 0 0, .slice none 0 0, .string ⟨#[]⟩, .slice none 0 0, .slice none 0 0] 30) := ⟨_, rfl⟩
 have LC1 := Lib.hid (show Low B3 C1 by rw [hC1]; exact Low.alloc (Low.refl _) _)
 have HE1 := Lib.hid (E1.out C1 B3.heap.size (BoxAtv.made hC1 rfl rfl).cells)
 rw [hC1] at HE1
 obtain ⟨x0, x1, x2, x3, x4, x5, x6, x7, x8, x9, x10, x11⟩ := G1.out.at12
 obtain ⟨y0, y1, y2, y3, y4, y5, y6, y7, y8, y9, y10, y11⟩ := G3.out.at12
 go_upto_region 5 with (go_at_call 14; refine HE1.out.mono ?_; rintro e w4 hv; obtain ⟨ai1, ci1, an1, cn1, rfl, g⟩ := vr_rtru hv; have M1 := Lib.hid (show Low B3 w4 from LC1.out.trans (by rw [hC1]; exact g)))
 clear x0 x1 x2 x3 x4 x5 x6 x7 x8 x9 x10 x11 y0 y1 y2 y3 y4 y5 y6 y7 y8 y9 y10 y11 g hC1 HE1 E1
 obtain ⟨D1, hD1⟩ : ∃ W, W = w4.alloc (.cells #[.int .i64 1, .bool false, .int .i64 0, .string ⟨#[]⟩, .string ⟨#[]⟩, .string ⟨#[]⟩, .slice ai1 0 ci1, .slice an1 0 cn1] 27) := ⟨_, rfl⟩
 have LD1 := Lib.hid (show Low w4 D1 by rw [hD1]; exact Low.alloc (Low.refl _) _)
 have XD1 := Lib.hid (show BoxAtv D1 w4.heap.size [.int .i64 1, .bool false, .int .i64 0, .string ⟨#[]⟩, .string ⟨#[]⟩, .string ⟨#[]⟩, .slice ai1 0 ci1, .slice an1 0 cn1] from BoxAtv.made hD1 rfl rfl)
 rw [← hD1]
 clear hD1
 have S1 := Lib.hid (M1.out.trans LD1.out)
 have G2b := Lib.hid (G2.out.low S1.out)
 have G3b := Lib.hid (G3.out.low S1.out)
 clear G1 G2 G3
 obtain ⟨C2, hC2⟩ : ∃ W, W = D1.alloc (.cells #[.int .i64 1, .int .i64 1, .bool true, .int .i64 0, .string ⟨#[]⟩, .string ⟨#[]⟩, .string ⟨#[]⟩, .slice none 0 0, .slice none 0 0, .string ⟨#[]⟩, .slice none 0 0, .slice none 0 0, .int .i64 1, .int .i64 2, .bool false, .int .i64 1, .string ⟨#[]⟩, .string ⟨#[]⟩, .string ⟨#[]⟩, .slice none 0 0, .slice none 0 0, .string ⟨#[]⟩, .slice none 0 0, .slice none 0 0] 30) := ⟨_, rfl⟩
 have LC2 := Lib.hid (show Low D1 C2 by rw [hC2]; exact Low.alloc (Low.refl _) _)
 have HE2 := Lib.hid (E2.out C2 D1.heap.size (BoxAtv.made hC2 rfl rfl).cells)
 rw [hC2] at HE2
 obtain ⟨x0, x1, x2, x3, x4, x5, x6, x7, x8, x9, x10, x11⟩ := G2b.out.at12
 obtain ⟨y0, y1, y2, y3, y4, y5, y6, y7, y8, y9, y10, y11⟩ := G3b.out.at12
 go_upto_region 6 with (go_at_call 14; refine HE2.out.mono ?_; rintro e w5 hv; obtain ⟨ai2, ci2, an2, cn2, rfl, g⟩ := vr_rerr hv; have M2 := Lib.hid (show Low D1 w5 from LC2.out.trans (by rw [hC2]; exact g)))
 clear x0 x1 x2 x3 x4 x5 x6 x7 x8 x9 x10 x11 y0 y1 y2 y3 y4 y5 y6 y7 y8 y9 y10 y11 g hC2 HE2 E2
 obtain ⟨D2, hD2⟩ : ∃ W, W = w5.alloc (.cells #[.int .i64 0, .bool false, .int .i64 0, .string ⟨#[]⟩, .string ⟨#[]⟩, .string ⟨#[]⟩, .slice ai2 0 ci2, .slice an2 0 cn2] 27) := ⟨_, rfl⟩
 have LD2 := Lib.hid (show Low w5 D2 by rw [hD2]; exact Low.alloc (Low.refl _) _)
 have XD2 := Lib.hid (show BoxAtv D2 w5.heap.size [.int .i64 0, .bool false, .int .i64 0, .string ⟨#[]⟩, .string ⟨#[]⟩, .string ⟨#[]⟩, .slice ai2 0 ci2, .slice an2 0 cn2] from BoxAtv.made hD2 rfl rfl)
 rw [← hD2]
 clear hD2
 have S2 := Lib.hid (M2.out.trans LD2.out)
 have G3c := Lib.hid (G3b.out.low S2.out)
 clear G2b G3b
 obtain ⟨C3, hC3⟩ : ∃ W, W = D2.alloc (.cells #[.int .i64 1, .int .i64 2, .bool false, .int .i64 1, .string ⟨#[]⟩, .string ⟨#[]⟩, .string ⟨#[]⟩, .slice none 0 0, .slice none 0 0, .string ⟨#[]⟩, .slice none 0 0, .slice none 0 0, .int .i64 1, .int .i64 2, .bool false, .int .i64 1, .string ⟨#[]⟩, .string ⟨#[]⟩, .string ⟨#[]⟩, .slice none 0 0, .slice none 0 0, .string ⟨#[]⟩, .slice none 0 0, .slice none 0 0] 30) := ⟨_, rfl⟩
 have LC3 := Lib.hid (show Low D2 C3 by rw [hC3]; exact Low.alloc (Low.refl _) _)
 have HE3 := Lib.hid (E3.out C3 D2.heap.size (BoxAtv.made hC3 rfl rfl).cells)
 rw [hC3] at HE3
 obtain ⟨x0, x1, x2, x3, x4, x5, x6, x7, x8, x9, x10, x11⟩ := G3c.out.at12
 go_upto_region 7 with (go_at_call 14; refine HE3.out.mono ?_; rintro e w6 hv; obtain ⟨ai3, ci3, an3, cn3, rfl, g⟩ := vr_rnum hv; have M3 := Lib.hid (show Low D2 w6 from LC3.out.trans (by rw [hC3]; exact g)))
 clear x0 x1 x2 x3 x4 x5 x6 x7 x8 x9 x10 x11  g hC3 HE3 E3
 obtain ⟨D3, hD3⟩ : ∃ W, W = w6.alloc (.cells #[.int .i64 2, .bool false, .int .i64 2, .string ⟨#[]⟩, .string ⟨#[]⟩, .string ⟨#[]⟩, .slice ai3 0 ci3, .slice an3 0 cn3] 27) := ⟨_, rfl⟩
 have LD3 := Lib.hid (show Low w6 D3 by rw [hD3]; exact Low.alloc (Low.refl _) _)
 have XD3 := Lib.hid (show BoxAtv D3 w6.heap.size [.int .i64 2, .bool false, .int .i64 2, .string ⟨#[]⟩, .string ⟨#[]⟩, .string ⟨#[]⟩, .slice ai3 0 ci3, .slice an3 0 cn3] from BoxAtv.made hD3 rfl rfl)
 rw [← hD3]
 clear hD3
 have S3 := Lib.hid (M3.out.trans LD3.out)
 go_upto_region 8 with (go_at_call 19; refine (HH.out _).mono ?_; rintro e w7 ⟨rfl, l7⟩)
 have L7 := Lib.hid l7
 clear l7 HH
 obtain ⟨x0, x1, x2, x3, x4, x5, x6, x7⟩ := (XD1.out.low (S2.out.trans (S3.out.trans L7.out))).at8
 obtain ⟨y0, y1, y2, y3, y4, y5, y6, y7⟩ := (XD3.out.low L7.out).at8
 go_wp2_with fail
 go_ret
 exact ⟨rfl, LL.out.trans (S1.out.trans (S2.out.trans (S3.out.trans L7.out)))⟩
end Go.Proofs.YtnchohglplobeaaGreat
