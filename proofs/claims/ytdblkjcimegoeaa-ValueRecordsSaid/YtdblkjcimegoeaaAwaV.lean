/- The document's examples of layer 3 hold: awake answers true. No condition. -/
import Derived.Test.YtdblkjcimegoeaaCanon
import Derived.Shelf.SlSortCmp.QuietGrown
namespace Go.Proofs.Ytdblkjcimegoeaa
open Go.RowKit Go.Sort
def nV (n : Int) : V := .mk { hd0 with k := 2, n := n } [] []
theorem r_nV (w : World) (n : Int) : R w (nV n) (.slice none 0 0) (.slice none 0 0) :=
  rep_v.2 ⟨⟨Nat.zero_le _, Nat.zero_le _, Nat.zero_le _⟩, names_nil _ _, none, 0, rfl, ⟨Nat.zero_le _, Nat.zero_le _⟩, .inl rfl⟩
theorem num_c (n : Int) (w : World) : Calls Try.prog 5 #[.int .i64 n] w fun e w' => e = .returned (.agg #[.int .i64 2, .bool false, .int .i64 n, .string ⟨#[]⟩, .string ⟨#[]⟩, .string ⟨#[]⟩, .slice none 0 0, .slice none 0 0]) ∧ Gr w w' := by
  go_enter Try.func5, Try.ntmps5
  go_wp2_with fail
  refine bodyPost_ret (v := .agg #[.int .i64 2, .bool false, .int .i64 n, .string ⟨#[]⟩, .string ⟨#[]⟩, .string ⟨#[]⟩, .slice none 0 0, .slice none 0 0]) (by simp [results, Try.results5, go_sem]; try rfl) rfl ?_
  exact ⟨rfl, Gr.alloc (Gr.refl w) _⟩
/-- Values in a new block. -/
theorem new_row {w W : World} {cs : List Value} {C : Array Value} {t : TypeId} (g : Gr (w.alloc (.cells C t)) W) (hC : C = cs.toArray) {o : Nat} {l : List Value} (hl : ∀ j v, l[j]? = some v → cs[o + j]? = some v) : CellsAt W w.heap.size o l := fun j v hv => by
  refine gr_cells g ?_
  rw [hC]
  simpa using hl j v hv
def sV (l : List V) : V := .mk { hd0 with k := 5 } l []
def rV (n : ByteArray) (x : V) : V := .mk { hd0 with k := 6 } [x] [n]
theorem can_aw : canD (sV [nV 2, nV 1, nV 2]) = (0, sV [nV 1, nV 2]) := by kernel_rfl
theorem sm_aw : Sm (sV [nV 2, nV 1, nV 2]) := by simp [sV, nV, Sm, SmL]
set_option maxHeartbeats 4000000 in
theorem awake_c (w : World) : Calls Try.prog 4 #[] w fun e w' => e = .returned (.bool true) ∧ Low w w' := by
  go_enter Try.func4, Try.ntmps4
  go_wp2_with fail
  refine (num_c 2 _).mono ?_
  rintro e w1 ⟨rfl, g1⟩
  go_wp2_with fail
  refine (num_c 1 _).mono ?_
  rintro e w2 ⟨rfl, g2⟩
  go_wp2_with fail
  refine (num_c 2 _).mono ?_
  rintro e w3 ⟨rfl, g3⟩
  have G3 := Lib.hid (g1.trans (g2.trans g3))
  clear g1 g2 g3
  obtain ⟨W, hW⟩ : ∃ W, W = w3.alloc (.cells #[.int .i64 2, .bool false, .int .i64 2, .string ⟨#[]⟩, .string ⟨#[]⟩, .string ⟨#[]⟩, .slice none 0 0, .slice none 0 0, .int .i64 2, .bool false, .int .i64 1, .string ⟨#[]⟩, .string ⟨#[]⟩, .string ⟨#[]⟩, .slice none 0 0, .slice none 0 0, .int .i64 2, .bool false, .int .i64 2, .string ⟨#[]⟩, .string ⟨#[]⟩, .string ⟨#[]⟩, .slice none 0 0, .slice none 0 0] 29) := ⟨_, rfl⟩
  have gw : Gr (w3.alloc (.cells #[.int .i64 2, .bool false, .int .i64 2, .string ⟨#[]⟩, .string ⟨#[]⟩, .string ⟨#[]⟩, .slice none 0 0, .slice none 0 0, .int .i64 2, .bool false, .int .i64 1, .string ⟨#[]⟩, .string ⟨#[]⟩, .string ⟨#[]⟩, .slice none 0 0, .slice none 0 0, .int .i64 2, .bool false, .int .i64 2, .string ⟨#[]⟩, .string ⟨#[]⟩, .string ⟨#[]⟩, .slice none 0 0, .slice none 0 0] 29)) W := hW ▸ Gr.refl _
  have hrow : R W (sV [nV 2, nV 1, nV 2]) (.slice (some ⟨w3.heap.size, 0, none⟩) 3 3) (.slice none 0 0) := by
    refine rep_v.2 ⟨⟨Nat.zero_le _, Nat.zero_le _, Nat.zero_le _⟩, names_nil _ _, some ⟨w3.heap.size, 0, none⟩, 3, rfl, ⟨Nat.le_refl _, by show 3 ≤ 9223372036854775807; decide⟩, .inr ⟨w3.heap.size, 0, rfl, trivial, repF_of fun j hj => ?_⟩⟩
    have hj3 : j < 3 := hj
    have key : ∀ j, j < 3 → ∀ n, (n = 0 ∧ j = 0 ∨ n = 1 ∧ j = 1 ∨ n = 2 ∧ j = 2) → True := fun _ _ _ _ => trivial
    match j, hj3 with
    | 0, _ => exact ⟨.slice none 0 0, .slice none 0 0, new_row (cs := [.int .i64 2, .bool false, .int .i64 2, .string ⟨#[]⟩, .string ⟨#[]⟩, .string ⟨#[]⟩, .slice none 0 0, .slice none 0 0, .int .i64 2, .bool false, .int .i64 1, .string ⟨#[]⟩, .string ⟨#[]⟩, .string ⟨#[]⟩, .slice none 0 0, .slice none 0 0, .int .i64 2, .bool false, .int .i64 2, .string ⟨#[]⟩, .string ⟨#[]⟩, .string ⟨#[]⟩, .slice none 0 0, .slice none 0 0]) gw rfl (fun c v hv => by
        have hc : c < 8 := by have := (List.getElem?_eq_some_iff.1 hv).1; simpa [hdc] using this
        match c, hc with
        | 0, _ => exact hv
        | 1, _ => exact hv
        | 2, _ => exact hv
        | 3, _ => exact hv
        | 4, _ => exact hv
        | 5, _ => exact hv
        | 6, _ => exact hv
        | 7, _ => exact hv), r_nV _ _⟩
    | 1, _ => exact ⟨.slice none 0 0, .slice none 0 0, new_row (cs := [.int .i64 2, .bool false, .int .i64 2, .string ⟨#[]⟩, .string ⟨#[]⟩, .string ⟨#[]⟩, .slice none 0 0, .slice none 0 0, .int .i64 2, .bool false, .int .i64 1, .string ⟨#[]⟩, .string ⟨#[]⟩, .string ⟨#[]⟩, .slice none 0 0, .slice none 0 0, .int .i64 2, .bool false, .int .i64 2, .string ⟨#[]⟩, .string ⟨#[]⟩, .string ⟨#[]⟩, .slice none 0 0, .slice none 0 0]) gw rfl (fun c v hv => by
        have hc : c < 8 := by have := (List.getElem?_eq_some_iff.1 hv).1; simpa [hdc] using this
        match c, hc with
        | 0, _ => exact hv
        | 1, _ => exact hv
        | 2, _ => exact hv
        | 3, _ => exact hv
        | 4, _ => exact hv
        | 5, _ => exact hv
        | 6, _ => exact hv
        | 7, _ => exact hv), r_nV _ _⟩
    | 2, _ => exact ⟨.slice none 0 0, .slice none 0 0, new_row (cs := [.int .i64 2, .bool false, .int .i64 2, .string ⟨#[]⟩, .string ⟨#[]⟩, .string ⟨#[]⟩, .slice none 0 0, .slice none 0 0, .int .i64 2, .bool false, .int .i64 1, .string ⟨#[]⟩, .string ⟨#[]⟩, .string ⟨#[]⟩, .slice none 0 0, .slice none 0 0, .int .i64 2, .bool false, .int .i64 2, .string ⟨#[]⟩, .string ⟨#[]⟩, .string ⟨#[]⟩, .slice none 0 0, .slice none 0 0]) gw rfl (fun c v hv => by
        have hc : c < 8 := by have := (List.getElem?_eq_some_iff.1 hv).1; simpa [hdc] using this
        match c, hc with
        | 0, _ => exact hv
        | 1, _ => exact hv
        | 2, _ => exact hv
        | 3, _ => exact hv
        | 4, _ => exact hv
        | 5, _ => exact hv
        | 6, _ => exact hv
        | 7, _ => exact hv), r_nV _ _⟩
  have hcon := Canon_c (sV [nV 2, nV 1, nV 2]) W _ _ hrow sm_aw
  rw [can_aw] at hcon
  have HC := Lib.hid hcon
  have LW := Lib.hid ((G3.out.low).trans (Low.alloc (Low.refl w3) (.cells #[.int .i64 2, .bool false, .int .i64 2, .string ⟨#[]⟩, .string ⟨#[]⟩, .string ⟨#[]⟩, .slice none 0 0, .slice none 0 0, .int .i64 2, .bool false, .int .i64 1, .string ⟨#[]⟩, .string ⟨#[]⟩, .string ⟨#[]⟩, .slice none 0 0, .slice none 0 0, .int .i64 2, .bool false, .int .i64 2, .string ⟨#[]⟩, .string ⟨#[]⟩, .string ⟨#[]⟩, .slice none 0 0, .slice none 0 0] 29)))
  rw [hW] at HC
  clear hrow hcon gw hW
  go_wp2_with fail
  refine HC.out.mono ?_
  rintro e w4 ⟨bi, di, bn, dn, rfl, hrep, hlow⟩
  have HR := Lib.hid hrep
  have L4 := Lib.hid (LW.out.trans hlow)
  clear hrep hlow HC
  simp only [sV, V.h, V.l, V.ns, hd0, List.length_cons, List.length_nil, Nat.zero_add, Nat.reduceAdd]
  go_wp2_with fail
  refine (num_c 7 _).mono ?_
  rintro e w5 ⟨rfl, g5⟩
  have a1 := gr_box ((Gr.alloc (Gr.refl _) (.cells #[.string ⟨#[97]⟩] 9)).trans g5)
  have hnc : w5.cell? ⟨w4.heap.size + 1, 0, none⟩ = some (.string ⟨#[97]⟩) := by
    have h := gr_cells (k := 0) g5 (v := .string ⟨#[97]⟩) (by simp)
    simpa using h
  obtain ⟨W5, hW5⟩ : ∃ W5, W5 = w5.alloc (.cells #[.int .i64 2, .bool false, .int .i64 7, .string ⟨#[]⟩, .string ⟨#[]⟩, .string ⟨#[]⟩, .slice none 0 0, .slice none 0 0] 29) := ⟨_, rfl⟩
  have gw5 : Gr (w5.alloc (.cells #[.int .i64 2, .bool false, .int .i64 7, .string ⟨#[]⟩, .string ⟨#[]⟩, .string ⟨#[]⟩, .slice none 0 0, .slice none 0 0] 29)) W5 := hW5 ▸ Gr.refl _
  have hrec : R W5 (rV ⟨#[97]⟩ (nV 7)) (.slice (some ⟨w5.heap.size, 0, none⟩) 1 1) (.slice (some ⟨w4.heap.size + 1, 0, none⟩) 1 1) := by
    refine rep_v.2 ⟨⟨Nat.zero_le _, Nat.zero_le _, Nat.zero_le _⟩, ⟨some ⟨w4.heap.size + 1, 0, none⟩, 1, rfl, by show 1 ≤ 9223372036854775807; decide, fun x hx => ?_, .inr ⟨w4.heap.size + 1, 0, rfl, trivial, fun j hj => ?_⟩⟩, some ⟨w5.heap.size, 0, none⟩, 1, rfl, ⟨Nat.le_refl _, by show 1 ≤ 9223372036854775807; decide⟩, .inr ⟨w5.heap.size, 0, rfl, trivial, repF_of fun j hj => ?_⟩⟩
    · have : x = ⟨#[97]⟩ := by simpa [rV, V.ns] using hx
      rw [this]; decide
    · have h0 : j = 0 := by simpa [rV, V.ns] using hj
      subst h0
      exact (Gr.alloc (Gr.refl w5) (.cells #[.int .i64 2, .bool false, .int .i64 7, .string ⟨#[]⟩, .string ⟨#[]⟩, .string ⟨#[]⟩, .slice none 0 0, .slice none 0 0] 29)).trans gw5 |>.cell hnc
    · have h0 : j = 0 := by simpa [rV, V.l] using hj
      subst h0
      exact ⟨.slice none 0 0, .slice none 0 0, new_row (cs := [.int .i64 2, .bool false, .int .i64 7, .string ⟨#[]⟩, .string ⟨#[]⟩, .string ⟨#[]⟩, .slice none 0 0, .slice none 0 0]) gw5 rfl (fun c v hv => by
        have hc : c < 8 := by have := (List.getElem?_eq_some_iff.1 hv).1; simpa [hdc] using this
        match c, hc with
        | 0, _ => exact hv
        | 1, _ => exact hv
        | 2, _ => exact hv
        | 3, _ => exact hv
        | 4, _ => exact hv
        | 5, _ => exact hv
        | 6, _ => exact hv
        | 7, _ => exact hv), r_nV _ _⟩
  have hcon := get_c (rV ⟨#[97]⟩ (nV 7)) ⟨#[97]⟩ W5 _ _ hrec
  have hgv : getV (rV ⟨#[97]⟩ (nV 7)) ⟨#[97]⟩ = nV 7 := by kernel_rfl
  have hgi : decide (0 ≤ getI (rV ⟨#[97]⟩ (nV 7)) ⟨#[97]⟩) = true := by kernel_rfl
  rw [hgv, hgi] at hcon
  have HC := Lib.hid hcon
  rw [hW5] at HC
  have BX := Lib.hid a1
  have L5 := Lib.hid ((((L4.out.alloc (.cells #[.int .i64 5, .bool false, .int .i64 0, .string ⟨#[]⟩, .string ⟨#[]⟩, .string ⟨#[]⟩, .slice bi 2 di, .slice bn 0 dn] 29)).alloc (.cells #[.string ⟨#[97]⟩] 9)).trans g5.low).alloc (.cells #[.int .i64 2, .bool false, .int .i64 7, .string ⟨#[]⟩, .string ⟨#[]⟩, .string ⟨#[]⟩, .slice none 0 0, .slice none 0 0] 29))
  have R5 := Lib.hid ((((HR.out.any.low (Low.alloc (Low.refl w4) (.cells #[.int .i64 5, .bool false, .int .i64 0, .string ⟨#[]⟩, .string ⟨#[]⟩, .string ⟨#[]⟩, .slice bi 2 di, .slice bn 0 dn] 29))).low (Low.alloc (Low.refl _) (.cells #[.string ⟨#[97]⟩] 9))).low g5.low).low (Low.alloc (Low.refl _) (.cells #[.int .i64 2, .bool false, .int .i64 7, .string ⟨#[]⟩, .string ⟨#[]⟩, .string ⟨#[]⟩, .slice none 0 0, .slice none 0 0] 29)))
  clear hcon hrec gw5 hW5 hgv hgi hnc a1 g5
  go_wp2_with fail
  refine HC.out.mono ?_
  rintro e w6 ⟨it, nm, rfl, hr7, g7⟩
  obtain ⟨a7, c7, b7, d7, rfl, rfl⟩ := r_slices hr7
  have L6 := Lib.hid (L5.out.trans g7.low)
  have R6 := Lib.hid (R5.out.low g7.low)
  obtain ⟨t0, t1, t2, t3, t4, t5, t6, t7⟩ := BX.out
  obtain ⟨W6, hW6⟩ : ∃ W, W = w6.alloc (.cells #[.int .i64 2, .bool false, .int .i64 7, .string ⟨#[]⟩, .string ⟨#[]⟩, .string ⟨#[]⟩, .slice a7 0 c7, .slice b7 0 d7] 29) := ⟨_, rfl⟩
  have g6 : Gr (w6.alloc (.cells #[.int .i64 2, .bool false, .int .i64 7, .string ⟨#[]⟩, .string ⟨#[]⟩, .string ⟨#[]⟩, .slice a7 0 c7, .slice b7 0 d7] 29)) W6 := hW6 ▸ Gr.refl _
  have LL : Low w5 W6 := ((Low.alloc (Low.refl w5) (.cells #[.int .i64 2, .bool false, .int .i64 7, .string ⟨#[]⟩, .string ⟨#[]⟩, .string ⟨#[]⟩, .slice none 0 0, .slice none 0 0] 29)).trans g7.low).trans ((Low.alloc (Low.refl w6) (.cells #[.int .i64 2, .bool false, .int .i64 7, .string ⟨#[]⟩, .string ⟨#[]⟩, .string ⟨#[]⟩, .slice a7 0 c7, .slice b7 0 d7] 29)).trans g6.low)
  have x7 : W6.cell? ⟨w6.heap.size, 2, none⟩ = some (.int .i64 7) := gr_cells (k := 2) g6 (by simp)
  have RS : R W6 (sV [nV 1, nV 2]) (.slice bi 2 di) (.slice bn 0 dn) := (R6.out.low (Low.alloc (Low.refl w6) (.cells #[.int .i64 2, .bool false, .int .i64 7, .string ⟨#[]⟩, .string ⟨#[]⟩, .string ⟨#[]⟩, .slice a7 0 c7, .slice b7 0 d7] 29))).low g6.low
  obtain ⟨ob, oo, oa, oc, on, od, hbi, hcs, -⟩ := ro_at (show Ro W6 [nV 1, nV 2] (.slice bi 2 di) from (rep_v.1 RS).2.2) (i := 0) (by decide)
  subst hbi
  have hone : W6.cell? ⟨ob, oo + 2, none⟩ = some (.int .i64 1) := by
    have h := (cells8 hcs).2.2.1
    simpa [nV, V.h] using h
  have up : ∀ {a : Addr} {v : Value}, W6.cell? a = some v → ∀ n os, (grow (W6.drewN n) os).cell? a = some v := fun h n os => (Gr.grow (Gr.refl W6) n os).cell h
  have q0 := up (LL.keep t0)
  have q1 := up (LL.keep t1)
  have q2 := up (LL.keep t2)
  have q3 := up (LL.keep t3)
  have q4 := up (LL.keep t4)
  have q5 := up (LL.keep t5)
  have q6 := up (LL.keep t6)
  have q7 := up (LL.keep t7)
  have qx := up x7
  have qo := up hone
  have KW := fun n os => (Gr.grow (Gr.refl W6) n os).low
  have e1 : holdsB (sV [nV 1, nV 2]) (nV 2) = true := by kernel_rfl
  have e2 : holdsB (sV [nV 1, nV 2]) (.mk { hd0 with k := 3, s := ⟨#[49]⟩ } [] []) = false := by kernel_rfl
  have e3 : ord (nV 1) (nV 2) = -1 := by kernel_rfl
  have e4 : (ord (nV 3) (nV 3) == 0) = true := by kernel_rfl
  have e5 : dpt (sV [nV 1, nV 2]) = 2 := by kernel_rfl
  have rt : ∀ W, R W (.mk { hd0 with k := 3, s := ⟨#[49]⟩ } [] []) (.slice none 0 0) (.slice none 0 0) := fun W => rep_v.2 ⟨⟨by show 1 ≤ 9223372036854775807; decide, Nat.zero_le _, Nat.zero_le _⟩, names_nil _ _, none, 0, rfl, ⟨Nat.zero_le _, Nat.zero_le _⟩, .inl rfl⟩
  have A1 := Lib.hid fun n os => (e1 ▸ holds_c (sV [nV 1, nV 2]) (nV 2) (grow (W6.drewN n) os) _ _ _ _ (RS.low (KW n os)) (r_nV _ 2) : Calls Try.prog 8 _ _ fun e w' => e = .returned (.bool true) ∧ Gr (grow (W6.drewN n) os) w')
  have A2 := Lib.hid fun n os => (e2 ▸ holds_c (sV [nV 1, nV 2]) (.mk { hd0 with k := 3, s := ⟨#[49]⟩ } [] []) (grow (W6.drewN n) os) _ _ _ _ (RS.low (KW n os)) (rt _) : Calls Try.prog 8 _ _ fun e w' => e = .returned (.bool false) ∧ Gr (grow (W6.drewN n) os) w')
  have A3 := Lib.hid fun n os => (e3 ▸ order_c (nV 1) (nV 2) (grow (W6.drewN n) os) _ _ _ _ (r_nV _ 1) (r_nV _ 2) : Calls Try.prog 9 _ _ fun e w' => e = .returned (.int .i64 (-1)) ∧ Gr (grow (W6.drewN n) os) w')
  have A4 := Lib.hid fun n os => (e4 ▸ same_c (nV 3) (nV 3) (grow (W6.drewN n) os) _ _ _ _ (r_nV _ 3) (r_nV _ 3) : Calls Try.prog 10 _ _ fun e w' => e = .returned (.bool true) ∧ Gr (grow (W6.drewN n) os) w')
  have A5 := Lib.hid fun n os => (e5 ▸ depth_c (sV [nV 1, nV 2]) (by rw [show dep (sV [nV 1, nV 2]) = 2 by kernel_rfl]; decide) (grow (W6.drewN n) os) _ _ (RS.low (KW n os)) : Calls Try.prog 11 _ _ fun e w' => e = .returned (.int .i64 ((2 : Nat) : Int)) ∧ Gr (grow (W6.drewN n) os) w')
  have A6 := Lib.hid fun k n os => num_c k (grow (W6.drewN n) os)
  have L7 := Lib.hid (L6.out.alloc (.cells #[.int .i64 2, .bool false, .int .i64 7, .string ⟨#[]⟩, .string ⟨#[]⟩, .string ⟨#[]⟩, .slice a7 0 c7, .slice b7 0 d7] 29))
  have L8 := Lib.hid g6.low
  clear LL x7 RS hcs hone up KW e1 e2 e3 e4 e5 rt g6 hr7 g7 t0 t1 t2 t3 t4 t5 t6 t7
  simp only [nV, V.h, V.l, V.ns, hd0, List.length_nil, av]
  go_wp2_with fail
  rw [← hW6]
  rw [← hW6] at L7 L8
  clear hW6
  have mixed : Try.prog.follows .mixedOrders = true := by kernel_rfl
  go_quiet_grown (first
    | (go_at_call 5; refine Calls.grown_of (A6.out _ _ _))
    | (go_at_call_of 8 (Value.int IntKind.i64 3); refine Calls.grown_of (A2.out _ _))
    | (go_at_call 8; refine Calls.grown_of (A1.out _ _))
    | (go_at_call 9; refine Calls.grown_of (A3.out _ _))
    | (go_at_call 10; refine Calls.grown_of (A4.out _ _))
    | (go_at_call 11; refine Calls.grown_of (A5.out _ _)))
  go_wp2_with fail
  go_ret
  exact ⟨rfl, L7.out.trans (Gr.grow (Gr.refl W6) _ _).low⟩
end Go.Proofs.Ytdblkjcimegoeaa
