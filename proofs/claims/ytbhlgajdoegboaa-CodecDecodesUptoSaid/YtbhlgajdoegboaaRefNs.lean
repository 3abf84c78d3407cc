/- The reference's next: a number of so many bytes. Condition: no more than 8. What is taken off bytes, where there are so many, and where not. No condition. The reference's reader: what is left of its bytes; its next and word. Condition: no more than 65536 bytes. -/
import Derived.Test.YtbhlgajdoegboaaRdV
import Derived.Test.YtbhlgajdoegboaaRdB
namespace Go.Proofs.Ytbhlgajdoegboaa
open Go.RowKit
/-- A reader of the reference: its bytes, its place, whether it is bad. -/
def nxtBad (bs : List UInt8) (at' : Nat) (bad : Bool) (k : Nat) : Bool := bad || decide (bs.length - at' < k)
set_option maxHeartbeats 1600000 in
set_option maxRecDepth 100000 in
theorem next_bad (bs : List UInt8) (n : Nat) (hn : bs.length = n) (p : Nat) (hp : p ≤ n) (hn63 : n ≤ 9223372036854775807) (bad : Bool) (k : Nat) (w : World) (ao : Option Addr) (cap : Nat) (h : nxtBad bs p bad k = true) :
    Calls Try.prog 50 #[.agg #[.slice ao n cap, .int .i64 p, .bool bad], .int .i64 k] w fun e w' => e = .returned (.tuple #[.agg #[.slice ao n cap, .int .i64 p, .bool true], .int .i64 0]) ∧ Low w w' := by
  have hb : bad = true ∨ (n : Int) - (p : Int) < (k : Int) := by
    unfold nxtBad at h
    rw [hn] at h
    cases bad with
    | true => exact .inl rfl
    | false =>
      simp at h
      exact .inr (by omega)
  cases bad with
  | true =>
    clear hb h hn63
    go_enter Try.func50, Try.ntmps50
    go_wp2_with fail
    refine bodyPost_ret (v := .tuple #[.agg #[.slice ao n cap, .int .i64 p, .bool true], .int .i64 0]) (by simp [results, Try.results50, go_sem]; try rfl) rfl ?_
    refine ⟨rfl, ?_⟩
    repeat (first | exact Low.refl _ | apply Low.alloc | refine Low.kept ?_ (kept_setCell _ _ _ _) (fun g hg => by simp at hg; omega))
  | false =>
    have z1 : (n : Int) - (p : Int) < (k : Int) := hb.resolve_left (by decide)
    have zw : wrap64 ((n : Int) - (p : Int)) = (n : Int) - (p : Int) := by unfold wrap64; omega
    clear hb h
    go_enter Try.func50, Try.ntmps50
    go_wp2_with fail
    refine bodyPost_ret (v := .tuple #[.agg #[.slice ao n cap, .int .i64 p, .bool true], .int .i64 0]) (by simp [results, Try.results50, go_sem]; try rfl) rfl ?_
    refine ⟨rfl, ?_⟩
    repeat (first | exact Low.refl _ | apply Low.alloc | refine Low.kept ?_ (kept_setCell _ _ _ _) (fun g hg => by simp at hg; omega))
set_option maxHeartbeats 1600000 in
set_option maxRecDepth 100000 in
theorem next_ok (bs : List UInt8) (n : Nat) (hn : bs.length = n) (p : Nat) (k : Nat) (hk : k ≤ 4) (hpk : p + k ≤ n) (B : Nat) (w : World) (ao : Option Addr) (cap : Nat) (h : BytesAt B w bs ao cap) :
    Calls Try.prog 50 #[.agg #[.slice ao n cap, .int .i64 p, .bool false], .int .i64 k] w fun e w' => e = .returned (.tuple #[.agg #[.slice ao n cap, .int .i64 (p + k : Nat), .bool false], .int .i64 (ofB ((bs.drop p).take k) : Nat)]) ∧ Low w w' := by
  obtain ⟨⟨hc1, hc2⟩, hby⟩ := h
  have hn63 : n ≤ 9223372036854775807 := by omega
  have zw : wrap64 ((n : Int) - (p : Int)) = (n : Int) - (p : Int) := by unfold wrap64; omega
  have z1 : ¬ (n : Int) - (p : Int) < (k : Int) := by omega
  have HBY := Lib.hid hby
  have HN := Lib.hid hn
  obtain ⟨Y, hY⟩ : ∃ Y : Int, Y = (ofB ((bs.drop p).take k) : Nat) := ⟨_, rfl⟩
  rw [← hY]
  have HY := Lib.hid hY
  clear hby hn hY
  go_enter Try.func50, Try.ntmps50
  go_wp2_with fail
  obtain ⟨W0, hW0⟩ : ∃ W, W = (w.alloc (.cells #[.slice ao n cap, .int .i64 p, .bool false] 56)).alloc (.cells #[.slice none 0 0, .int .i64 0, .bool false] 56) := ⟨_, rfl⟩
  have HW0 := Lib.hid hW0
  go_loopg [6, 7] k (fun gk vx vi wr => ∃ (X : Int) (i : Nat), vx = .int .i64 X ∧ vi = .int .i64 (i : Int) ∧ i ≤ k ∧ k - i ≤ gk ∧ Hid (X = (ofB ((bs.drop p).take i) : Nat)) ∧ Hid (W0 = wr))
  case atStart => exact ⟨0, 0, rfl, rfl, Nat.zero_le _, Nat.le_refl _, Lib.hid rfl, Lib.hid hW0⟩
  case round =>
    obtain ⟨X, i, rfl, rfl, hi, hg, HX, HW⟩ := hrel
    have hwr := HW.out.symm.trans HW0.out
    subst hwr
    by_cases hlt : i < k
    · have z2 : (i : Int) < (k : Int) := by omega
      have hpi : p + i < bs.length := by have := HN.out; omega
      have hdl : i < (bs.drop p).length := by rw [List.length_drop]; omega
      rcases HBY.out with h0 | ⟨b, o, rfl, hbb, hcc⟩
      · rw [h0] at hpi; exact absurd hpi (Nat.not_lt_zero _)
      obtain ⟨c, hc⟩ : ∃ c, c = bs[p + i] := ⟨_, rfl⟩
      have cc0 := hcc (p + i) hpi
      rw [← hc] at cc0
      unfold byV at cc0
      have cc := (Gr.alloc (Gr.alloc (Gr.refl w) (.cells #[.slice (some ⟨b, o, none⟩) n cap, .int .i64 p, .bool false] 56)) (.cells #[.slice none 0 0, .int .i64 0, .bool false] 56)).cell cc0
      have hof := ofB_take hdl
      rw [List.getElem_drop, ← hc] at hof
      have z3 : (p : Int) + (i : Int) < (n : Int) := by omega
      have hX : 0 ≤ X ∧ X < 16777216 := by
        have h1 := ofB_lt ((bs.drop p).take i)
        have h2 : ((bs.drop p).take i).length ≤ 3 := by rw [List.length_take]; omega
        have h3 : 256 ^ ((bs.drop p).take i).length ≤ 256 ^ 3 := Nat.pow_le_pow_right (by decide) h2
        have h5 : (256 : Nat) ^ 3 = 16777216 := by decide
        have := HX.out
        omega
      obtain ⟨hX0, hX1⟩ := hX
      have hcb := c.toNat_lt
      have HOF := Lib.hid hof
      clear hcc hc hof cc0
      go_wp2_with fail
      go_roundg (k - (i + 1))
      case measure => omega
      case rel => exact ⟨X * 256 + (c.toNat : Int), i + 1, rfl, by go_num, by omega, by omega, Lib.hid (by rw [HOF.out, HX.out]; omega), HW⟩
    · have z2 : ¬ (i : Int) < (k : Int) := by omega
      obtain rfl : i = k := by omega
      obtain rfl : X = Y := by rw [HX.out, HY.out]
      go_wp2_with fail
      refine bodyPost_ret (v := .tuple #[.agg #[.slice ao n cap, .int .i64 ((p : Int) + (i : Int)), .bool false], .int .i64 X]) (by simp [results, Try.results50, go_sem]; try rfl) rfl ?_
      refine ⟨by simp, ?_⟩
      repeat (first | exact Low.refl _ | apply Low.alloc | refine Low.kept ?_ (kept_setCell _ _ _ _) (fun g hg => by simp at hg; omega))
end Go.Proofs.Ytbhlgajdoegboaa
namespace Go.Proofs.Ytbhlgajdoegboaa
theorem tk_no {k : Nat} {l : List UInt8} (h : ¬ k ≤ l.length) : tkB k l = [] ∧ tkR k l = [] ∧ ∀ s, tkS k l s = true := by
  unfold tkB tkR tkS
  rw [if_neg h, if_neg h]
  exact ⟨rfl, rfl, fun s => by rw [if_neg h]⟩
theorem tk_yes {k : Nat} {l : List UInt8} (h : k ≤ l.length) : tkB k l = l.take k ∧ tkR k l = l.drop k ∧ ∀ s, tkS k l s = s := by
  unfold tkB tkR tkS
  rw [if_pos h, if_pos h]
  exact ⟨rfl, rfl, fun s => by rw [if_pos h]⟩
end Go.Proofs.Ytbhlgajdoegboaa
namespace Go.Proofs.Ytbhlgajdoegboaa
open Go.RowKit
/-- What is left: nothing, where it is bad. -/
def lf (bs : List UInt8) (p : Nat) (sh : Bool) : List UInt8 := if sh then [] else bs.drop p
/-- An answer of a reading: the reader behind it. -/
def GrP (bs : List UInt8) (l' : List UInt8) (sh' : Bool) (p' : Nat) : Prop := p' ≤ bs.length ∧ l' = lf bs p' sh'
theorem next_c (bs : List UInt8) (n : Nat) (hn : bs.length = n) (p : Nat) (hp : p ≤ n) (sh : Bool) (k : Nat) (hk0 : 0 < k) (hk : k ≤ 4) (m : Int) (hm : m = (k : Int)) (B : Nat) (w : World) (ao : Option Addr) (cap : Nat) (h : BytesAt B w bs ao cap) (l : List UInt8) (hl : l = lf bs p sh) :
    Calls Try.prog 50 #[.agg #[.slice ao n cap, .int .i64 p, .bool sh], .int .i64 m] w fun e w' => (∃ p' : Nat, GrP bs (tkR k l) (tkS k l sh) p' ∧ e = .returned (.tuple #[.agg #[.slice ao n cap, .int .i64 p', .bool (tkS k l sh)], .int .i64 (ofB (tkB k l) : Nat)])) ∧ Low w w' := by
  have hn63 : n ≤ 9223372036854775807 := by have := h.1; omega
  subst hm
  cases hb : nxtBad bs p sh k with
  | true =>
    refine (next_bad bs n hn p hp hn63 sh k w ao cap hb).mono fun e w' ⟨he, hl'⟩ => ?_
    have hs : ¬ k ≤ l.length := by
      unfold nxtBad at hb
      rw [hl]
      unfold lf
      cases sh with
      | true => simp; omega
      | false => simp at hb ⊢; omega
    have e1 : tkB k l = [] := by unfold tkB; rw [if_neg hs]
    have e2 : tkR k l = [] := by unfold tkR; rw [if_neg hs]
    have e3 : tkS k l sh = true := by unfold tkS; rw [if_neg hs]
    rw [e1, e2, e3]
    exact ⟨⟨p, ⟨by omega, rfl⟩, he⟩, hl'⟩
  | false =>
    have hsh : sh = false := by
      unfold nxtBad at hb
      cases sh <;> simp_all
    subst hsh
    have hk2 : k ≤ l.length := by
      unfold nxtBad at hb
      rw [hl]
      unfold lf
      simp at hb ⊢
      omega
    have hll : l = bs.drop p := hl
    have hpk : p + k ≤ n := by rw [hll, List.length_drop] at hk2; omega
    refine (next_ok bs n hn p k hk hpk B w ao cap h).mono fun e w' ⟨he, hl'⟩ => ?_
    have e1 : tkB k l = (bs.drop p).take k := by unfold tkB; rw [if_pos hk2, hll]
    have e2 : tkR k l = bs.drop (p + k) := by unfold tkR; rw [if_pos hk2, hll, List.drop_drop]
    have e3 : tkS k l false = false := by unfold tkS; rw [if_pos hk2]
    rw [e1, e2, e3]
    exact ⟨⟨p + k, ⟨by omega, rfl⟩, he⟩, hl'⟩
theorem tx_bad {l : List UInt8} {sh : Bool} (h : tkS 4 l sh = true ∧ tkR 4 l = [] ∨ ¬ txN l ≤ (tkR 4 l).length) : txB l = [] ∧ txR l = [] ∧ txS l sh = true := by
  rcases h with ⟨h1, h2⟩ | h
  · unfold txB txR txS
    rw [h1, h2]
    by_cases h0 : txN l ≤ ([] : List UInt8).length
    · obtain ⟨a, b, c⟩ := tk_yes h0
      rw [a, b, c]; simp
    · obtain ⟨a, b, c⟩ := tk_no h0
      rw [a, b, c]; simp
  · obtain ⟨a, b, c⟩ := tk_no h
    exact ⟨a, b, c _⟩
theorem tx_good {l : List UInt8} {sh : Bool} (h : txN l ≤ (tkR 4 l).length) : txB l = (tkR 4 l).take (txN l) ∧ txR l = (tkR 4 l).drop (txN l) ∧ txS l sh = tkS 4 l sh := by
  obtain ⟨a, b, c⟩ := tk_yes h
  exact ⟨a, b, c _⟩
theorem box3_low {W w1 : World} {c0 c1 c2 : Value} {t : TypeId} (L : Low (W.alloc (.cells #[c0, c1, c2] t)) w1) (n : Nat) (hn : W.heap.size = n) : (w1.cell? ⟨n, 0, none⟩ = some c0 ∧ w1.cell? ⟨n, 1, none⟩ = some c1 ∧ w1.cell? ⟨n, 2, none⟩ = some c2) ∧ ∀ o, w1.frozen? ⟨n, o, none⟩ = false := by
  subst hn
  have key : ∀ (j : Nat) (u : Value), (#[c0, c1, c2] : Array Value)[j]? = some u → w1.cell? ⟨W.heap.size, j, none⟩ = some u := fun j u hu => L.keep (by rw [World.cell?_alloc_mark]; exact hu)
  exact ⟨⟨key 0 _ rfl, key 1 _ rfl, key 2 _ rfl⟩, fun o => by rw [L.frozen (p := ⟨W.heap.size, o, none⟩) (by simp)]; simp [go_sem]⟩
theorem slice_bytes {B : Nat} {w : World} {bs : List UInt8} {ao : Option Addr} {cap : Nat} (h : BytesAt B w bs ao cap) (p m : Nat) (hpm : p + m ≤ bs.length) : BytesAt B w ((bs.drop p).take m) (ao.map fun x => x.add p) (cap - p) := by
  obtain ⟨⟨h1, h2⟩, h3⟩ := h
  refine ⟨⟨by rw [List.length_take, List.length_drop]; omega, by omega⟩, ?_⟩
  rcases h3 with h0 | ⟨b, o, h0, h1, h2⟩
  · exact .inl (by rw [h0]; simp)
  · refine .inr ⟨b, o + p, by rw [h0, Option.map_some, Addr.add_lit], h1, fun j hj => ?_⟩
    have hj' : p + j < bs.length := by rw [List.length_take, List.length_drop] at hj; omega
    rw [List.getElem_take, List.getElem_drop, Nat.add_assoc]
    exact h2 (p + j) hj'
theorem slice_bytes0 {B : Nat} {w : World} {bs : List UInt8} {ao : Option Addr} {cap : Nat} (h : BytesAt B w bs ao cap) (p m : Nat) (hpm : p + m ≤ bs.length) (hc : cap = p) : m = 0 ∧ BytesAt B w ((bs.drop p).take m) ao 0 := by
  obtain ⟨⟨h1, h2⟩, h3⟩ := h
  have hm : m = 0 := by omega
  subst hm
  exact ⟨rfl, ⟨by simp, by decide⟩, .inl (by simp)⟩
set_option maxHeartbeats 3200000 in
set_option maxRecDepth 100000 in
theorem word_c (bs : List UInt8) (n : Nat) (hn : bs.length = n) (p : Nat) (hp : p ≤ n) (sh : Bool) (B : Nat) (w : World) (ao : Option Addr) (cap : Nat) (h : BytesAt B w bs ao cap) (hB : B ≤ w.heap.size) (l : List UInt8) (hl : l = lf bs p sh) :
    Calls Try.prog 51 #[.agg #[.slice ao n cap, .int .i64 p, .bool sh]] w fun e w' => (∃ (p' : Nat) (s : ByteArray), GrP bs (txR l) (txS l sh) p' ∧ s = ⟨(txB l).toArray⟩ ∧ e = .returned (.tuple #[.agg #[.slice ao n cap, .int .i64 p', .bool (txS l sh)], .string s])) ∧ Low w w' := by
  have hnx := fun W (hW : Low w W) => next_c bs n hn p hp sh 4 (by decide) (by decide) 4 rfl B W ao cap (h.to fun b hb => hW.2.2.2 b (by omega)) l hl
  have HNX := Lib.hid hnx
  have H := Lib.hid h
  have HN := Lib.hid hn
  have hn63 : n ≤ 9223372036854775807 := by have := h.1; omega
  have hnc : n ≤ cap := by have := h.1; omega
  clear hnx h hl hn
  obtain ⟨sh1, hs1⟩ : ∃ s, s = tkS 4 l sh := ⟨_, rfl⟩
  obtain ⟨m, hm⟩ : ∃ m : Nat, m = txN l := ⟨_, rfl⟩
  have hm' : ofB (tkB 4 l) = m := hm.symm
  rw [← hs1, hm'] at HNX
  have HM := Lib.hid hm
  have HS := Lib.hid hs1
  have hm9 : m < 4294967296 := by
    rw [← hm']
    have h1 := ofB_lt (tkB 4 l)
    have h2 : (tkB 4 l).length ≤ 4 := by unfold tkB; split <;> simp <;> omega
    have h3 : 256 ^ (tkB 4 l).length ≤ 256 ^ 4 := Nat.pow_le_pow_right (by decide) h2
    have h5 : (256 : Nat) ^ 4 = 4294967296 := by decide
    omega
  clear hm hm' hs1
  have bad : (tkS 4 l sh = true ∧ tkR 4 l = [] ∨ ¬ txN l ≤ (tkR 4 l).length) → Hid ((txB l = [] ∧ txR l = [] ∧ txS l sh = true)) := fun h => Lib.hid (tx_bad h)
  have HBAD := Lib.hid bad
  clear bad
  cases sh1 with
  | true =>
    go_enter Try.func51, Try.ntmps51
    go_wp2_with (go_at_call 50; refine (HNX.out _ ?hL).mono ?_; (case hL => exact Low.alloc (Low.alloc (Low.refl w) _) _); rintro e w1 ⟨⟨p1, ⟨g1, g2⟩, rfl⟩, L1⟩; obtain ⟨⟨d0, d1, d2⟩, fd⟩ := box3_low L1 (w.heap.size + 1) (by simp); have hsz : w.heap.size + 1 < w1.heap.size := (by have := L1.size; simp at this; omega); have f0 := fd 0; have f1 := fd 1; have f2 := fd 2; have G1 := Lib.hid g1; have G2 := Lib.hid g2; have HL1 := Lib.hid L1; clear g1 g2 fd L1)
    refine bodyPost_ret (v := .tuple #[.agg #[.slice ao n cap, .int .i64 p1, .bool true], .string ⟨#[]⟩]) (by simp [results, Try.results51, go_sem, hsz, d0, d1, d2]; try rfl) rfl ?_
    obtain ⟨b1, b2, b3⟩ := (HBAD.out (.inl ⟨HS.out.symm, by have := G2.out; rw [this]; rfl⟩)).out
    rw [b1, b2, b3]
    refine ⟨⟨p1, ⟨#[]⟩, ⟨G1.out, rfl⟩, rfl, rfl⟩, ?_⟩
    have LW := (Low.alloc (Low.alloc (Low.refl w) _) _).trans HL1.out
    exact Low.alloc (((LW.kept (kept_setCell _ _ _ _) fun g hg => by simp at hg; omega).kept (kept_setCell _ _ _ _) fun g hg => by simp at hg; omega).kept (kept_setCell _ _ _ _) fun g hg => by simp at hg; omega) _
  | false =>
    obtain ⟨s, hs⟩ : ∃ s : ByteArray, s = ⟨(txB l).toArray⟩ := ⟨_, rfl⟩
    have HSS := Lib.hid hs
    clear hs
    go_enter Try.func51, Try.ntmps51
    go_wp2_with fail
    refine (HNX.out _ ?hL).mono ?_
    case hL => exact Low.alloc (Low.alloc (Low.refl w) _) _
    rintro e w1 ⟨⟨p1, ⟨g1, g2⟩, rfl⟩, L1⟩
    obtain ⟨⟨d0, d1, d2⟩, fd⟩ := box3_low L1 (w.heap.size + 1) (by simp)
    have hsz : w.heap.size + 1 < w1.heap.size := by have := L1.size; simp at this; omega
    have f0 := fd 0
    have f1 := fd 1
    have f2 := fd 2
    have hp1 : p1 ≤ n := by rw [← HN.out]; exact g1
    have G1 := Lib.hid g1
    have G2 := Lib.hid g2
    have LW := Lib.hid ((Low.alloc (Low.alloc (Low.refl w) _) _).trans L1)
    have hll : (tkR 4 l).length = n - p1 := by rw [g2]; unfold lf; simp [HN.out]
    have HLL := Lib.hid hll
    clear g1 g2 fd L1 hll
    by_cases hgood : p1 + m ≤ n
    · have z9 : ¬ (n : Int) - (p1 : Int) < (m : Int) := by omega
      have z8 : (m : Int) ≤ (n : Int) - (p1 : Int) := by omega
      have z7 : (p1 : Int) ≤ (p1 : Int) + (m : Int) := by omega
      have z6 : (p1 : Int) + (m : Int) ≤ (cap : Int) := by omega
      have hg := tx_good (l := l) (sh := sh) (by rw [HLL.out, ← HM.out]; omega)
      have e1 : (bs.drop p1).take m = txB l := by rw [hg.1, ← HM.out, G2.out]; rfl
      have BA : Hid (∀ W, Low w W → BytesAt B W bs ao cap) := Lib.hid fun W hW => H.out.to fun b hb => hW.2.2.2 b (by omega)
      have CV := Lib.hid (fun W (hW : Low w W) => (by
        have q := conv_bytes (slice_bytes (BA.out W hW) p1 m (by rw [HN.out]; exact hgood))
        rw [show ((bs.drop p1).take m).length = m by rw [List.length_take, List.length_drop, HN.out]; omega, e1, ← HSS.out] at q
        exact q : (convert 38 9 (.slice (ao.map fun x => x.add p1) m (cap - p1))).run Try.prog W = .ok (.string s) W))
      have CV0 := Lib.hid (fun (hc : cap = p1) W (hW : Low w W) => (by
        obtain ⟨h0, q⟩ := slice_bytes0 (BA.out W hW) p1 m (by rw [HN.out]; exact hgood) hc
        have q := conv_bytes q
        rw [show ((bs.drop p1).take m).length = m by rw [List.length_take, List.length_drop, HN.out]; omega, e1, ← HSS.out] at q
        exact q : (convert 38 9 (.slice ao m 0)).run Try.prog W = .ok (.string s) W))
      have HG := Lib.hid hg
      have HE1 := Lib.hid e1
      have zs : wrap64 ((n : Int) - (p1 : Int)) = (n : Int) - (p1 : Int) := by unfold wrap64; omega
      have fin : Hid (∃ (p' : Nat) (t : ByteArray), GrP bs (txR l) (txS l sh) p' ∧ t = ⟨(txB l).toArray⟩ ∧ Ending.returned (.tuple #[.agg #[.slice ao n cap, .int .i64 ((p1 : Int) + (m : Int)), .bool false], .string s]) = .returned (.tuple #[.agg #[.slice ao n cap, .int .i64 p', .bool (txS l sh)], .string t])) := Lib.hid ⟨p1 + m, s, ⟨by rw [HN.out]; exact hgood, by rw [HG.out.2.1, HG.out.2.2, ← HS.out, ← HM.out, G2.out]; unfold lf; simp⟩, HSS.out, by rw [HG.out.2.2, ← HS.out]; simp⟩
      clear hg e1
      by_cases hcap : cap = p1
      · have CV1 := Lib.hid (CV0.out hcap)
        clear CV CV0
        obtain rfl : m = 0 := by clear zs; omega
        subst hcap
        have cv0 := CV1.out (w1.alloc (.cells #[.slice ao n cap, .int .i64 cap, .bool false] 56)) (Low.alloc LW.out _)
        have fin2 : Hid (∃ (p' : Nat) (t : ByteArray), GrP bs (txR l) (txS l sh) p' ∧ t = ⟨(txB l).toArray⟩ ∧ Ending.returned (.tuple #[.agg #[.slice ao n cap, .int .i64 (cap : Int), .bool false], .string s]) = .returned (.tuple #[.agg #[.slice ao n cap, .int .i64 p', .bool (txS l sh)], .string t])) := Lib.hid (by simpa using fin.out)
        clear fin
        go_wp2_with fail
        refine bodyPost_ret (v := .tuple #[.agg #[.slice ao n cap, .int .i64 (cap : Int), .bool false], .string s]) (by simp [results, Try.results51, go_sem, hsz, d0, d1, d2]; try rfl) rfl ?_
        exact ⟨fin2.out, Low.alloc (((LW.out.kept (kept_setCell _ _ _ _) fun g hg => by simp at hg; omega).kept (kept_setCell _ _ _ _) fun g hg => by simp at hg; omega).kept (kept_setCell _ _ _ _) fun g hg => by simp at hg; omega) _⟩
      · have cv := CV.out (w1.alloc (.cells #[.slice ao n cap, .int .i64 p1, .bool false] 56)) (Low.alloc LW.out _)
        clear CV CV0
        go_wp2_with fail
        refine bodyPost_ret (v := .tuple #[.agg #[.slice ao n cap, .int .i64 ((p1 : Int) + (m : Int)), .bool false], .string s]) (by simp [results, Try.results51, go_sem, hsz, d0, d1, d2]; try rfl) rfl ?_
        exact ⟨fin.out, Low.alloc (((LW.out.kept (kept_setCell _ _ _ _) fun g hg => by simp at hg; omega).kept (kept_setCell _ _ _ _) fun g hg => by simp at hg; omega).kept (kept_setCell _ _ _ _) fun g hg => by simp at hg; omega) _⟩
    · have z9 : (n : Int) - (p1 : Int) < (m : Int) := by omega
      have zs : wrap64 ((n : Int) - (p1 : Int)) = (n : Int) - (p1 : Int) := by unfold wrap64; omega
      go_wp2_with fail
      refine bodyPost_ret (v := .tuple #[.agg #[.slice ao n cap, .int .i64 p1, .bool true], .string ⟨#[]⟩]) (by simp [results, Try.results51, go_sem, hsz, d0, d1, d2]; try rfl) rfl ?_
      obtain ⟨b1, b2, b3⟩ := (HBAD.out (.inr (by rw [HLL.out, ← HM.out]; clear zs; omega))).out
      rw [b1, b2, b3]
      refine ⟨⟨p1, ⟨#[]⟩, ⟨G1.out, rfl⟩, rfl, rfl⟩, ?_⟩
      exact Low.alloc (((LW.out.kept (kept_setCell _ _ _ _) fun g hg => by simp at hg; omega).kept (kept_setCell _ _ _ _) fun g hg => by simp at hg; omega).kept (kept_setCell _ _ _ _) fun g hg => by simp at hg; omega) _
end Go.Proofs.Ytbhlgajdoegboaa
