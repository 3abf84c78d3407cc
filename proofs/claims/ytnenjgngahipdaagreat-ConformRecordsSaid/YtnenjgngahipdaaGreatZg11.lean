/- Values as they must be, all the way down: a record's names are each there once, as many as items; what a record has of a name. No condition. conform.all at rows of string: is something so of each one? Condition: what the closure answers of each. Boxes of the call's own; what a call leaves that turns one block. No condition. schema.Type, Action, Above, ActionIn. Condition: not too many names. types.Attr, schema.Type, schema.Action: what they find, with its rows. No condition. conform.all at rows of chamberlain/api.Attr: is something so of each one? Condition: what the closure answers of each. -/
import Derived.Test.YtnenjgngahipdaaGreatZg10
import Derived.Test.YtnenjgngahipdaaGreatZg02
import Derived.Deep.DeepCutAuto
import Derived.Test.YtnenjgngahipdaaGreatZg06
import Derived.Test.YtnenjgngahipdaaGreatZg01
import Derived.Laws.OwnMore
import Derived.Test.YtnenjgngahipdaaGreatZg03
set_option linter.unusedVariables false
set_option linter.unusedSimpArgs false
set_option linter.unnecessarySimpa false
namespace Go.Proofs.YtnenjgngahipdaaGreat
open Go.RowKit
set_option linter.unusedVariables false
/-- In each record each name once, as many as items. -/
inductive Okv : V → Prop
  | mk {v : V} (h : v.h.k = 6 → v.ns.length = v.l.length ∧ v.ns.Nodup) (hl : ∀ x ∈ v.l, Okv x) : Okv v
theorem Okv.rec' {v : V} (h : Okv v) (hk : v.h.k = 6) : v.ns.length = v.l.length ∧ v.ns.Nodup := by cases h with | mk h _ => exact h hk
theorem Okv.item {v x : V} (h : Okv v) (hx : x ∈ v.l) : Okv x := by cases h with | mk _ h => exact h x hx
theorem okv_none {h : Hd} (hk : h.k ≠ 6) {ns : List ByteArray} : Okv (.mk h [] ns) := .mk (fun h6 => absurd h6 hk) (fun x hx => by simp [V.l] at hx)
/-! ### What a record has -/
theorem getI_any {v : V} (hk : v.h.k = 6) (hl : v.ns.length = v.l.length) (s : ByteArray) : decide (0 ≤ getI v s) = v.ns.any fun x => decide (x = s) := by
  by_cases hm : s ∈ v.ns
  · have ha : (v.ns.any fun x => decide (x = s)) = true := List.any_eq_true.2 ⟨s, hm, by simp⟩
    rw [ha]
    obtain ⟨i, hi, he, hne⟩ : ∃ i, ∃ hi : i < v.ns.length, v.ns[i] = s ∧ ∀ j (hj : j < v.ns.length), j < i → v.ns[j] ≠ s := by
      have h0 : v.ns.findIdx (fun x => decide (x = s)) < v.ns.length := List.findIdx_lt_length_of_exists ⟨s, hm, by simp⟩
      refine ⟨_, h0, by simpa using List.findIdx_getElem (w := h0), fun j hj hji => ?_⟩
      have := List.not_of_lt_findIdx hji
      simpa using this
    have h1 := idx_hit hi he hne
    unfold getI
    rw [if_pos hk, h1, if_neg (by omega)]
    simp
  · have ha : (v.ns.any fun x => decide (x = s)) = false := by
      rw [List.any_eq_false]; intro x hx; simp; rintro rfl; exact hm hx
    rw [ha]
    have h1 := idx_miss (ns := v.ns) (x := s) fun j hj e => hm (e ▸ List.getElem_mem hj)
    unfold getI
    rw [if_pos hk, h1, if_pos (.inl (by omega))]
    rfl
theorem nodup_at {α : Type} {l : List α} (h : l.Nodup) {i j : Nat} (hi : i < l.length) (hj : j < l.length) (hij : j < i) : l[j] ≠ l[i] := by
  have := List.pairwise_iff_getElem.1 h j i hj hi hij
  exact this
theorem getV_at {v : V} (hk : v.h.k = 6) (ho : v.ns.length = v.l.length ∧ v.ns.Nodup) {i : Nat} (hi : i < v.ns.length) : getI v v.ns[i] = (i : Int) ∧ getV v v.ns[i] = v.l[i]'(ho.1 ▸ hi) := by
  have h1 := idx_hit (ns := v.ns) (x := v.ns[i]) hi rfl fun j hj hji => nodup_at ho.2 hi hj hji
  have h2 : getI v v.ns[i] = (i : Int) := by
    unfold getI
    rw [if_pos hk, h1, if_neg (by have := ho.1; omega)]
  refine ⟨h2, ?_⟩
  unfold getV
  rw [h2, if_pos (by omega)]
  have : i < v.l.length := ho.1 ▸ hi
  simp [List.getD, List.getElem?_eq_getElem this]
/-- Is a name an attribute's, and what the record has there of its type? -/
def nameIs (n : Nat) (v : V) (ats : List At) (s : ByteArray) : Bool := match gtAt ats s with | none => false | some x => isV n (getV v s) (aty x)
def attrIs (v : V) (a : At) : Bool := decide (0 ≤ getI v (an a)) || ao a
theorem isV_rec9 {n : Nat} {v : V} {t : T} (hk : t.k = 8) (hv : v.h.k = 6) (ho : Okv v) : isV (n + 1) v t = (v.ns.all (nameIs n v t.ats) && t.ats.all (attrIs v)) := by
  rw [isV_rec hk hv]
  have h0 := ho.rec' hv
  congr 1
  · rw [Bool.eq_iff_iff, List.all_eq_true, List.all_eq_true]
    constructor
    · intro h s hs
      obtain ⟨i, hi, rfl⟩ := List.getElem_of_mem hs
      have hz : i < (v.ns.zip v.l).length := by rw [List.length_zip, ← h0.1]; omega
      have := h _ (List.getElem_mem hz)
      rw [List.getElem_zip] at this
      unfold nameIs
      rw [(getV_at hv h0 hi).2]
      exact this
    · intro h p hp
      obtain ⟨i, hi, rfl⟩ := List.getElem_of_mem hp
      have hi2 : i < v.ns.length := by rw [List.length_zip] at hi; omega
      have := h _ (List.getElem_mem hi2)
      unfold nameIs at this
      rw [(getV_at hv h0 hi2).2] at this
      rw [List.getElem_zip]
      exact this
  · congr 1
    funext a
    unfold attrIs
    rw [getI_any hv h0.1, Bool.or_comm]
/-- Of an item, found by a name. -/
theorem Okv.get {v : V} (h : Okv v) (s : ByteArray) : Okv (getV v s) := by
  have h0 : Okv V0 := okv_none (by decide)
  unfold getV
  by_cases hg : 0 ≤ getI v s
  · rw [if_pos hg]
    by_cases hl : (getI v s).toNat < v.l.length
    · have : v.l.getD (getI v s).toNat V0 = v.l[(getI v s).toNat] := by simp [List.getD, List.getElem?_eq_getElem hl]
      rw [this]
      exact h.item (List.getElem_mem hl)
    · have : v.l.getD (getI v s).toNat V0 = V0 := by simp [List.getD, List.getElem?_eq_none (Nat.not_lt.1 hl)]
      rw [this]; exact h0
  · rw [if_neg hg]; exact h0
end Go.Proofs.YtnenjgngahipdaaGreat
namespace Go.Proofs.YtnenjgngahipdaaGreat
open Go.RowKit
set_option linter.unusedVariables false
theorem na_at9 {w : World} {l : List ByteArray} {p : Option Addr} {m c : Nat} (h : Na w l (.slice p m c)) {j : Nat} (hj : j < l.length) : ∃ b o, p = some ⟨b, o, none⟩ ∧ w.cell? ⟨b, o + j, none⟩ = some (.string l[j]) := by
  obtain ⟨q, cap, hq, -, -, hr⟩ := h
  simp only [Value.slice.injEq] at hq
  obtain ⟨rfl, -, -⟩ := hq
  rcases hr with h0 | ⟨b, o, rfl, -, hc⟩
  · rw [h0] at hj; exact absurd hj (Nat.not_lt_zero _)
  · exact ⟨b, o, rfl, hc j hj⟩
set_option maxHeartbeats 1600000 in
theorem negS_c (x : ByteArray) (q : Bool) (x0 x1 : Nat) (y : Nat)  (w : World) (hb : w.cell? ⟨y, 0, none⟩ = some (.func (.func 98) #[] #[.pointer (some ⟨x0, 0, none⟩), .pointer (some ⟨x1, 0, none⟩)]))
    (hc : ∀ W, Low w W → Calls Tryz.prog 98 #[.string x, .pointer (some ⟨x0, 0, none⟩), .pointer (some ⟨x1, 0, none⟩)] W fun r W' => r = .returned (.bool q) ∧ Low W W') :
    Calls Tryz.prog 126 #[.string x, .pointer (some ⟨y, 0, none⟩)] w fun r w' => r = .returned (.bool (!q)) ∧ Low w w' := by
  have hb2 := fun X => (low_new (Low.refl w) X).keep hb
  have HC := Lib.hid hc
  clear hc
  go_enter Tryz.func126, Tryz.ntmps126
  go_wp2_with fail
  refine (HC.out _ (Low.refl w)).mono ?_
  rintro e w' ⟨rfl, l1⟩
  have G2 := Lib.hid (l1)
  clear l1 HC
  go_wp2_with fail
  go_ret
  exact ⟨rfl, G2.out⟩
set_option maxHeartbeats 1600000 in
theorem idxS9_c (l : List ByteArray) (f : ByteArray → Bool) (y : Nat) (w : World) (v : Value) (h : Na w l v)
    (hc : ∀ j (hj : j < l.length) (W : World) , Low w W → l[j].size ≤ 9223372036854775807 → Calls Tryz.prog 126 #[.string l[j], .pointer (some ⟨y, 0, none⟩)] W fun r W' => r = .returned (.bool (f l[j])) ∧ Low W W') :
    Calls Tryz.prog 153 #[v, .func (.func 126) #[] #[.pointer (some ⟨y, 0, none⟩)]] w fun e w' => e = .returned (.int .i64 (firstI l f)) ∧ Low w w' := by
  obtain ⟨p, c, rfl, z1, zs, -⟩ := id h
  have HA := Lib.hid h
  have HC := Lib.hid hc
  obtain ⟨r, hr⟩ : ∃ r, r = firstI l f := ⟨_, rfl⟩
  have CS := Lib.hid (show ∀ i (hi : i < l.length), f l[i] = true → (∀ j (hj : j < l.length), j < i → f l[j] = false) → (i : Int) = r from fun i hi h1 h2 => by rw [hr, firstI_some hi h1 h2])
  have CN := Lib.hid (show (∀ j (hj : j < l.length), f l[j] = false) → -1 = r from fun h2 => by rw [hr, firstI_none h2])
  rw [← hr]
  clear h hr hc
  have HZ := Lib.hid zs
  clear zs
  go_enter Tryz.func153, Tryz.ntmps153
  go_wp2_with fail
  go_loopg [5, 8] l.length (fun gk vx vi wr => ∃ i : Nat, vi = .int .i64 (i : Int) ∧ i ≤ l.length ∧ l.length - i ≤ gk ∧ Hid (Low w wr) ∧ Hid (∀ j (hj : j < l.length), j < i → f l[j] = false))
  case atStart => exact ⟨0, rfl, Nat.zero_le _, Nat.le_refl _, Lib.hid (Low.refl _), Lib.hid fun j hj h => absurd h (Nat.not_lt_zero _)⟩
  case round =>
    obtain ⟨i, rfl, hi, hg, G, K⟩ := hrel
    by_cases hlt : i < l.length
    · have zl : (i : Int) < (l.length : Int) := by omega
      obtain ⟨b, o, rfl, e0⟩ := na_at9 (NamesAt.low HA.out G.out) hlt
      have hrx := HZ.out _ (List.getElem_mem hlt)
      have HF := Lib.hid (HC.out i hlt wr  G.out hrx)
      obtain ⟨q, hq⟩ : ∃ q, q = f l[i] := ⟨_, rfl⟩
      rw [← hq] at HF
      have HQ := Lib.hid hq
      clear hq hrx
      go_wp2_with fail
      refine HF.out.mono ?_
      rintro e w' ⟨rfl, l1⟩
      have G2 := Lib.hid (G.out.trans l1)
      clear l1 HF
      cases q with
      | true =>
        have HQ2 := Lib.hid (CS.out i hlt HQ.out.symm K.out)
        go_wp2_with fail
        go_ret
        exact ⟨retI HQ2.out, G2.out⟩
      | false =>
        go_wp2_with fail
        go_roundg (l.length - (i + 1))
        case measure => omega
        case rel =>
          refine ⟨i + 1, by go_num, by omega, by omega, G2, Lib.hid fun j hj hji => ?_⟩
          rcases Nat.lt_succ_iff_lt_or_eq.1 hji with h | rfl
          · exact K.out j hj h
          · exact HQ.out.symm
    · have zl : ¬ (i : Int) < (l.length : Int) := by omega
      have HQ2 := Lib.hid (CN.out fun j hj => K.out j hj (by omega))
      go_wp2_with fail
      go_ret
      exact ⟨retI HQ2.out, G.out⟩
set_option maxHeartbeats 1600000 in
theorem conS9_c (l : List ByteArray) (f : ByteArray → Bool) (y : Nat) (w : World) (v : Value) (h : Na w l v)
    (hc : ∀ j (hj : j < l.length) (W : World) , Low w W → l[j].size ≤ 9223372036854775807 → Calls Tryz.prog 126 #[.string l[j], .pointer (some ⟨y, 0, none⟩)] W fun r W' => r = .returned (.bool (f l[j])) ∧ Low W W') :
    Calls Tryz.prog 125 #[v, .func (.func 126) #[] #[.pointer (some ⟨y, 0, none⟩)]] w fun e w' => e = .returned (.bool (l.any f)) ∧ Low w w' := by
  have HI := Lib.hid (idxS9_c l f y w v h hc)
  obtain ⟨p, c, rfl, z1, zs, -⟩ := id h
  obtain ⟨r, hr⟩ : ∃ r, r = firstI l f := ⟨_, rfl⟩
  rw [← hr] at HI
  have HR := Lib.hid (show decide (0 ≤ r) = l.any f by rw [hr]; exact firstI_any l f)
  clear h hc hr
  go_enter Tryz.func125, Tryz.ntmps125
  go_wp2_with fail
  refine HI.out.mono ?_
  rintro e w' ⟨rfl, l1⟩
  go_wp2_with fail
  go_ret
  exact ⟨retB HR.out, l1⟩
set_option maxHeartbeats 1600000 in
theorem allS_c (l : List ByteArray) (f : ByteArray → Bool) (x0 x1 : Nat) (w : World) (v : Value) (h : Na w l v)
    (hc : ∀ j (hj : j < l.length) (W : World) , Low w W → l[j].size ≤ 9223372036854775807 → Calls Tryz.prog 98 #[.string l[j], .pointer (some ⟨x0, 0, none⟩), .pointer (some ⟨x1, 0, none⟩)] W fun r W' => r = .returned (.bool (f l[j])) ∧ Low W W') :
    Calls Tryz.prog 97 #[v, .func (.func 98) #[] #[.pointer (some ⟨x0, 0, none⟩), .pointer (some ⟨x1, 0, none⟩)]] w fun e w' => e = .returned (.bool (l.all f)) ∧ Low w w' := by
  obtain ⟨U, hU⟩ : ∃ U, U = w.alloc (.cells #[.func (.func 98) #[] #[.pointer (some ⟨x0, 0, none⟩), .pointer (some ⟨x1, 0, none⟩)]] 78) := ⟨_, rfl⟩
  have LU := Lib.hid (show Low w U by rw [hU]; exact low_new (Low.refl w) _)
  have hb : U.cell? ⟨w.heap.size, 0, none⟩ = some (.func (.func 98) #[] #[.pointer (some ⟨x0, 0, none⟩), .pointer (some ⟨x1, 0, none⟩)]) := by rw [hU, World.cell?_alloc_mark]; rfl
  have HI := Lib.hid (conS9_c l (fun x => !f x) w.heap.size U v (NamesAt.low h LU.out) fun j hj W  hl hx => negS_c l[j] (f l[j]) x0 x1 w.heap.size  W (hl.keep hb) fun W2 hl2 => hc j hj W2  ((LU.out.trans hl).trans hl2) (hx))
  have HN := Lib.hid (show (!(l.any fun x => !f x)) = l.all f from not_any9 l f)
  obtain ⟨p, c, rfl, z1, zs, -⟩ := id h
  have HU := Lib.hid hU
  clear h hc hU hb
  obtain ⟨q, hq⟩ : ∃ q, q = l.any fun x => !f x := ⟨_, rfl⟩
  rw [← hq] at HI HN
  clear hq
  go_enter Tryz.func97, Tryz.ntmps97
  go_upto_region 1 with fail
  rw [← HU.out]
  go_wp2_with fail
  refine HI.out.mono ?_
  rintro e w' ⟨rfl, l1⟩
  have G2 := Lib.hid (LU.out.trans l1)
  clear l1
  go_wp2_with fail
  go_ret
  exact ⟨retB HN.out, G2.out⟩
end Go.Proofs.YtnenjgngahipdaaGreat
namespace Go.Proofs.YtnenjgngahipdaaGreat
open Go.RowKit
/-- All but one block is as it was. -/
def KeptBut (w w' : World) (r : Option Nat) : Prop := w'.os = w.os ∧ w'.output = w.output ∧ w.heap.size ≤ w'.heap.size ∧ ∀ b, b < w.heap.size → some b ≠ r → w'.heap[b]? = w.heap[b]?
theorem KeptBut.refl (w : World) (r : Option Nat) : KeptBut w w r := ⟨rfl, rfl, Nat.le_refl _, fun _ _ _ => rfl⟩
theorem KeptBut.trans {a b c : World} {r : Option Nat} (h : KeptBut a b r) (k : KeptBut b c r) : KeptBut a c r :=
  ⟨k.1.trans h.1, k.2.1.trans h.2.1, Nat.le_trans h.2.2.1 k.2.2.1, fun i hi hr => (k.2.2.2 i (Nat.lt_of_lt_of_le hi h.2.2.1) hr).trans (h.2.2.2 i hi hr)⟩
theorem KeptBut.of_low {a b : World} {r : Option Nat} (h : Low a b) : KeptBut a b r := ⟨h.1, h.2.1, h.2.2.1, fun i hi _ => h.2.2.2 i hi⟩
theorem Low.kept {a b c : World} {r : Option Nat} (h : Low a b) (k : KeptBut b c r) (hr : ∀ g, r = some g → a.heap.size ≤ g) : Low a c :=
  ⟨k.1.trans h.1, k.2.1.trans h.2.1, Nat.le_trans h.2.2.1 k.2.2.1, fun i hi => (k.2.2.2 i (Nat.lt_of_lt_of_le hi h.2.2.1) fun e => by have := hr i e.symm; omega).trans (h.2.2.2 i hi)⟩
theorem kept_setCell (w : World) (g o : Nat) (v : Value) : KeptBut w (w.setCell ⟨g, o, none⟩ v) (some g) :=
  ⟨rfl, rfl, by simp, fun b _ hb => Below.heap_setCell w ⟨g, o, none⟩ v b fun e => hb (by rw [e])⟩
theorem low_all {w a b : World} {n : Nat} (h : Low w a) (hn : w.heap.size ≤ n) (k : KeptBut a b (some n)) : Low w b := h.kept k fun g hg => by simp at hg; omega
/-- A box of the call's own: its cells, and that they may be written. -/
structure BoxAt (w : World) (n : Nat) (cs : List Value) : Prop where
  cells : CellsAt w n 0 cs
  open' : ∀ o, w.frozen? ⟨n, o, none⟩ = false
  lt : n < w.heap.size
theorem BoxAt.kept {w w' : World} {n : Nat} {cs : List Value} {x : Option Nat} (h : BoxAt w n cs) (k : KeptBut w w' x) (hx : some n ≠ x) : BoxAt w' n cs where
  cells := fun j v hj => by
    have := h.cells j v hj
    rw [World.cell?_of_block (w := w) (w' := w') (a := ⟨n, 0 + j, none⟩) (k.2.2.2 n h.lt hx)]
    exact this
  open' := fun o => by
    rw [World.frozen?_of_block (w := w) (w' := w') (a := ⟨n, o, none⟩) (k.2.2.2 n h.lt hx)]
    exact h.open' o
  lt := Nat.lt_of_lt_of_le h.lt k.2.2.1
theorem BoxAt.low {w w' : World} {n : Nat} {cs : List Value} (h : BoxAt w n cs) (k : Low w w') : BoxAt w' n cs := h.kept (KeptBut.of_low (r := none) k) (by simp)
theorem BoxAt.at {w : World} {n : Nat} {cs : List Value} (h : BoxAt w n cs) (j : Nat) (v : Value) (hj : cs[j]? = some v) : w.cell? ⟨n, j, none⟩ = some v := by
  have := h.cells j v hj
  rwa [Nat.zero_add] at this
theorem BoxAt.made {w W : World} {n : Nat} {cs : List Value} {C : Array Value} {t : TypeId} (h : W = w.alloc (.cells C t)) (hn : w.heap.size = n) (hC : C = cs.toArray) : BoxAt W n cs := by
  subst hn
  subst h
  refine ⟨fun j v hv => ?_, fun o => ?_, by simp⟩
  · rw [Nat.zero_add, World.cell?_alloc_mark, hC]; simpa using hv
  · simp [go_sem]
theorem BoxAt.set {w : World} {n : Nat} {cs : List Value} (h : BoxAt w n cs) (j : Nat) (v : Value) : BoxAt (w.setCell ⟨n, j, none⟩ v) n (cs.set j v) where
  cells := fun k u hk => by
    rw [Nat.zero_add]
    have hlt : k < cs.length := by have := (List.getElem?_eq_some_iff.1 hk).1; rwa [List.length_set] at this
    by_cases e : k = j
    · subst e
      rw [List.getElem?_set_self hlt] at hk
      simp at hk
      subst hk
      have h0 := h.at k _ (List.getElem?_eq_getElem hlt)
      exact World.cell?_setCell_same' _ _ _ (by rw [h0]; rfl)
    · rw [List.getElem?_set_ne (Ne.symm e)] at hk
      rw [World.cell?_setCell_other _ _ _ _ (by intro h; injection h with _ h; exact e h.symm)]
      exact h.at k u hk
  open' := fun o => by
    rw [World.frozen?_setCell]
    exact h.open' o
  lt := by
    have := h.lt
    have hs : (w.setCell ⟨n, j, none⟩ v).heap.size = w.heap.size := by simp
    rw [hs]; exact this
theorem BoxAt.at4 {w : World} {n : Nat} {c0 c1 c2 c3 : Value} (h : BoxAt w n [c0, c1, c2, c3]) :
    w.cell? ⟨n, 0, none⟩ = some c0 ∧ w.cell? ⟨n, 1, none⟩ = some c1 ∧ w.cell? ⟨n, 2, none⟩ = some c2 ∧ w.cell? ⟨n, 3, none⟩ = some c3 := ⟨h.at 0 _ rfl, h.at 1 _ rfl, h.at 2 _ rfl, h.at 3 _ rfl⟩
theorem BoxAt.op4 {w : World} {n : Nat} {cs : List Value} (h : BoxAt w n cs) :
    w.frozen? ⟨n, 0, none⟩ = false ∧ w.frozen? ⟨n, 1, none⟩ = false ∧ w.frozen? ⟨n, 2, none⟩ = false ∧ w.frozen? ⟨n, 3, none⟩ = false := ⟨h.open' 0, h.open' 1, h.open' 2, h.open' 3⟩
theorem kept4 (w : World) (n : Nat) (a b c d : Nat) (c0 c1 c2 c3 : Value) : KeptBut w ((((w.setCell ⟨n, a, none⟩ c0).setCell ⟨n, b, none⟩ c1).setCell ⟨n, c, none⟩ c2).setCell ⟨n, d, none⟩ c3) (some n) :=
  (kept_setCell _ _ _ _).trans ((kept_setCell _ _ _ _).trans ((kept_setCell _ _ _ _).trans (kept_setCell _ _ _ _)))
end Go.Proofs.YtnenjgngahipdaaGreat
namespace Go.Proofs.YtnenjgngahipdaaGreat
open Go.RowKit
set_option linter.unusedVariables false
def eqN (s : ByteArray) (x : Nm) : Bool := decide (x.s = s)
theorem typef_c (x : Et) (s : ByteArray) (bx : Nat) (w : World) (pi pa : Option Addr) (ci ca : Nat) (hb : w.cell? ⟨bx, 0, none⟩ = some (.string s)) : Calls Tryz.prog 115 #[.agg #[.string x.nm.s, .slice pi x.ins.length ci, .slice pa x.ats.length ca], .pointer (some ⟨bx, 0, none⟩)] w fun e w' => e = .returned (.bool (eqN s x.nm)) ∧ Low w w' := by
  have hb2 := fun X => (low_new (Low.refl w) X).keep hb
  unfold eqN
  by_cases he : x.nm.s = s
  · have HQ := Lib.hid (show true = decide (x.nm.s = s) from (decide_eq_true he).symm)
    rw [← he] at hb2
    clear hb he
    go_enter Tryz.func115, Tryz.ntmps115
    go_wp2_with fail
    go_ret
    exact ⟨retB HQ.out, low_new (Low.refl w) _⟩
  · have HQ := Lib.hid (show false = decide (x.nm.s = s) from (decide_eq_false he).symm)
    have he2 : ¬ x.nm.s.toList = s.toList := fun h => he (tl_inj.1 h)
    have he3 : (x.nm.s.toList == s.toList) = false := by simpa using he2
    clear hb he
    go_enter Tryz.func115, Tryz.ntmps115
    go_wp2_with fail
    go_ret
    exact ⟨retB HQ.out, low_new (Low.refl w) _⟩
theorem actf_c (x : Ac) (s : ByteArray) (bx : Nat) (w : World) (pi pp pr pa : Option Addr) (ci cp cr ca : Nat) (hb : w.cell? ⟨bx, 0, none⟩ = some (.string s)) : Calls Tryz.prog 86 #[.agg #[.string x.nm.s, .slice pi x.ins.length ci, .slice pp x.ps.length cp, .slice pr x.rs.length cr, .slice pa x.ats.length ca], .pointer (some ⟨bx, 0, none⟩)] w fun e w' => e = .returned (.bool (eqN s x.nm)) ∧ Low w w' := by
  have hb2 := fun X => (low_new (Low.refl w) X).keep hb
  unfold eqN
  by_cases he : x.nm.s = s
  · have HQ := Lib.hid (show true = decide (x.nm.s = s) from (decide_eq_true he).symm)
    rw [← he] at hb2
    clear hb he
    go_enter Tryz.func86, Tryz.ntmps86
    go_wp2_with fail
    go_ret
    exact ⟨retB HQ.out, low_new (Low.refl w) _⟩
  · have HQ := Lib.hid (show false = decide (x.nm.s = s) from (decide_eq_false he).symm)
    have he2 : ¬ x.nm.s.toList = s.toList := fun h => he (tl_inj.1 h)
    have he3 : (x.nm.s.toList == s.toList) = false := by simpa using he2
    clear hb he
    go_enter Tryz.func86, Tryz.ntmps86
    go_wp2_with fail
    go_ret
    exact ⟨retB HQ.out, low_new (Low.refl w) _⟩
end Go.Proofs.YtnenjgngahipdaaGreat
namespace Go.Proofs.YtnenjgngahipdaaGreat
open Go.RowKit
set_option linter.unusedVariables false
set_option maxHeartbeats 1600000 in
theorem attrf9_c (x : At) (s : ByteArray) (bx : Nat) (w : World) (pe pv : Option Addr) (ce cv : Nat) (hb : w.cell? ⟨bx, 0, none⟩ = some (.string s)) : Calls Tryz.prog 128 #[.agg #[.string (an x), .int .i64 (aty x).k, .string (aty x).n, .slice pe (aty x).l.length ce, .slice pv (aty x).ats.length cv, .bool (ao x)], .pointer (some ⟨bx, 0, none⟩)] w fun e w' => e = .returned (.bool (decide (an x = s))) ∧ Low w w' := by
  have hb2 := fun X => (low_new (Low.refl w) X).keep hb
  by_cases he : an x = s
  · have HQ := Lib.hid (show true = decide (an x = s) from (decide_eq_true he).symm)
    rw [← he] at hb2
    clear hb he
    go_enter Tryz.func128, Tryz.ntmps128
    go_wp2_with fail
    go_ret
    exact ⟨retB HQ.out, low_new (Low.refl w) _⟩
  · have HQ := Lib.hid (show false = decide (an x = s) from (decide_eq_false he).symm)
    have he2 : ¬ (an x).toList = s.toList := fun h => he (tl_inj.1 h)
    have he3 : ((an x).toList == s.toList) = false := by simpa using he2
    clear hb he
    go_enter Tryz.func128, Tryz.ntmps128
    go_wp2_with fail
    go_ret
    exact ⟨retB HQ.out, low_new (Low.refl w) _⟩
set_option maxHeartbeats 1600000 in
theorem idxAt9_c {A : Nat → Prop} {n : Nat} (l : List At) (s : ByteArray) (bx : Nat) (w : World) (v : Value) (h : RAs A w n l v) (hb : w.cell? ⟨bx, 0, none⟩ = some (.string s)) :
    Calls Tryz.prog 127 #[v, .func (.func 128) #[] #[.pointer (some ⟨bx, 0, none⟩)]] w fun e w' => e = .returned (.int .i64 (atI l s)) ∧ Low w w' := by
  obtain ⟨p, c, rfl, z1, z2⟩ := RowR.sl h
  have HA := Lib.hid h
  have HB := Lib.hid hb
  obtain ⟨r, hr⟩ : ∃ r, r = atI l s := ⟨_, rfl⟩
  have CS := Lib.hid (show ∀ i (hi : i < l.length), an l[i] = s → (∀ j (hj : j < l.length), j < i → an l[j] ≠ s) → (i : Int) = r from fun i hi h1 h2 => by rw [hr, atI_some hi h1 h2])
  have CN := Lib.hid (show (∀ j (hj : j < l.length), an l[j] ≠ s) → -1 = r from fun h2 => by rw [hr, atI_none h2])
  rw [← hr]
  clear h hr hb
  go_enter Tryz.func127, Tryz.ntmps127
  go_wp2_with fail
  go_loopg [5, 8] l.length (fun gk vx vi wr => ∃ i : Nat, vi = .int .i64 (i : Int) ∧ i ≤ l.length ∧ l.length - i ≤ gk ∧ Hid (Low w wr) ∧ Hid (∀ j (hj : j < l.length), j < i → an l[j] ≠ s))
  case atStart => exact ⟨0, rfl, Nat.zero_le _, Nat.le_refl _, Lib.hid (Low.refl _), Lib.hid fun j hj h => absurd h (Nat.not_lt_zero _)⟩
  case round =>
    obtain ⟨i, rfl, hi, hg, G, K⟩ := hrel
    by_cases hlt : i < l.length
    · have zl : (i : Int) < (l.length : Int) := by omega
      obtain ⟨b, o, qe, de, qv, dv, rfl, -, e0, e1, e2, e3, e4, e5, es, hx⟩ := RAs.at (RAs.low HA.out G.out) hlt
      have HF := Lib.hid (attrf9_c l[i] s bx wr qe qv de dv (G.out.keep HB.out))
      obtain ⟨q, hq⟩ : ∃ q, q = decide (an l[i] = s) := ⟨_, rfl⟩
      rw [← hq] at HF
      have HQ := Lib.hid hq
      clear hx hq
      go_wp2_with fail
      refine HF.out.mono ?_
      rintro e w' ⟨rfl, l1⟩
      have G2 := Lib.hid (G.out.trans l1)
      clear l1 HF
      cases q with
      | true =>
        have HQ2 := Lib.hid (CS.out i hlt (of_decide_eq_true HQ.out.symm) K.out)
        go_wp2_with fail
        go_ret
        exact ⟨retI HQ2.out, G2.out⟩
      | false =>
        go_wp2_with fail
        go_roundg (l.length - (i + 1))
        case measure => omega
        case rel =>
          refine ⟨i + 1, by go_num, by omega, by omega, G2, Lib.hid fun j hj hji => ?_⟩
          rcases Nat.lt_succ_iff_lt_or_eq.1 hji with h | rfl
          · exact K.out j hj h
          · exact of_decide_eq_false HQ.out.symm
    · have zl : ¬ (i : Int) < (l.length : Int) := by omega
      have HQ2 := Lib.hid (CN.out fun j hj => K.out j hj (by omega))
      go_wp2_with fail
      go_ret
      exact ⟨retI HQ2.out, G.out⟩
/-- What Attr tells. -/
def AttrQ (n : Nat) (l : List At) (s : ByteArray) (w : World) (e : Ending) (w' : World) : Prop :=
  ∃ (x : At) (pe : Option Addr) (ce : Nat) (pv : Option Addr) (cv : Nat) (q : Bool), e = .returned (.tuple #[.agg #[.string (an x), .int .i64 (aty x).k, .string (aty x).n, .slice pe (aty x).l.length ce, .slice pv (aty x).ats.length cv, .bool (ao x)], .bool q]) ∧ Low w w' ∧
    ((q = false ∧ atI l s = -1 ∧ an x = ⟨#[]⟩) ∨ (q = true ∧ ∃ i, ∃ hi : i < l.length, atI l s = (i : Int) ∧ x = l[i] ∧ an l[i] = s ∧ RT (fun _ => True) w' n (aty x) (.slice pe (aty x).l.length ce) (.slice pv (aty x).ats.length cv)))
def noA9 : At := (⟨#[]⟩, noT, false)
set_option maxHeartbeats 3200000 in
theorem attr9_c {n : Nat} (l : List At) (s : ByteArray) (w : World) (v : Value) (h : RAs (fun _ => True) w n l v) : Calls Tryz.prog 99 #[v, .string s] w (AttrQ n l s w) := by
  obtain ⟨p, c, rfl, z1, z2⟩ := RowR.sl h
  obtain ⟨U, hU⟩ : ∃ U, U = (w.alloc (.cells #[.string s] 9)).alloc (.cells #[.string ⟨#[]⟩, .int .i64 0, .string ⟨#[]⟩, .slice none 0 0, .slice none 0 0, .bool false] 63) := ⟨_, rfl⟩
  have LU := Lib.hid (show Low w U by rw [hU]; exact low_new (low_new (Low.refl w) _) _)
  have ZU := Lib.hid (show BoxAt U (w.heap.size + 1) [.string ⟨#[]⟩, .int .i64 0, .string ⟨#[]⟩, .slice none 0 0, .slice none 0 0, .bool false] from BoxAt.made hU (by simp) rfl)
  have hb : U.cell? ⟨w.heap.size, 0, none⟩ = some (.string s) := by
    rw [hU]; exact (low_new (Low.refl _) _).keep (by rw [World.cell?_alloc_mark]; rfl)
  have HI := Lib.hid (idxAt9_c l s w.heap.size U _ (RAs.low h LU.out) hb)
  have HA := Lib.hid h
  have HU := Lib.hid hU
  clear h hU hb
  go_enter Tryz.func99, Tryz.ntmps99
  go_upto_region 1 with fail
  rw [← HU.out]
  go_wp2_with fail
  refine HI.out.mono ?_
  rintro e w1 ⟨rfl, l1⟩
  have L1 := Lib.hid l1
  have LW := Lib.hid (LU.out.trans l1)
  have Z1 := Lib.hid (ZU.out.low l1)
  clear l1 HI ZU HU
  have g0 := Z1.out.at 0 _ rfl
  have g1 := Z1.out.at 1 _ rfl
  have g2 := Z1.out.at 2 _ rfl
  have g3 := Z1.out.at 3 _ rfl
  have g4 := Z1.out.at 4 _ rfl
  have g5 := Z1.out.at 5 _ rfl
  have o0 := Z1.out.open' 0
  have o1 := Z1.out.open' 1
  have o2 := Z1.out.open' 2
  have o3 := Z1.out.open' 3
  have o4 := Z1.out.open' 4
  have o5 := Z1.out.open' 5
  have K6 := fun (c0 c1 c2 c3 c4 c5 : Value) => (kept4 w1 (w.heap.size + 1) 0 1 2 3 c0 c1 c2 c3).trans ((kept_setCell _ (w.heap.size + 1) 4 c4).trans (kept_setCell _ (w.heap.size + 1) 5 c5))
  have HK := Lib.hid K6
  clear K6
  rcases atI_cases l s with ⟨i, hi, ha, hs⟩ | ha
  · have HAI := Lib.hid ha
    have HSI := Lib.hid hs
    obtain ⟨b, o, qe, de, qv, dv, rfl, -, f0, f1, f2, f3, f4, f5, -, hrx⟩ := RAs.at HA.out hi
    have e0 := LW.out.keep f0
    have e1 := LW.out.keep f1
    have e2 := LW.out.keep f2
    have e3 := LW.out.keep f3
    have e4 := LW.out.keep f4
    have e5 := LW.out.keep f5
    have HX := Lib.hid hrx
    clear hrx f0 f1 f2 f3 f4 f5
    rw [ha]
    have zl : (i : Int) < (l.length : Int) := by omega
    have zn : ¬ (i : Int) < 0 := by omega
    clear ha hs
    go_wp2_with fail
    refine bodyPost_ret (v := .tuple #[.agg #[.string (an l[i]), .int .i64 (aty l[i]).k, .string (aty l[i]).n, .slice qe (aty l[i]).l.length de, .slice qv (aty l[i]).ats.length dv, .bool (ao l[i])], .bool true]) (by simp [results, Tryz.results99, go_sem, World.cell?_setCell_same', g0, g1, g2, g3, g4, g5]; try rfl) rfl ?_
    exact ⟨l[i], qe, de, qv, dv, true, rfl, low_all LW.out (by omega) (HK.out _ _ _ _ _ _), .inr ⟨rfl, i, hi, HAI.out, rfl, HSI.out, RT.low HX.out (low_all LW.out (by omega) (HK.out _ _ _ _ _ _))⟩⟩
  · have HAI := Lib.hid ha
    rw [ha]
    clear ha
    go_wp2_with fail
    refine bodyPost_ret (v := .tuple #[.agg #[.string ⟨#[]⟩, .int .i64 0, .string ⟨#[]⟩, .slice none 0 0, .slice none 0 0, .bool false], .bool false]) (by simp [results, Tryz.results99, go_sem, World.cell?_setCell_same', g0, g1, g2, g3, g4, g5]; try rfl) rfl ?_
    exact ⟨noA9, none, 0, none, 0, false, rfl, low_all LW.out (by omega) (HK.out _ _ _ _ _ _), .inl ⟨rfl, HAI.out, rfl⟩⟩
def TypeQ (n : Nat) (l : List Et) (s : ByteArray) (w : World) (e : Ending) (w' : World) : Prop :=
  ∃ (nm : ByteArray) (pi : Option Addr) (li ci : Nat) (pa : Option Addr) (la ca : Nat) (q : Bool), e = .returned (.tuple #[.agg #[.string nm, .slice pi li ci, .slice pa la ca], .bool q]) ∧ Low w w' ∧
    ((q = false ∧ firstI l (fun x => eqN s x.nm) = -1 ∧ nm = ⟨#[]⟩) ∨ (q = true ∧ ∃ i, ∃ hi : i < l.length, firstI l (fun x => eqN s x.nm) = (i : Int) ∧ nm = s ∧ li = l[i].ins.length ∧ la = l[i].ats.length ∧ NsAt w' l[i].ins (.slice pi li ci) ∧ RAs (fun _ => True) w' n l[i].ats (.slice pa la ca)))
def ActQ (n : Nat) (l : List Ac) (s : ByteArray) (w : World) (e : Ending) (w' : World) : Prop :=
  ∃ (nm : ByteArray) (pi : Option Addr) (li ci : Nat) (pp : Option Addr) (lp cp : Nat) (pr : Option Addr) (lr cr : Nat) (pa : Option Addr) (la ca : Nat) (q : Bool), e = .returned (.tuple #[.agg #[.string nm, .slice pi li ci, .slice pp lp cp, .slice pr lr cr, .slice pa la ca], .bool q]) ∧ Low w w' ∧
    ((q = false ∧ firstI l (fun x => eqN s x.nm) = -1 ∧ nm = ⟨#[]⟩) ∨ (q = true ∧ ∃ i, ∃ hi : i < l.length, firstI l (fun x => eqN s x.nm) = (i : Int) ∧ nm = s ∧ li = l[i].ins.length ∧ lp = l[i].ps.length ∧ lr = l[i].rs.length ∧ la = l[i].ats.length ∧ NsAt w' l[i].ps (.slice pp lp cp) ∧ NsAt w' l[i].rs (.slice pr lr cr) ∧ RAs (fun _ => True) w' n l[i].ats (.slice pa la ca)))
set_option maxHeartbeats 3200000 in
theorem type9_c (n : Nat) (l : List Et) (s : ByteArray) (w : World) (vt va : Value) (h : EtsAt n w l vt) : Calls Tryz.prog 79 #[.agg #[vt, va], .string s] w (TypeQ n l s w) := by
  obtain ⟨p, c, rfl, z1, z2⟩ := RowB.sl h
  obtain ⟨U0, hU0⟩ : ∃ U, U = w.alloc (.cells #[.slice p l.length c, va] 46) := ⟨_, rfl⟩
  obtain ⟨U1, hU1⟩ : ∃ U, U = U0.alloc (.cells #[.string s] 9) := ⟨_, rfl⟩
  obtain ⟨U, hU⟩ : ∃ U, U = U1.alloc (.cells #[.string ⟨#[]⟩, .slice none 0 0, .slice none 0 0] 66) := ⟨_, rfl⟩
  have s0 : U0.heap.size = w.heap.size + 1 := by rw [hU0]; simp
  have s1 : U1.heap.size = w.heap.size + 2 := by rw [hU1]; simp [s0]
  have L0 : Low U0 U := by rw [hU, hU1]; exact low_new (low_new (Low.refl _) _) _
  have LU := Lib.hid (show Low w U from (by rw [hU0]; exact low_new (Low.refl w) _ : Low w U0).trans L0)
  have ZU := Lib.hid (show BoxAt U (w.heap.size + 2) [.string ⟨#[]⟩, .slice none 0 0, .slice none 0 0] from BoxAt.made hU (by omega) rfl)
  have hb : U.cell? ⟨w.heap.size + 1, 0, none⟩ = some (.string s) := by
    rw [hU]; exact (low_new (Low.refl _) _).keep (by rw [hU1, ← s0, World.cell?_alloc_mark]; rfl)
  have hs0 : U.cell? ⟨w.heap.size, 0, none⟩ = some (.slice p l.length c) := L0.keep (by rw [hU0, World.cell?_alloc_mark]; rfl)
  have HI := Lib.hid (idxEt_c n l (fun x => eqN s x.nm) (w.heap.size + 1) U _ (h.low LU.out) fun j hj V pi ci pa ca hl h1 h2 => typef_c l[j] s (w.heap.size + 1) V pi pa ci ca (hl.keep hb))
  have HA := Lib.hid h
  rw [hU1, hU0] at hU
  have HU := Lib.hid hU
  clear h hU hb hU0 hU1 s0 s1 L0
  go_enter Tryz.func79, Tryz.ntmps79
  go_upto_region 1 with fail
  rw [← HU.out]
  go_wp2_with fail
  refine HI.out.mono ?_
  rintro e w1 ⟨rfl, l1⟩
  have L1 := Lib.hid l1
  have LW := Lib.hid (LU.out.trans l1)
  have Z1 := Lib.hid (ZU.out.low l1)
  have hs1 := l1.keep hs0
  clear l1 HI ZU HU hs0
  have g0 := Z1.out.at 0 _ rfl
  have o0 := Z1.out.open' 0
  have g1 := Z1.out.at 1 _ rfl
  have o1 := Z1.out.open' 1
  have g2 := Z1.out.at 2 _ rfl
  have o2 := Z1.out.open' 2
  have K6 := fun (c0 c1 c2 : Value) => (((kept_setCell w1 (w.heap.size + 2) 0 c0).trans (kept_setCell _ (w.heap.size + 2) 1 c1)).trans (kept_setCell _ (w.heap.size + 2) 2 c2))
  have HK := Lib.hid K6
  clear K6
  rcases firstI_cases l (fun x => eqN s x.nm) with ⟨i, hi, ha, hs, -⟩ | ⟨ha, -⟩
  · have HAI := Lib.hid ha
    have HSI := Lib.hid (show l[i].nm.s = s from of_decide_eq_true hs)
    obtain ⟨b, o, pi, ci, pa, ca, rfl, f0, f1, f2, r1, r2, y1, y2, y3, y4⟩ := EtsAt.at HA.out hi
    have e0 := LW.out.keep f0
    have e1 := LW.out.keep f1
    have e2 := LW.out.keep f2
    have HX1 := Lib.hid r1
    have HX2 := Lib.hid r2
    clear r1 r2 f0 f1 f2
    rw [ha]
    have zl : (i : Int) < (l.length : Int) := by omega
    have zn : ¬ (i : Int) < 0 := by omega
    clear ha hs
    go_wp2_with fail
    refine bodyPost_ret (v := .tuple #[.agg #[.string l[i].nm.s, .slice pi l[i].ins.length ci, .slice pa l[i].ats.length ca], .bool true]) (by simp [results, Tryz.results79, go_sem, World.cell?_setCell_same', g0, g1, g2]; try rfl) rfl ?_
    exact ⟨_, pi, _, ci, pa, _, ca, true, rfl, low_all LW.out (by omega) (HK.out _ _ _), .inr ⟨rfl, i, hi, HAI.out, HSI.out, rfl, rfl, NsAt.low HX1.out (low_all LW.out (by omega) (HK.out _ _ _)), RAs.low HX2.out (low_all LW.out (by omega) (HK.out _ _ _))⟩⟩
  · have HAI := Lib.hid ha
    rw [ha]
    clear ha
    go_wp2_with fail
    refine bodyPost_ret (v := .tuple #[.agg #[.string ⟨#[]⟩, .slice none 0 0, .slice none 0 0], .bool false]) (by simp [results, Tryz.results79, go_sem, World.cell?_setCell_same', g0, g1, g2]; try rfl) rfl ?_
    exact ⟨⟨#[]⟩, none, 0, 0, none, 0, 0, false, rfl, low_all LW.out (by omega) (HK.out _ _ _), .inl ⟨rfl, HAI.out, rfl⟩⟩
set_option maxHeartbeats 3200000 in
theorem act9_c (n : Nat) (l : List Ac) (s : ByteArray) (w : World) (vt va : Value) (h : AcsAt n w l va) : Calls Tryz.prog 54 #[.agg #[vt, va], .string s] w (ActQ n l s w) := by
  obtain ⟨p, c, rfl, z1, z2⟩ := RowB.sl h
  obtain ⟨U0, hU0⟩ : ∃ U, U = w.alloc (.cells #[vt, .slice p l.length c] 46) := ⟨_, rfl⟩
  obtain ⟨U1, hU1⟩ : ∃ U, U = U0.alloc (.cells #[.string s] 9) := ⟨_, rfl⟩
  obtain ⟨U, hU⟩ : ∃ U, U = U1.alloc (.cells #[.string ⟨#[]⟩, .slice none 0 0, .slice none 0 0, .slice none 0 0, .slice none 0 0] 68) := ⟨_, rfl⟩
  have s0 : U0.heap.size = w.heap.size + 1 := by rw [hU0]; simp
  have s1 : U1.heap.size = w.heap.size + 2 := by rw [hU1]; simp [s0]
  have L0 : Low U0 U := by rw [hU, hU1]; exact low_new (low_new (Low.refl _) _) _
  have LU := Lib.hid (show Low w U from (by rw [hU0]; exact low_new (Low.refl w) _ : Low w U0).trans L0)
  have ZU := Lib.hid (show BoxAt U (w.heap.size + 2) [.string ⟨#[]⟩, .slice none 0 0, .slice none 0 0, .slice none 0 0, .slice none 0 0] from BoxAt.made hU (by omega) rfl)
  have hb : U.cell? ⟨w.heap.size + 1, 0, none⟩ = some (.string s) := by
    rw [hU]; exact (low_new (Low.refl _) _).keep (by rw [hU1, ← s0, World.cell?_alloc_mark]; rfl)
  have hs0 : U.cell? ⟨w.heap.size, 1, none⟩ = some (.slice p l.length c) := L0.keep (by rw [hU0, World.cell?_alloc_mark]; rfl)
  have HI := Lib.hid (idxAc_c n l (fun x => eqN s x.nm) (w.heap.size + 1) U _ (h.low LU.out) fun j hj V pi ci pp cp pr cr pa ca hl h1 h2 h3 h4 => actf_c l[j] s (w.heap.size + 1) V pi pp pr pa ci cp cr ca (hl.keep hb))
  have HA := Lib.hid h
  rw [hU1, hU0] at hU
  have HU := Lib.hid hU
  clear h hU hb hU0 hU1 s0 s1 L0
  go_enter Tryz.func54, Tryz.ntmps54
  go_upto_region 1 with fail
  rw [← HU.out]
  go_wp2_with fail
  refine HI.out.mono ?_
  rintro e w1 ⟨rfl, l1⟩
  have L1 := Lib.hid l1
  have LW := Lib.hid (LU.out.trans l1)
  have Z1 := Lib.hid (ZU.out.low l1)
  have hs1 := l1.keep hs0
  clear l1 HI ZU HU hs0
  have g0 := Z1.out.at 0 _ rfl
  have o0 := Z1.out.open' 0
  have g1 := Z1.out.at 1 _ rfl
  have o1 := Z1.out.open' 1
  have g2 := Z1.out.at 2 _ rfl
  have o2 := Z1.out.open' 2
  have g3 := Z1.out.at 3 _ rfl
  have o3 := Z1.out.open' 3
  have g4 := Z1.out.at 4 _ rfl
  have o4 := Z1.out.open' 4
  have K6 := fun (c0 c1 c2 c3 c4 : Value) => (((((kept_setCell w1 (w.heap.size + 2) 0 c0).trans (kept_setCell _ (w.heap.size + 2) 1 c1)).trans (kept_setCell _ (w.heap.size + 2) 2 c2)).trans (kept_setCell _ (w.heap.size + 2) 3 c3)).trans (kept_setCell _ (w.heap.size + 2) 4 c4))
  have HK := Lib.hid K6
  clear K6
  rcases firstI_cases l (fun x => eqN s x.nm) with ⟨i, hi, ha, hs, -⟩ | ⟨ha, -⟩
  · have HAI := Lib.hid ha
    have HSI := Lib.hid (show l[i].nm.s = s from of_decide_eq_true hs)
    obtain ⟨b, o, pi, ci, pp, cp, pr, cr, pa, ca, rfl, f0, f1, f2, f3, f4, -, r1, r2, r3, -, -, -, -⟩ := AcsAt.at HA.out hi
    have e0 := LW.out.keep f0
    have e1 := LW.out.keep f1
    have e2 := LW.out.keep f2
    have e3 := LW.out.keep f3
    have e4 := LW.out.keep f4
    have HX1 := Lib.hid r1
    have HX2 := Lib.hid r2
    have HX3 := Lib.hid r3
    clear r1 r2 r3 f0 f1 f2 f3 f4
    rw [ha]
    have zl : (i : Int) < (l.length : Int) := by omega
    have zn : ¬ (i : Int) < 0 := by omega
    clear ha hs
    go_wp2_with fail
    refine bodyPost_ret (v := .tuple #[.agg #[.string l[i].nm.s, .slice pi l[i].ins.length ci, .slice pp l[i].ps.length cp, .slice pr l[i].rs.length cr, .slice pa l[i].ats.length ca], .bool true]) (by simp [results, Tryz.results54, go_sem, World.cell?_setCell_same', g0, g1, g2, g3, g4]; try rfl) rfl ?_
    exact ⟨_, pi, _, ci, pp, _, cp, pr, _, cr, pa, _, ca, true, rfl, low_all LW.out (by omega) (HK.out _ _ _ _ _), .inr ⟨rfl, i, hi, HAI.out, HSI.out, rfl, rfl, rfl, rfl, NsAt.low HX1.out (low_all LW.out (by omega) (HK.out _ _ _ _ _)), NsAt.low HX2.out (low_all LW.out (by omega) (HK.out _ _ _ _ _)), RAs.low HX3.out (low_all LW.out (by omega) (HK.out _ _ _ _ _))⟩⟩
  · have HAI := Lib.hid ha
    rw [ha]
    clear ha
    go_wp2_with fail
    refine bodyPost_ret (v := .tuple #[.agg #[.string ⟨#[]⟩, .slice none 0 0, .slice none 0 0, .slice none 0 0, .slice none 0 0], .bool false]) (by simp [results, Tryz.results54, go_sem, World.cell?_setCell_same', g0, g1, g2, g3, g4]; try rfl) rfl ?_
    exact ⟨⟨#[]⟩, none, 0, 0, none, 0, 0, none, 0, 0, none, 0, 0, false, rfl, low_all LW.out (by omega) (HK.out _ _ _ _ _), .inl ⟨rfl, HAI.out, rfl⟩⟩
end Go.Proofs.YtnenjgngahipdaaGreat
namespace Go.Proofs.YtnenjgngahipdaaGreat
open Go.RowKit
set_option linter.unusedVariables false
set_option maxHeartbeats 1600000 in
theorem negA_c (x : At) (q : Bool) (x0 : Nat) (y : Nat) (pe : Option Addr) (ce : Nat) (pv : Option Addr) (cv : Nat) (w : World) (hb : w.cell? ⟨y, 0, none⟩ = some (.func (.func 102) #[] #[.pointer (some ⟨x0, 0, none⟩)]))
    (hc : ∀ W, Low w W → Calls Tryz.prog 102 #[.agg #[.string (an x), .int .i64 (aty x).k, .string (aty x).n, .slice pe (aty x).l.length ce, .slice pv (aty x).ats.length cv, .bool (ao x)], .pointer (some ⟨x0, 0, none⟩)] W fun r W' => r = .returned (.bool q) ∧ Low W W') :
    Calls Tryz.prog 130 #[.agg #[.string (an x), .int .i64 (aty x).k, .string (aty x).n, .slice pe (aty x).l.length ce, .slice pv (aty x).ats.length cv, .bool (ao x)], .pointer (some ⟨y, 0, none⟩)] w fun r w' => r = .returned (.bool (!q)) ∧ Low w w' := by
  have hb2 := fun X => (low_new (Low.refl w) X).keep hb
  have HC := Lib.hid hc
  clear hc
  go_enter Tryz.func130, Tryz.ntmps130
  go_wp2_with fail
  refine (HC.out _ (low_new (Low.refl w) _)).mono ?_
  rintro e w' ⟨rfl, l1⟩
  have G2 := Lib.hid ((low_new (Low.refl w) _).trans l1)
  clear l1 HC
  go_wp2_with fail
  go_ret
  exact ⟨rfl, G2.out⟩
set_option maxHeartbeats 1600000 in
theorem idxA9_c (n : Nat) (l : List At) (f : At → Bool) (y : Nat) (w : World) (v : Value) (h : RAs (fun _ => True) w n l v)
    (hc : ∀ j (hj : j < l.length) (W : World) (pe : Option Addr) (ce : Nat) (pv : Option Addr) (cv : Nat), Low w W → RT (fun _ => True) W n (aty l[j]) (.slice pe (aty l[j]).l.length ce) (.slice pv (aty l[j]).ats.length cv) → Calls Tryz.prog 130 #[.agg #[.string (an l[j]), .int .i64 (aty l[j]).k, .string (aty l[j]).n, .slice pe (aty l[j]).l.length ce, .slice pv (aty l[j]).ats.length cv, .bool (ao l[j])], .pointer (some ⟨y, 0, none⟩)] W fun r W' => r = .returned (.bool (f l[j])) ∧ Low W W') :
    Calls Tryz.prog 127 #[v, .func (.func 130) #[] #[.pointer (some ⟨y, 0, none⟩)]] w fun e w' => e = .returned (.int .i64 (firstI l f)) ∧ Low w w' := by
  obtain ⟨p, c, rfl, z1, z2⟩ := RowR.sl h
  have HA := Lib.hid h
  have HC := Lib.hid hc
  obtain ⟨r, hr⟩ : ∃ r, r = firstI l f := ⟨_, rfl⟩
  have CS := Lib.hid (show ∀ i (hi : i < l.length), f l[i] = true → (∀ j (hj : j < l.length), j < i → f l[j] = false) → (i : Int) = r from fun i hi h1 h2 => by rw [hr, firstI_some hi h1 h2])
  have CN := Lib.hid (show (∀ j (hj : j < l.length), f l[j] = false) → -1 = r from fun h2 => by rw [hr, firstI_none h2])
  rw [← hr]
  clear h hr hc
  go_enter Tryz.func127, Tryz.ntmps127
  go_wp2_with fail
  go_loopg [5, 8] l.length (fun gk vx vi wr => ∃ i : Nat, vi = .int .i64 (i : Int) ∧ i ≤ l.length ∧ l.length - i ≤ gk ∧ Hid (Low w wr) ∧ Hid (∀ j (hj : j < l.length), j < i → f l[j] = false))
  case atStart => exact ⟨0, rfl, Nat.zero_le _, Nat.le_refl _, Lib.hid (Low.refl _), Lib.hid fun j hj h => absurd h (Nat.not_lt_zero _)⟩
  case round =>
    obtain ⟨i, rfl, hi, hg, G, K⟩ := hrel
    by_cases hlt : i < l.length
    · have zl : (i : Int) < (l.length : Int) := by omega
      obtain ⟨b, o, qe, de, qv, dv, rfl, -, e0, e1, e2, e3, e4, e5, es, hrx⟩ := RAs.at (RAs.low HA.out G.out) hlt
      have HF := Lib.hid (HC.out i hlt wr qe de qv dv G.out hrx)
      obtain ⟨q, hq⟩ : ∃ q, q = f l[i] := ⟨_, rfl⟩
      rw [← hq] at HF
      have HQ := Lib.hid hq
      clear hq hrx es
      go_wp2_with fail
      refine HF.out.mono ?_
      rintro e w' ⟨rfl, l1⟩
      have G2 := Lib.hid (G.out.trans l1)
      clear l1 HF
      cases q with
      | true =>
        have HQ2 := Lib.hid (CS.out i hlt HQ.out.symm K.out)
        go_wp2_with fail
        go_ret
        exact ⟨retI HQ2.out, G2.out⟩
      | false =>
        go_wp2_with fail
        go_roundg (l.length - (i + 1))
        case measure => omega
        case rel =>
          refine ⟨i + 1, by go_num, by omega, by omega, G2, Lib.hid fun j hj hji => ?_⟩
          rcases Nat.lt_succ_iff_lt_or_eq.1 hji with h | rfl
          · exact K.out j hj h
          · exact HQ.out.symm
    · have zl : ¬ (i : Int) < (l.length : Int) := by omega
      have HQ2 := Lib.hid (CN.out fun j hj => K.out j hj (by omega))
      go_wp2_with fail
      go_ret
      exact ⟨retI HQ2.out, G.out⟩
set_option maxHeartbeats 1600000 in
theorem conA9_c (n : Nat) (l : List At) (f : At → Bool) (y : Nat) (w : World) (v : Value) (h : RAs (fun _ => True) w n l v)
    (hc : ∀ j (hj : j < l.length) (W : World) (pe : Option Addr) (ce : Nat) (pv : Option Addr) (cv : Nat), Low w W → RT (fun _ => True) W n (aty l[j]) (.slice pe (aty l[j]).l.length ce) (.slice pv (aty l[j]).ats.length cv) → Calls Tryz.prog 130 #[.agg #[.string (an l[j]), .int .i64 (aty l[j]).k, .string (aty l[j]).n, .slice pe (aty l[j]).l.length ce, .slice pv (aty l[j]).ats.length cv, .bool (ao l[j])], .pointer (some ⟨y, 0, none⟩)] W fun r W' => r = .returned (.bool (f l[j])) ∧ Low W W') :
    Calls Tryz.prog 129 #[v, .func (.func 130) #[] #[.pointer (some ⟨y, 0, none⟩)]] w fun e w' => e = .returned (.bool (l.any f)) ∧ Low w w' := by
  have HI := Lib.hid (idxA9_c n l f y w v h hc)
  obtain ⟨p, c, rfl, z1, z2⟩ := RowR.sl h
  obtain ⟨r, hr⟩ : ∃ r, r = firstI l f := ⟨_, rfl⟩
  rw [← hr] at HI
  have HR := Lib.hid (show decide (0 ≤ r) = l.any f by rw [hr]; exact firstI_any l f)
  clear h hc hr
  go_enter Tryz.func129, Tryz.ntmps129
  go_wp2_with fail
  refine HI.out.mono ?_
  rintro e w' ⟨rfl, l1⟩
  go_wp2_with fail
  go_ret
  exact ⟨retB HR.out, l1⟩
set_option maxHeartbeats 1600000 in
theorem allA_c (n : Nat) (l : List At) (f : At → Bool) (x0 : Nat) (w : World) (v : Value) (h : RAs (fun _ => True) w n l v)
    (hc : ∀ j (hj : j < l.length) (W : World) (pe : Option Addr) (ce : Nat) (pv : Option Addr) (cv : Nat), Low w W → RT (fun _ => True) W n (aty l[j]) (.slice pe (aty l[j]).l.length ce) (.slice pv (aty l[j]).ats.length cv) → Calls Tryz.prog 102 #[.agg #[.string (an l[j]), .int .i64 (aty l[j]).k, .string (aty l[j]).n, .slice pe (aty l[j]).l.length ce, .slice pv (aty l[j]).ats.length cv, .bool (ao l[j])], .pointer (some ⟨x0, 0, none⟩)] W fun r W' => r = .returned (.bool (f l[j])) ∧ Low W W') :
    Calls Tryz.prog 101 #[v, .func (.func 102) #[] #[.pointer (some ⟨x0, 0, none⟩)]] w fun e w' => e = .returned (.bool (l.all f)) ∧ Low w w' := by
  obtain ⟨U, hU⟩ : ∃ U, U = w.alloc (.cells #[.func (.func 102) #[] #[.pointer (some ⟨x0, 0, none⟩)]] 132) := ⟨_, rfl⟩
  have LU := Lib.hid (show Low w U by rw [hU]; exact low_new (Low.refl w) _)
  have hb : U.cell? ⟨w.heap.size, 0, none⟩ = some (.func (.func 102) #[] #[.pointer (some ⟨x0, 0, none⟩)]) := by rw [hU, World.cell?_alloc_mark]; rfl
  have HI := Lib.hid (conA9_c n l (fun x => !f x) w.heap.size U v (RAs.low h LU.out) fun j hj W pe ce pv cv hl hx => negA_c l[j] (f l[j]) x0 w.heap.size pe ce pv cv W (hl.keep hb) fun W2 hl2 => hc j hj W2 pe ce pv cv ((LU.out.trans hl).trans hl2) (RT.low hx hl2))
  have HN := Lib.hid (show (!(l.any fun x => !f x)) = l.all f from not_any9 l f)
  obtain ⟨p, c, rfl, z1, z2⟩ := RowR.sl h
  have HU := Lib.hid hU
  clear h hc hU hb
  obtain ⟨q, hq⟩ : ∃ q, q = l.any fun x => !f x := ⟨_, rfl⟩
  rw [← hq] at HI HN
  clear hq
  go_enter Tryz.func101, Tryz.ntmps101
  go_upto_region 1 with fail
  rw [← HU.out]
  go_wp2_with fail
  refine HI.out.mono ?_
  rintro e w' ⟨rfl, l1⟩
  have G2 := Lib.hid (LU.out.trans l1)
  clear l1
  go_wp2_with fail
  go_ret
  exact ⟨retB HN.out, G2.out⟩
end Go.Proofs.YtnenjgngahipdaaGreat
