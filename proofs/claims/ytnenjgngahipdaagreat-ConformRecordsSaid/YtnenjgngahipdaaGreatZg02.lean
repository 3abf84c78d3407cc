/- The maps of a schema's names: has, lay, insOfTypes, insOfActions. No condition. slices.IndexFunc and slices.ContainsFunc at rows of a schema, of its closures. Condition: what a closure answers of each. Values as trees: their parts, their depth, their order, and how they must be, by definition; facts on these that stand on nothing. No condition. Orders by numbers, rows that rise, each once: facts that stand on nothing. No condition. Plain entities: their names, rounds, and lists as they must be, by definition ('c': a value as it must be). No condition. Names as keys of a map: how one is laid as a value, and what it reads as. No condition. -/
import Derived.Test.YtnenjgngahipdaaGreatZg01
import Derived.Test.YtnenjgngahipdaaGreatZg00
import Derived.Lib.Small
import Derived.Shelf.Small.Strs
import Derived.Test.YtnenjgngahipdaaGreatRows
import Derived.DeepKeys4
set_option linter.unusedVariables false
set_option linter.unusedSimpArgs false
set_option linter.unnecessarySimpa false
namespace Go.Proofs.YtnenjgngahipdaaGreat
open Go.RowKit Go.Maps
set_option linter.unusedVariables false
theorem box2 {w wr : World} {c0 c1 : Value} {t : TypeId} (h : Low (w.alloc (.cells #[c0, c1] t)) wr) : wr.cell? ⟨w.heap.size, 0, none⟩ = some c0 ∧ wr.cell? ⟨w.heap.size, 1, none⟩ = some c1 :=
  ⟨h.keep (by rw [World.cell?_alloc_mark]; rfl), h.keep (by rw [World.cell?_alloc_mark]; rfl)⟩
end Go.Proofs.YtnenjgngahipdaaGreat
namespace Go.Proofs.YtnenjgngahipdaaGreat
open Go.RowKit
set_option linter.unusedVariables false
/-- The first one. -/
def firstI {α : Type} (l : List α) (f : α → Bool) : Int := match l.findIdx? f with
  | some i => (i : Int)
  | none => -1
theorem firstI_some {α : Type} {l : List α} {f : α → Bool} {i : Nat} (hi : i < l.length) (h1 : f l[i] = true) (h2 : ∀ j (hj : j < l.length), j < i → f l[j] = false) : firstI l f = (i : Int) := by
  unfold firstI
  have : l.findIdx? f = some i := by
    rw [List.findIdx?_eq_some_iff_getElem]
    exact ⟨hi, h1, fun j hj => by have := h2 j (by omega) hj; simp [this]⟩
  rw [this]
theorem firstI_none {α : Type} {l : List α} {f : α → Bool} (h : ∀ j (hj : j < l.length), f l[j] = false) : firstI l f = -1 := by
  unfold firstI
  have : l.findIdx? f = none := by
    rw [List.findIdx?_eq_none_iff]
    intro x hx
    obtain ⟨j, hj, rfl⟩ := List.getElem_of_mem hx
    exact h j hj
  rw [this]
theorem firstI_cases {α : Type} (l : List α) (f : α → Bool) : (∃ i, ∃ hi : i < l.length, firstI l f = (i : Int) ∧ f l[i] = true ∧ ∀ j (hj : j < l.length), j < i → f l[j] = false) ∨ (firstI l f = -1 ∧ ∀ j (hj : j < l.length), f l[j] = false) := by
  unfold firstI
  cases h : l.findIdx? f with
  | some i =>
    obtain ⟨hi, h1, h2⟩ := List.findIdx?_eq_some_iff_getElem.1 h
    exact .inl ⟨i, hi, rfl, h1, fun j hj hji => by have := h2 j hji; simpa using this⟩
  | none =>
    rw [List.findIdx?_eq_none_iff] at h
    exact .inr ⟨rfl, fun j hj => h _ (List.getElem_mem hj)⟩
theorem firstI_any {α : Type} (l : List α) (f : α → Bool) : decide (0 ≤ firstI l f) = l.any f := by
  rcases firstI_cases l f with ⟨i, hi, e, h1, -⟩ | ⟨e, h⟩
  · rw [e]
    have : l.any f = true := List.any_eq_true.2 ⟨_, List.getElem_mem hi, h1⟩
    rw [this]; simp
  · rw [e]
    have : l.any f = false := by
      rw [List.any_eq_false]
      intro x hx
      obtain ⟨j, hj, rfl⟩ := List.getElem_of_mem hx
      simp [h j hj]
    rw [this]; rfl
set_option maxHeartbeats 1600000 in
theorem idxEt_c (n : Nat) (l : List Et) (f : Et → Bool) (x0 : Nat) (w : World) (v : Value) (h : EtsAt n w l v) (hc : ∀ j (hj : j < l.length) (W : World) (pi : Option Addr) (ci : Nat) (pa : Option Addr) (ca : Nat), Low w W → NsAt W l[j].ins (.slice pi l[j].ins.length ci) → RAs (fun _ => True) W n l[j].ats (.slice pa l[j].ats.length ca) → Calls Tryz.prog 115 #[.agg #[.string l[j].nm.s, .slice pi l[j].ins.length ci, .slice pa l[j].ats.length ca], .pointer (some ⟨x0, 0, none⟩)] W fun r W' => r = .returned (.bool (f l[j])) ∧ Low W W') :
    Calls Tryz.prog 114 #[v, .func (.func 115) #[] #[.pointer (some ⟨x0, 0, none⟩)]] w fun e w' => e = .returned (.int .i64 (firstI l f)) ∧ Low w w' := by
  obtain ⟨p, c, rfl, z1, z2⟩ := RowB.sl h
  have HA := Lib.hid h
  have HC := Lib.hid hc
  obtain ⟨r, hr⟩ : ∃ r, r = firstI l f := ⟨_, rfl⟩
  have CS := Lib.hid (show ∀ i (hi : i < l.length), f l[i] = true → (∀ j (hj : j < l.length), j < i → f l[j] = false) → (i : Int) = r from fun i hi h1 h2 => by rw [hr, firstI_some hi h1 h2])
  have CN := Lib.hid (show (∀ j (hj : j < l.length), f l[j] = false) → -1 = r from fun h2 => by rw [hr, firstI_none h2])
  rw [← hr]
  clear h hr hc
  go_enter Tryz.func114, Tryz.ntmps114
  go_wp2_with fail
  go_loopg [5, 8] l.length (fun gk vx vi wr => ∃ i : Nat, vi = .int .i64 (i : Int) ∧ i ≤ l.length ∧ l.length - i ≤ gk ∧ Hid (Low w wr) ∧ Hid (∀ j (hj : j < l.length), j < i → f l[j] = false))
  case atStart => exact ⟨0, rfl, Nat.zero_le _, Nat.le_refl _, Lib.hid (Low.refl _), Lib.hid fun j hj h => absurd h (Nat.not_lt_zero _)⟩
  case round =>
    obtain ⟨i, rfl, hi, hg, G, K⟩ := hrel
    by_cases hlt : i < l.length
    · have zl : (i : Int) < (l.length : Int) := by omega
      obtain ⟨b, o, pi, ci, pa, ca, rfl, e0, e1, e2, h1, h2, -, -, -, -⟩ := EtsAt.at (EtsAt.low HA.out G.out) hlt
      have HF := Lib.hid (HC.out i hlt wr pi ci pa ca G.out h1 h2)
      obtain ⟨q, hq⟩ : ∃ q, q = f l[i] := ⟨_, rfl⟩
      rw [← hq] at HF
      have HQ := Lib.hid hq
      clear h1 h2 hq
      go_wp2_with fail
      refine HF.out.mono ?_
      rintro e w' ⟨rfl, l1⟩
      have G2 := Lib.hid (G.out.trans l1)
      clear l1 HF
      cases q with
      | true =>
        have HQ2 := Lib.hid (CS.out i hlt HQ.out.symm K.out)
        go_wp2_with fail
        go_ret
        exact ⟨retI HQ2.out, G2.out⟩
      | false =>
        go_wp2_with fail
        go_roundg (l.length - (i + 1))
        case measure => omega
        case rel =>
          refine ⟨i + 1, by go_num, by omega, by omega, G2, Lib.hid fun j hj hji => ?_⟩
          rcases Nat.lt_succ_iff_lt_or_eq.1 hji with h | rfl
          · exact K.out j hj h
          · exact HQ.out.symm
    · have zl : ¬ (i : Int) < (l.length : Int) := by omega
      have HQ2 := Lib.hid (CN.out fun j hj => K.out j hj (by omega))
      go_wp2_with fail
      go_ret
      exact ⟨retI HQ2.out, G.out⟩
set_option maxHeartbeats 1600000 in
theorem idxAc_c (n : Nat) (l : List Ac) (f : Ac → Bool) (x0 : Nat) (w : World) (v : Value) (h : AcsAt n w l v) (hc : ∀ j (hj : j < l.length) (W : World) (pi : Option Addr) (ci : Nat) (pp : Option Addr) (cp : Nat) (pr : Option Addr) (cr : Nat) (pa : Option Addr) (ca : Nat), Low w W → NsAt W l[j].ins (.slice pi l[j].ins.length ci) → NsAt W l[j].ps (.slice pp l[j].ps.length cp) → NsAt W l[j].rs (.slice pr l[j].rs.length cr) → RAs (fun _ => True) W n l[j].ats (.slice pa l[j].ats.length ca) → Calls Tryz.prog 86 #[.agg #[.string l[j].nm.s, .slice pi l[j].ins.length ci, .slice pp l[j].ps.length cp, .slice pr l[j].rs.length cr, .slice pa l[j].ats.length ca], .pointer (some ⟨x0, 0, none⟩)] W fun r W' => r = .returned (.bool (f l[j])) ∧ Low W W') :
    Calls Tryz.prog 85 #[v, .func (.func 86) #[] #[.pointer (some ⟨x0, 0, none⟩)]] w fun e w' => e = .returned (.int .i64 (firstI l f)) ∧ Low w w' := by
  obtain ⟨p, c, rfl, z1, z2⟩ := RowB.sl h
  have HA := Lib.hid h
  have HC := Lib.hid hc
  obtain ⟨r, hr⟩ : ∃ r, r = firstI l f := ⟨_, rfl⟩
  have CS := Lib.hid (show ∀ i (hi : i < l.length), f l[i] = true → (∀ j (hj : j < l.length), j < i → f l[j] = false) → (i : Int) = r from fun i hi h1 h2 => by rw [hr, firstI_some hi h1 h2])
  have CN := Lib.hid (show (∀ j (hj : j < l.length), f l[j] = false) → -1 = r from fun h2 => by rw [hr, firstI_none h2])
  rw [← hr]
  clear h hr hc
  go_enter Tryz.func85, Tryz.ntmps85
  go_wp2_with fail
  go_loopg [5, 8] l.length (fun gk vx vi wr => ∃ i : Nat, vi = .int .i64 (i : Int) ∧ i ≤ l.length ∧ l.length - i ≤ gk ∧ Hid (Low w wr) ∧ Hid (∀ j (hj : j < l.length), j < i → f l[j] = false))
  case atStart => exact ⟨0, rfl, Nat.zero_le _, Nat.le_refl _, Lib.hid (Low.refl _), Lib.hid fun j hj h => absurd h (Nat.not_lt_zero _)⟩
  case round =>
    obtain ⟨i, rfl, hi, hg, G, K⟩ := hrel
    by_cases hlt : i < l.length
    · have zl : (i : Int) < (l.length : Int) := by omega
      obtain ⟨b, o, pi, ci, pp, cp, pr, cr, pa, ca, rfl, e0, e1, e2, e3, e4, h1, h2, h3, h4, -, -, -, -⟩ := AcsAt.at (AcsAt.low HA.out G.out) hlt
      have HF := Lib.hid (HC.out i hlt wr pi ci pp cp pr cr pa ca G.out h1 h2 h3 h4)
      obtain ⟨q, hq⟩ : ∃ q, q = f l[i] := ⟨_, rfl⟩
      rw [← hq] at HF
      have HQ := Lib.hid hq
      clear h1 h2 h3 h4 hq
      go_wp2_with fail
      refine HF.out.mono ?_
      rintro e w' ⟨rfl, l1⟩
      have G2 := Lib.hid (G.out.trans l1)
      clear l1 HF
      cases q with
      | true =>
        have HQ2 := Lib.hid (CS.out i hlt HQ.out.symm K.out)
        go_wp2_with fail
        go_ret
        exact ⟨retI HQ2.out, G2.out⟩
      | false =>
        go_wp2_with fail
        go_roundg (l.length - (i + 1))
        case measure => omega
        case rel =>
          refine ⟨i + 1, by go_num, by omega, by omega, G2, Lib.hid fun j hj hji => ?_⟩
          rcases Nat.lt_succ_iff_lt_or_eq.1 hji with h | rfl
          · exact K.out j hj h
          · exact HQ.out.symm
    · have zl : ¬ (i : Int) < (l.length : Int) := by omega
      have HQ2 := Lib.hid (CN.out fun j hj => K.out j hj (by omega))
      go_wp2_with fail
      go_ret
      exact ⟨retI HQ2.out, G.out⟩
end Go.Proofs.YtnenjgngahipdaaGreat
namespace Go.Proofs.YtnenjgngahipdaaGreat
open Go.RowKit
/-- What a value has but its items and names. -/
structure Hd where
  k : Int
  b : Bool
  n : Int
  s : ByteArray
  t : ByteArray
  i : ByteArray
inductive V where
  | mk (h : Hd) (l : List V) (ns : List ByteArray)
namespace V
def h : V → Hd | .mk h _ _ => h
def l : V → List V | .mk _ l _ => l
def ns : V → List ByteArray | .mk _ _ ns => ns
end V
theorem V.eta : ∀ v : V, v = .mk v.h v.l v.ns | .mk _ _ _ => rfl
mutual
/-- How deep the items go, of whatever kind. -/
def dep : V → Nat
  | .mk _ l _ => depL l + 1
def depL : List V → Nat
  | [] => 0
  | x :: l => max (dep x) (depL l)
end
theorem dep_mem {x : V} {l : List V} (h : x ∈ l) : dep x ≤ depL l := by
  induction l with
  | nil => simp at h
  | cons y l ih =>
    rw [depL]
    rcases List.mem_cons.1 h with rfl | h
    · exact Nat.le_max_left _ _
    · exact Nat.le_trans (ih h) (Nat.le_max_right _ _)
theorem dep_v (v : V) : dep v = depL v.l + 1 := by cases v; rw [dep]; rfl
theorem dep_item {v : V} {j : Nat} (hj : j < v.l.length) : dep v.l[j] < dep v := by
  have := dep_mem (List.getElem_mem hj)
  rw [dep_v v]; omega
theorem depL_le {l : List V} {n : Nat} (h : ∀ x ∈ l, dep x ≤ n) : depL l ≤ n := by
  induction l with
  | nil => rw [depL]; omega
  | cons y l ih =>
    rw [depL]
    have h1 := h y (by simp)
    have h2 := ih fun x hx => h x (by simp [hx])
    omega
mutual
/-- All rows are short: no more than 70000. -/
def Smv : V → Prop
  | .mk _ l ns => l.length ≤ 70000 ∧ ns.length ≤ 70000 ∧ SmL l
def SmL : List V → Prop
  | [] => True
  | x :: l => Smv x ∧ SmL l
end
theorem smL_iff {l : List V} : SmL l ↔ ∀ x ∈ l, Smv x := by
  induction l with
  | nil => simp [SmL]
  | cons y l ih => simp [SmL, ih]
theorem sm_v (v : V) : Smv v ↔ v.l.length ≤ 70000 ∧ v.ns.length ≤ 70000 ∧ ∀ x ∈ v.l, Smv x := by
  cases v; rw [Smv, smL_iff]; rfl
/-! ### The order -/
def cmpIv (a b : Int) : Int := Lib.compareInt a b
def cmpT (a b : ByteArray) : Int := Lib.compareBytes a.data.toList b.data.toList
def cmpBv (a b : Bool) : Int := if a = b then 0 else if b then -1 else 1
def orI (a b : Int) : Int := if a = 0 then b else a
/-- The order of rows of names. -/
def cmpN : List ByteArray → List ByteArray → Int
  | [], [] => 0
  | [], _ :: _ => -1
  | _ :: _, [] => 1
  | x :: l, y :: m => orI (cmpT x y) (cmpN l m)
mutual
def ord : V → V → Int
  | .mk h l ns, v =>
    if h.k = v.h.k then
      if h.k = 1 then cmpBv h.b v.h.b
      else if h.k = 2 then cmpIv h.n v.h.n
      else if h.k = 3 then cmpT h.s v.h.s
      else if h.k = 4 then orI (cmpT h.t v.h.t) (cmpT h.i v.h.i)
      else if h.k = 5 then ordN l l.length v.l
      else if h.k = 6 then orI (cmpN ns v.ns) (ordN l (min ns.length l.length) (v.l.take (min v.ns.length v.l.length)))
      else 0
    else cmpIv h.k v.h.k
/-- The order of rows: the first n of the one, and the other. -/
def ordN : List V → Nat → List V → Int
  | [], _, [] => 0
  | [], _, _ :: _ => -1
  | _ :: _, 0, [] => 0
  | _ :: _, 0, _ :: _ => -1
  | _ :: _, _ + 1, [] => 1
  | x :: l, n + 1, y :: m => orI (ord x y) (ordN l n m)
end
def ordL (l m : List V) : Int := ordN l l.length m
theorem ordL_nil : ordL [] [] = 0 := rfl
theorem ordL_nil_cons (y : V) (m : List V) : ordL [] (y :: m) = -1 := rfl
theorem ordL_cons_nil (x : V) (l : List V) : ordL (x :: l) [] = 1 := by unfold ordL; rw [List.length_cons, ordN]
theorem ordL_cons (x y : V) (l m : List V) : ordL (x :: l) (y :: m) = orI (ord x y) (ordL l m) := by unfold ordL; rw [List.length_cons, ordN]
theorem ordN_take : ∀ (l : List V) (n : Nat) (m : List V), n ≤ l.length → ordN l n m = ordL (l.take n) m
  | [], n, m, h => by simp at h; subst h; rfl
  | x :: l, 0, [], _ => by rw [ordN]; rfl
  | x :: l, 0, _ :: _, _ => by rw [ordN]; rfl
  | x :: l, n + 1, [], _ => by rw [ordN, List.take_succ_cons, ordL_cons_nil]
  | x :: l, n + 1, y :: m, h => by rw [ordN, List.take_succ_cons, ordL_cons, ordN_take l n m (by simpa using h)]
/-- A record's items that have a name. -/
def V.named (v : V) : List V := v.l.take (min v.ns.length v.l.length)
theorem ord_eq (a b : V) : ord a b =
    if a.h.k = b.h.k then
      if a.h.k = 1 then cmpBv a.h.b b.h.b
      else if a.h.k = 2 then cmpIv a.h.n b.h.n
      else if a.h.k = 3 then cmpT a.h.s b.h.s
      else if a.h.k = 4 then orI (cmpT a.h.t b.h.t) (cmpT a.h.i b.h.i)
      else if a.h.k = 5 then ordL a.l b.l
      else if a.h.k = 6 then orI (cmpN a.ns b.ns) (ordL a.named b.named)
      else 0
    else cmpIv a.h.k b.h.k := by
  cases a with
  | mk h l ns =>
    rw [ord]
    simp only [V.h, V.l, V.ns, V.named]
    rw [ordN_take _ _ _ (Nat.min_le_right _ _)]
    rfl
end Go.Proofs.YtnenjgngahipdaaGreat
namespace Go.Proofs.YtnenjgngahipdaaGreat
/-- What an order by numbers must be, on what meets S. -/
structure Good {α : Type} (c : α → α → Int) (S : α → Prop) : Prop where
  anti : ∀ a b, S a → S b → c b a = - c a b
  eq : ∀ a b d, S a → S b → S d → c a b = 0 → c a d = c b d
  lt : ∀ a b d, S a → S b → S d → c a b < 0 → c b d < 0 → c a d < 0
section
variable {α : Type} {c : α → α → Int} {S : α → Prop}
theorem Good.refl (g : Good c S) {a : α} (h : S a) : c a a = 0 := by have := g.anti a a h h; omega
theorem Good.eq' (g : Good c S) {a b d : α} (ha : S a) (hb : S b) (hd : S d) (h : c a b = 0) : c d a = c d b := by
  have h1 := g.eq a b d ha hb hd h
  have h2 := g.anti a d ha hd
  have h3 := g.anti b d hb hd
  omega
theorem Good.le (g : Good c S) {a b d : α} (ha : S a) (hb : S b) (hd : S d) (h : c a b ≤ 0) (k : c b d ≤ 0) : c a d ≤ 0 := by
  rcases Int.lt_or_eq_of_le h with h1 | h1
  · rcases Int.lt_or_eq_of_le k with k1 | k1
    · exact Int.le_of_lt (g.lt a b d ha hb hd h1 k1)
    · rw [← g.eq' hb hd ha k1]; exact h
  · rw [g.eq a b d ha hb hd h1]; exact k
theorem Good.lt_le (g : Good c S) {a b d : α} (ha : S a) (hb : S b) (hd : S d) (h : c a b < 0) (k : c b d ≤ 0) : c a d < 0 := by
  rcases Int.lt_or_eq_of_le k with k1 | k1
  · exact g.lt a b d ha hb hd h k1
  · rw [← g.eq' hb hd ha k1]; exact h
theorem Good.mono {T : α → Prop} (g : Good c S) (h : ∀ a, T a → S a) : Good c T :=
  ⟨fun a b ha hb => g.anti a b (h a ha) (h b hb), fun a b d ha hb hd => g.eq a b d (h a ha) (h b hb) (h d hd), fun a b d ha hb hd => g.lt a b d (h a ha) (h b hb) (h d hd)⟩
/-! ### Rows that rise, each once -/
def Rises (c : α → α → Int) (l : List α) : Prop := l.Pairwise fun x y => c x y < 0
def ins (c : α → α → Int) (x : α) : List α → List α
  | [] => [x]
  | y :: l => if c y x < 0 then y :: ins c x l else if c y x = 0 then y :: l else x :: y :: l
def uniq (c : α → α → Int) (l : List α) : List α := l.foldl (fun acc x => ins c x acc) []
theorem ins_sub {x z : α} : ∀ {l : List α}, z ∈ ins c x l → z = x ∨ z ∈ l
  | [], h => by simp [ins] at h; exact .inl h
  | y :: l, h => by
    rw [ins] at h
    split at h
    · rcases List.mem_cons.1 h with h | h
      · exact .inr (by simp [h])
      · rcases ins_sub h with h | h
        · exact .inl h
        · exact .inr (by simp [h])
    · split at h
      · exact .inr h
      · simpa using h
theorem ins_old {x z : α} : ∀ {l : List α}, z ∈ l → z ∈ ins c x l
  | [], h => by simp at h
  | y :: l, h => by
    rw [ins]
    split
    · rcases List.mem_cons.1 h with h | h
      · simp [h]
      · exact List.mem_cons_of_mem _ (ins_old h)
    · split
      · exact h
      · exact List.mem_cons_of_mem _ h
theorem ins_new {x : α} (hE : ∀ y, S y → c y x = 0 → y = x) : ∀ {l : List α}, (∀ y ∈ l, S y) → x ∈ ins c x l
  | [], _ => by simp [ins]
  | y :: l, h => by
    rw [ins]
    split
    · exact List.mem_cons_of_mem _ (ins_new hE fun z hz => h z (by simp [hz]))
    · split
      · rename_i h2
        rw [hE y (h y (by simp)) h2]; simp
      · simp
theorem ins_rises (g : Good c S) {x : α} (hx : S x) : ∀ {l : List α}, (∀ y ∈ l, S y) → Rises c l → Rises c (ins c x l)
  | [], _, _ => by simp [ins, Rises]
  | y :: l, h, hr => by
    have hy := h y (by simp)
    have hl : ∀ z ∈ l, S z := fun z hz => h z (by simp [hz])
    have hr' := List.pairwise_cons.1 hr
    rw [ins]
    split
    · rename_i h1
      refine List.pairwise_cons.2 ⟨fun z hz => ?_, ins_rises g hx hl hr'.2⟩
      rcases ins_sub hz with rfl | hz
      · exact h1
      · exact hr'.1 z hz
    · split
      · exact hr
      · rename_i h1 h2
        have h3 : c x y < 0 := by have := g.anti x y hx hy; omega
        refine List.pairwise_cons.2 ⟨fun z hz => ?_, hr⟩
        rcases List.mem_cons.1 hz with rfl | hz
        · exact h3
        · exact g.lt x y z hx hy (hl z hz) h3 (hr'.1 z hz)
theorem foldl_ins (g : Good c S) (hE : ∀ y x, S y → S x → c y x = 0 → y = x) : ∀ (l acc : List α), (∀ x ∈ l, S x) → (∀ x ∈ acc, S x) → Rises c acc →
    Rises c (l.foldl (fun acc x => ins c x acc) acc) ∧ ∀ z, z ∈ l.foldl (fun acc x => ins c x acc) acc ↔ z ∈ l ∨ z ∈ acc
  | [], acc, _, _, hr => ⟨hr, fun z => by simp⟩
  | x :: l, acc, hl, ha, hr => by
    have hx := hl x (by simp)
    have h1 : ∀ z ∈ ins c x acc, S z := fun z hz => by
      rcases ins_sub hz with rfl | hz
      · exact hx
      · exact ha z hz
    obtain ⟨h2, h3⟩ := foldl_ins g hE l (ins c x acc) (fun z hz => hl z (by simp [hz])) h1 (ins_rises g hx ha hr)
    refine ⟨h2, fun z => ?_⟩
    rw [List.foldl_cons, h3 z]
    constructor
    · rintro (h | h)
      · exact .inl (by simp [h])
      · rcases ins_sub h with rfl | h
        · exact .inl (by simp)
        · exact .inr h
    · rintro (h | h)
      · rcases List.mem_cons.1 h with rfl | h
        · exact .inr (ins_new (fun y hy => hE y z hy hx) ha)
        · exact .inl h
      · exact .inr (ins_old h)
theorem uniq_rises (g : Good c S) (hE : ∀ y x, S y → S x → c y x = 0 → y = x) {l : List α} (h : ∀ x ∈ l, S x) : Rises c (uniq c l) :=
  (foldl_ins g hE l [] h (by simp) (by simp [Rises])).1
theorem mem_uniq (g : Good c S) (hE : ∀ y x, S y → S x → c y x = 0 → y = x) {l : List α} (h : ∀ x ∈ l, S x) {z : α} : z ∈ uniq c l ↔ z ∈ l := by
  have h2 := (foldl_ins g hE l [] h (by simp) (by simp [Rises])).2 z
  unfold uniq
  simpa using h2
/-- Two rows that rise and have the same members are the same. -/
theorem rises_unique (g : Good c S) : ∀ {l m : List α}, (∀ x ∈ l, S x) → (∀ x ∈ m, S x) → Rises c l → Rises c m → (∀ z, z ∈ l ↔ z ∈ m) → l = m
  | [], [], _, _, _, _, _ => rfl
  | [], y :: m, _, _, _, _, h => absurd ((h y).2 (by simp)) (by simp)
  | x :: l, [], _, _, _, _, h => absurd ((h x).1 (by simp)) (by simp)
  | x :: l, y :: m, hl, hm, hr, hs, h => by
    have hx := hl x (by simp)
    have hy := hm y (by simp)
    have hr' := List.pairwise_cons.1 hr
    have hs' := List.pairwise_cons.1 hs
    have e : x = y := by
      rcases List.mem_cons.1 ((h x).1 (by simp)) with e | h1
      · exact e
      · rcases List.mem_cons.1 ((h y).2 (by simp)) with e | h2
        · exact e.symm
        · have a := hs'.1 x h1
          have b := hr'.1 y h2
          have := g.anti x y hx hy
          omega
    subst e
    have hn : ∀ z, z ∈ l → z ≠ x := fun z hz e => by subst e; have := hr'.1 z hz; rw [g.refl hx] at this; omega
    have hn' : ∀ z, z ∈ m → z ≠ x := fun z hz e => by subst e; have := hs'.1 z hz; rw [g.refl hx] at this; omega
    rw [rises_unique g (fun z hz => hl z (by simp [hz])) (fun z hz => hm z (by simp [hz])) hr'.2 hs'.2 fun z => ?_]
    constructor
    · intro hz
      rcases List.mem_cons.1 ((h z).1 (by simp [hz])) with e | h1
      · exact absurd e (hn z hz)
      · exact h1
    · intro hz
      rcases List.mem_cons.1 ((h z).2 (by simp [hz])) with e | h1
      · exact absurd e (hn' z hz)
      · exact h1
/-! ### Of those that are the same, the first of each run -/
def ddAt (c : α → α → Int) (p : α) : List α → List α
  | [] => []
  | y :: l => if c y p = 0 then ddAt c y l else y :: ddAt c y l
def dd (c : α → α → Int) : List α → List α
  | [] => []
  | x :: l => x :: ddAt c x l
/-- No later one is less than an earlier one. -/
def Sorted (c : α → α → Int) (l : List α) : Prop := l.Pairwise fun x y => ¬ c y x < 0
theorem ddAt_sub {z : α} : ∀ {l : List α} {p : α}, z ∈ ddAt c p l → z ∈ l
  | [], _, h => by simp [ddAt] at h
  | y :: l, p, h => by
    rw [ddAt] at h
    split at h
    · exact List.mem_cons_of_mem _ (ddAt_sub h)
    · rcases List.mem_cons.1 h with h | h
      · simp [h]
      · exact List.mem_cons_of_mem _ (ddAt_sub h)
theorem ddAt_mem (hE : ∀ y x, S y → S x → c y x = 0 → y = x) {z : α} : ∀ {l : List α} {p : α}, S p → (∀ x ∈ l, S x) → z ∈ l → z = p ∨ z ∈ ddAt c p l
  | [], _, _, _, h => by simp at h
  | y :: l, p, hp, hl, h => by
    have hy := hl y (by simp)
    rw [ddAt]
    split
    · rename_i h1
      have e := hE y p hy hp h1
      subst e
      rcases List.mem_cons.1 h with h | h
      · exact .inl h
      · exact ddAt_mem hE hy (fun x hx => hl x (by simp [hx])) h
    · rcases List.mem_cons.1 h with h | h
      · exact .inr (by simp [h])
      · rcases ddAt_mem hE hy (fun x hx => hl x (by simp [hx])) h with h | h
        · exact .inr (by simp [h])
        · exact .inr (List.mem_cons_of_mem _ h)
theorem ddAt_rises (g : Good c S) : ∀ {l : List α} {p : α}, S p → (∀ x ∈ l, S x) → Sorted c (p :: l) → Rises c (p :: ddAt c p l)
  | [], p, _, _, _ => by simp [ddAt, Rises]
  | y :: l, p, hp, hl, hs => by
    have hy := hl y (by simp)
    have hl' : ∀ x ∈ l, S x := fun x hx => hl x (by simp [hx])
    have hs' := List.pairwise_cons.1 hs
    have hyl : Sorted c (y :: l) := hs'.2
    have hpl : Sorted c (p :: l) := List.pairwise_cons.2 ⟨fun z hz => hs'.1 z (by simp [hz]), (List.pairwise_cons.1 hyl).2⟩
    have hnp : ¬ c y p < 0 := hs'.1 y (by simp)
    rw [ddAt]
    split
    · rename_i h1
      have ih := ddAt_rises g hy hl' hyl
      have ih' := List.pairwise_cons.1 ih
      refine List.pairwise_cons.2 ⟨fun z hz => ?_, ih'.2⟩
      have h2 := ih'.1 z hz
      have hz' := hl' z (ddAt_sub hz)
      rw [g.eq y p z hy hp hz' h1] at h2
      exact h2
    · rename_i h1
      have ih := ddAt_rises g hy hl' hyl
      have h2 : c p y < 0 := by have := g.anti p y hp hy; omega
      refine List.pairwise_cons.2 ⟨fun z hz => ?_, ih⟩
      rcases List.mem_cons.1 hz with rfl | hz
      · exact h2
      · exact g.lt p y z hp hy (hl' z (ddAt_sub hz)) h2 ((List.pairwise_cons.1 ih).1 z hz)
/-- Sorted, and of those that are the same one: it is the row put in one by one. -/
theorem dd_uniq (g : Good c S) (hE : ∀ y x, S y → S x → c y x = 0 → y = x) {l m : List α} (hp : m.Perm l) (hs : Sorted c m) (hl : ∀ x ∈ l, S x) : dd c m = uniq c l := by
  have hm : ∀ x ∈ m, S x := fun x hx => hl x (hp.mem_iff.1 hx)
  refine rises_unique g (fun x hx => ?_) (fun x hx => hl x ((mem_uniq g hE hl).1 hx)) ?_ (uniq_rises g hE hl) fun z => ?_
  · cases m with
    | nil => simp [dd] at hx
    | cons y m =>
      rw [dd] at hx
      rcases List.mem_cons.1 hx with rfl | hx
      · exact hm x (by simp)
      · exact hm x (by simp [ddAt_sub hx])
  · cases m with
    | nil => simp [dd, Rises]
    | cons y m => exact ddAt_rises g (hm y (by simp)) (fun x hx => hm x (by simp [hx])) hs
  · rw [mem_uniq g hE hl, ← hp.mem_iff]
    cases m with
    | nil => simp [dd]
    | cons y m =>
      rw [dd]
      constructor
      · intro h
        rcases List.mem_cons.1 h with rfl | h
        · simp
        · simp [ddAt_sub h]
      · intro h
        rcases List.mem_cons.1 h with rfl | h
        · simp
        · rcases ddAt_mem hE (hm y (by simp)) (fun x hx => hm x (by simp [hx])) h with h | h
          · simp [h]
          · simp [h]
end
/-! ### Orders that are good -/
theorem good_int : Good cmpIv fun _ => True := by
  constructor
  · intro a b _ _; simp only [cmpIv, Lib.compareInt]; split <;> split <;> (try split) <;> (try split) <;> omega
  · intro a b d _ _ _ h; simp only [cmpIv, Lib.compareInt] at *
    have : a = b := by split at h <;> (try split at h) <;> omega
    rw [this]
  · intro a b d _ _ _ h k; simp only [cmpIv, Lib.compareInt] at *
    have h1 : a < b := by split at h <;> (try split at h) <;> omega
    have k1 : b < d := by split at k <;> (try split at k) <;> omega
    rw [if_pos (by omega)]; omega
theorem good_bool : Good cmpBv fun _ => True := by
  constructor
  · intro a b _ _; cases a <;> cases b <;> rfl
  · intro a b d _ _ _; cases a <;> cases b <;> cases d <;> decide
  · intro a b d _ _ _; cases a <;> cases b <;> cases d <;> decide
theorem Good.or {α : Type} {c d : α → α → Int} {S : α → Prop} (g : Good c S) (h : Good d S) : Good (fun a b => orI (c a b) (d a b)) S := by
  constructor
  · intro a b ha hb
    have h1 := g.anti a b ha hb
    have h2 := h.anti a b ha hb
    simp only [orI]
    split <;> split <;> omega
  · intro a b e ha hb he k
    simp only [orI] at *
    have k0 : c a b = 0 := by
      split at k
      · assumption
      · exact k
    rw [if_pos k0] at k
    rw [g.eq a b e ha hb he k0, h.eq a b e ha hb he k]
  · intro a b e ha hb he k l
    simp only [orI] at *
    by_cases k0 : c a b = 0
    · rw [if_pos k0] at k
      rw [g.eq a b e ha hb he k0]
      by_cases l0 : c b e = 0
      · rw [if_pos l0] at *
        exact h.lt a b e ha hb he k l
      · rw [if_neg l0] at *
        exact l
    · rw [if_neg k0] at k
      by_cases l0 : c b e = 0
      · rw [← g.eq' hb he ha l0, if_neg k0]; exact k
      · rw [if_neg l0] at l
        have := g.lt a b e ha hb he k l
        rw [if_neg (by omega)]; exact this
theorem Good.pull {α β : Type} {c : β → β → Int} {S : β → Prop} (g : Good c S) (f : α → β) : Good (fun a b => c (f a) (f b)) fun a => S (f a) :=
  ⟨fun _ _ ha hb => g.anti _ _ ha hb, fun _ _ _ ha hb hd => g.eq _ _ _ ha hb hd, fun _ _ _ ha hb hd => g.lt _ _ _ ha hb hd⟩
/-- Rows, item by item. -/
def lex {α : Type} (c : α → α → Int) : List α → List α → Int
  | [], [] => 0
  | [], _ :: _ => -1
  | _ :: _, [] => 1
  | x :: l, y :: m => orI (c x y) (lex c l m)
theorem orI_zero {a b : Int} : orI a b = 0 ↔ a = 0 ∧ b = 0 := by
  unfold orI
  split
  · exact ⟨fun h => ⟨by assumption, h⟩, fun h => h.2⟩
  · exact ⟨fun h => absurd h (by assumption), fun h => absurd h.1 (by assumption)⟩
theorem good_lex {α : Type} {c : α → α → Int} {S : α → Prop} (g : Good c S) : Good (lex c) fun l => ∀ x ∈ l, S x := by
  have hA : ∀ a b : List α, (∀ x ∈ a, S x) → (∀ x ∈ b, S x) → lex c b a = - lex c a b := by
    intro a
    induction a with
    | nil => intro b _ _; cases b <;> simp [lex]
    | cons x a ih =>
      intro b ha hb
      cases b with
      | nil => simp [lex]
      | cons y b =>
        have h1 := ih b (fun z hz => ha z (by simp [hz])) (fun z hz => hb z (by simp [hz]))
        have h2 := g.anti x y (ha x (by simp)) (hb y (by simp))
        simp only [lex, orI]
        split <;> split <;> omega
  refine ⟨hA, ?_, ?_⟩
  · intro a
    induction a with
    | nil => intro b d _ _ _ h; cases b with
      | nil => rfl
      | cons y b => simp [lex] at h
    | cons x a ih =>
      intro b d ha hb hd h
      cases b with
      | nil => simp [lex] at h
      | cons y b =>
        rw [lex, orI_zero] at h
        cases d with
        | nil => rfl
        | cons z d =>
          rw [lex, lex, g.eq x y z (ha x (by simp)) (hb y (by simp)) (hd z (by simp)) h.1,
            ih b d (fun z hz => ha z (by simp [hz])) (fun z hz => hb z (by simp [hz])) (fun z hz => hd z (by simp [hz])) h.2]
  · intro a
    induction a with
    | nil =>
      intro b d _ _ _ h k
      cases b with
      | nil => simp [lex] at h
      | cons y b => cases d with
        | nil => simp [lex] at k
        | cons z d => simp [lex]
    | cons x a ih =>
      intro b d ha hb hd h k
      cases b with
      | nil => simp [lex] at h
      | cons y b =>
        cases d with
        | nil => simp [lex] at k
        | cons z d =>
          have hx := ha x (by simp)
          have hy := hb y (by simp)
          have hz := hd z (by simp)
          rw [lex] at h k ⊢
          by_cases h0 : c x y = 0
          · rw [orI, if_pos h0] at h
            rw [g.eq x y z hx hy hz h0]
            by_cases k0 : c y z = 0
            · rw [orI, if_pos k0] at k ⊢
              exact ih b d (fun w hw => ha w (by simp [hw])) (fun w hw => hb w (by simp [hw])) (fun w hw => hd w (by simp [hw])) h k
            · rw [orI, if_neg k0] at k ⊢
              exact k
          · rw [orI, if_neg h0] at h
            by_cases k0 : c y z = 0
            · rw [orI, ← g.eq' hy hz hx k0, if_neg h0]; exact h
            · rw [orI, if_neg k0] at k
              have := g.lt x y z hx hy hz h k
              rw [orI, if_neg (by omega)]; exact this
def cmpU (x y : UInt8) : Int := if x < y then -1 else if y < x then 1 else 0
theorem cmpU_eq (x y : UInt8) : cmpU x y = cmpIv x.toNat y.toNat := by
  simp only [cmpU, cmpIv, Lib.compareInt, UInt8.lt_iff_toNat_lt]
  split <;> split <;> (try split) <;> (try split) <;> omega
theorem compareBytes_lex : ∀ l m : List UInt8, Lib.compareBytes l m = lex cmpU l m
  | [], [] => rfl
  | [], _ :: _ => rfl
  | _ :: _, [] => rfl
  | x :: l, y :: m => by
    rw [Lib.compareBytes, lex, compareBytes_lex l m]
    simp only [cmpU, orI]
    split <;> split <;> (try split) <;> simp_all
theorem good_u8 : Good cmpU fun _ => True := by
  have h := good_int.pull fun x : UInt8 => (x.toNat : Int)
  have e : cmpU = fun a b => cmpIv (a.toNat : Int) (b.toNat : Int) := by funext a b; exact cmpU_eq a b
  rw [e]; exact h
theorem good_text : Good cmpT fun _ => True := by
  have h := (good_lex good_u8).pull fun x : ByteArray => x.data.toList
  have e : cmpT = fun a b => lex cmpU a.data.toList b.data.toList := by funext a b; exact compareBytes_lex _ _
  rw [e]; exact h.mono fun a _ x _ => trivial
theorem cmpN_lex : ∀ l m : List ByteArray, cmpN l m = lex cmpT l m
  | [], [] => rfl
  | [], _ :: _ => rfl
  | _ :: _, [] => rfl
  | x :: l, y :: m => by rw [cmpN, lex, cmpN_lex l m]
theorem good_names : Good cmpN fun _ => True := by
  have e : cmpN = lex cmpT := by funext a b; exact cmpN_lex a b
  rw [e]; exact (good_lex good_text).mono fun a _ x _ => trivial
theorem ordL_lex : ∀ l m : List V, ordL l m = lex ord l m
  | [], [] => rfl
  | [], _ :: _ => rfl
  | _ :: _, [] => by rw [ordL_cons_nil]; rfl
  | x :: l, y :: m => by rw [ordL_cons, lex, ordL_lex l m]
theorem lex_zero {α : Type} {c : α → α → Int} {S : α → Prop} (hE : ∀ x y, S x → S y → c x y = 0 → x = y) : ∀ {l m : List α}, (∀ x ∈ l, S x) → (∀ x ∈ m, S x) → lex c l m = 0 → l = m
  | [], [], _, _, _ => rfl
  | [], _ :: _, _, _, h => by simp [lex] at h
  | _ :: _, [], _, _, h => by simp [lex] at h
  | x :: l, y :: m, hl, hm, h => by
    rw [lex, orI_zero] at h
    rw [hE x y (hl x (by simp)) (hm y (by simp)) h.1, lex_zero hE (fun z hz => hl z (by simp [hz])) (fun z hz => hm z (by simp [hz])) h.2]
theorem cmpI_zero {a b : Int} (h : cmpIv a b = 0) : a = b := by
  simp only [cmpIv, Lib.compareInt] at h
  split at h <;> (try split at h) <;> omega
theorem cmpT_zero {a b : ByteArray} (h : cmpT a b = 0) : a = b := by
  unfold cmpT at h
  rw [compareBytes_lex] at h
  have := lex_zero (c := cmpU) (S := fun _ => True) (fun x y _ _ h => by rw [cmpU_eq] at h; have := cmpI_zero h; exact UInt8.toNat_inj.1 (by omega)) (fun _ _ => trivial) (fun _ _ => trivial) h
  exact Go.WideShapes.bytes_inj this
theorem cmpN_zero {a b : List ByteArray} (h : cmpN a b = 0) : a = b := by
  rw [cmpN_lex] at h
  exact lex_zero (S := fun _ => True) (fun x y _ _ h => cmpT_zero h) (fun _ _ => trivial) (fun _ _ => trivial) h
theorem cmpB_zero {a b : Bool} (h : cmpBv a b = 0) : a = b := by cases a <;> cases b <;> simp [cmpBv] at * 
/-! ### The order of values is one -/
def bodyO (k : Int) (a b : V) : Int :=
  if k = 1 then cmpBv a.h.b b.h.b else if k = 2 then cmpIv a.h.n b.h.n else if k = 3 then cmpT a.h.s b.h.s else if k = 4 then orI (cmpT a.h.t b.h.t) (cmpT a.h.i b.h.i)
  else if k = 5 then ordL a.l b.l else if k = 6 then orI (cmpN a.ns b.ns) (ordL a.named b.named) else 0
theorem ord_body (a b : V) : ord a b = orI (cmpIv a.h.k b.h.k) (bodyO a.h.k a b) := by
  rw [ord_eq]
  by_cases hk : a.h.k = b.h.k
  · rw [if_pos hk, hk, show cmpIv b.h.k b.h.k = 0 by simp [cmpIv, Lib.compareInt]]
    rfl
  · rw [if_neg hk, orI, if_neg fun h => hk (cmpI_zero h)]
theorem good_ord_n (n : Nat) : Good ord fun v => dep v ≤ n := by
  induction n with
  | zero => exact ⟨fun _ _ ha _ => by rw [dep_v] at ha; omega, fun _ _ _ ha _ _ _ => by rw [dep_v] at ha; omega, fun _ _ _ ha _ _ _ _ => by rw [dep_v] at ha; omega⟩
  | succ n ih =>
    have hL : Good ordL fun l => ∀ x ∈ l, dep x ≤ n := by
      have e : ordL = lex ord := by funext a b; exact ordL_lex a b
      rw [e]; exact good_lex ih
    have hS : ∀ v, dep v ≤ n + 1 → ∀ x ∈ v.l, dep x ≤ n := fun v hv x hx => by have := dep_mem hx; rw [dep_v] at hv; omega
    have hB : ∀ k, Good (bodyO k) fun v => dep v ≤ n + 1 := fun k => by
      by_cases k1 : k = 1
      · subst k1; exact (good_bool.pull fun v : V => v.h.b).mono fun _ _ => trivial
      by_cases k2 : k = 2
      · subst k2; exact (good_int.pull fun v : V => v.h.n).mono fun _ _ => trivial
      by_cases k3 : k = 3
      · subst k3; exact (good_text.pull fun v : V => v.h.s).mono fun _ _ => trivial
      by_cases k4 : k = 4
      · subst k4; exact ((good_text.pull fun v : V => v.h.t).or (good_text.pull fun v : V => v.h.i)).mono fun _ _ => trivial
      by_cases k5 : k = 5
      · subst k5; exact (hL.pull fun v : V => v.l).mono hS
      by_cases k6 : k = 6
      · subst k6
        have h1 : Good (fun a b : V => cmpN a.ns b.ns) fun v => dep v ≤ n + 1 := (good_names.pull fun v : V => v.ns).mono fun _ _ => trivial
        have h2 : Good (fun a b : V => ordL a.named b.named) fun v => dep v ≤ n + 1 := (hL.pull fun v : V => v.named).mono fun v hv x hx => hS v hv x (List.mem_of_mem_take hx)
        exact h1.or h2
      · have e : bodyO k = fun _ _ => 0 := by funext a b; simp [bodyO, k1, k2, k3, k4, k5, k6]
        rw [e]
        exact ⟨fun _ _ _ _ => rfl, fun _ _ _ _ _ _ _ => rfl, fun _ _ _ _ _ _ h _ => absurd h (by omega)⟩
    have key : ∀ a b : V, ord a b = orI (cmpIv a.h.k b.h.k) (bodyO a.h.k a b) := ord_body
    constructor
    · intro a b ha hb
      have h1 := good_int.anti a.h.k b.h.k trivial trivial
      rw [key, key]
      simp only [orI]
      by_cases h0 : cmpIv a.h.k b.h.k = 0
      · rw [if_pos h0, if_pos (by omega), cmpI_zero h0]
        exact (hB b.h.k).anti a b ha hb
      · rw [if_neg h0, if_neg (by omega)]; exact h1
    · intro a b d ha hb hd h
      rw [key, orI_zero] at h
      obtain ⟨h0, h1⟩ := h
      rw [key, key]
      rw [cmpI_zero h0] at h1 ⊢
      rw [(hB b.h.k).eq a b d ha hb hd h1]
    · intro a b d ha hb hd h k
      rw [key] at h k ⊢
      by_cases h0 : cmpIv a.h.k b.h.k = 0
      · rw [orI, if_pos h0] at h
        rw [cmpI_zero h0] at h ⊢
        by_cases k0 : cmpIv b.h.k d.h.k = 0
        · rw [orI, if_pos k0] at k ⊢
          exact (hB b.h.k).lt a b d ha hb hd h k
        · rw [orI, if_neg k0] at k ⊢
          exact k
      · rw [orI, if_neg h0] at h
        by_cases k0 : cmpIv b.h.k d.h.k = 0
        · rw [← cmpI_zero k0, orI, if_neg h0]; exact h
        · rw [orI, if_neg k0] at k
          have := good_int.lt _ _ _ trivial trivial trivial h k
          rw [orI, if_neg (by omega)]; exact this
theorem good_ord : Good ord fun _ => True := by
  constructor
  · intro a b _ _; exact (good_ord_n (max (dep a) (dep b))).anti a b (Nat.le_max_left _ _) (Nat.le_max_right _ _)
  · intro a b d _ _ _; exact (good_ord_n (max (max (dep a) (dep b)) (dep d))).eq a b d (by omega) (by omega) (by omega)
  · intro a b d _ _ _; exact (good_ord_n (max (max (dep a) (dep b)) (dep d))).lt a b d (by omega) (by omega) (by omega)
end Go.Proofs.YtnenjgngahipdaaGreat
namespace Go.Proofs.YtnenjgngahipdaaGreat
/-- An entity's name: two texts. -/
structure Us where
  t : ByteArray
  i : ByteArray
  ht : t.size ≤ maxLen
  hi : i.size ≤ maxLen
theorem Us.ext' : ∀ {a b : Us}, a.t = b.t → a.i = b.i → a = b
  | ⟨_, _, _, _⟩, ⟨_, _, _, _⟩, rfl, rfl => rfl
instance : DecidableEq Us := fun a b =>
  if h : a.t = b.t ∧ a.i = b.i then .isTrue (Us.ext' h.1 h.2) else .isFalse fun e => h (by rw [e]; exact ⟨rfl, rfl⟩)
def cmpUs (a b : Us) : Int := orI (cmpT a.t b.t) (cmpT a.i b.i)
theorem good_us : Good cmpUs fun _ => True := (good_text.pull Us.t).or (good_text.pull Us.i)
theorem us_zero {a b : Us} (h : cmpUs a b = 0) : a = b := by
  have := orI_zero.1 h
  exact Us.ext' (cmpT_zero this.1) (cmpT_zero this.2)
/-- A row of names as it must be: rising, each once. -/
def canU (l : List Us) : List Us := uniq cmpUs l
theorem canU_rises (l : List Us) : Rises cmpUs (canU l) := uniq_rises good_us (fun _ _ _ _ h => us_zero h) (fun _ _ => trivial)
/-- An entity. -/
structure En where
  u : Us
  ps : List Us
  a : V
def namesE (l : List En) : List Us := l.map (·.u)
def fstE (l : List En) (x : Us) : Option En := l.find? fun e => decide (e.u = x)
/-- The parents under a name: those of the first entity with it. -/
def PE (l : List En) (x : Us) : List Us := ((fstE l x).map (·.ps)).getD []
def stepE (l : List En) (x y : Us) : Prop := x ∈ namesE l ∧ y ∈ PE l x ∧ y ∈ namesE l
def RoundE (l : List En) : Prop := ∃ x, Way (stepE l) x x
theorem fst_some {l : List En} {x : Us} : (fstE l x).isSome = true ↔ x ∈ namesE l := by
  unfold fstE namesE
  rw [List.find?_isSome]
  simp
/-- Where no two have one name, each is the first one with its name. -/
theorem fst_of {l : List En} (hn : (namesE l).Nodup) {e : En} (he : e ∈ l) : fstE l e.u = some e := by
  unfold fstE
  induction l with
  | nil => simp at he
  | cons x r ih =>
    have hn' : x.u ∉ namesE r ∧ (namesE r).Nodup := List.nodup_cons.1 hn
    rw [List.find?_cons]
    by_cases hx : x.u = e.u
    · rw [decide_eq_true hx]
      rcases List.mem_cons.1 he with rfl | he
      · rfl
      · exact absurd (List.mem_map.2 ⟨e, he, rfl⟩) (hx ▸ hn'.1)
    · rw [decide_eq_false hx]
      rcases List.mem_cons.1 he with rfl | he
      · exact absurd rfl hx
      · exact ih hn'.2 he
section
variable (c : V → Int × V)
/-- An entity's own error. -/
def errE (names : List Us) (e : En) : Int := if e.a.h.k ≠ 6 then 1 else if (c e.a).1 ≠ 0 then (c e.a).1 else if e.ps.all (fun p => decide (p ∈ names)) = true then 0 else 20
def oneE (e : En) : En := ⟨e.u, canU e.ps, (c e.a).2⟩
/-- The first error. -/
def errL (names : List Us) : List En → Int
  | [] => 0
  | e :: r => if errE c names e = 0 then errL names r else errE c names e
def cmpE (a b : En) : Int := cmpUs a.u b.u
theorem good_en : Good cmpE fun _ => True := good_us.pull En.u
/-- Entities as they must be. -/
noncomputable def canE (l : List En) : Int × List En :=
  if 4096 < l.length then (12, [])
  else if (namesE l).Nodup then
    (if errL c (namesE l) l = 0 then (open Classical in if RoundE l then (21, []) else (0, uniq cmpE (l.map (oneE c)))) else (errL c (namesE l) l, []))
  else (13, [])
theorem errL_zero {names : List Us} : ∀ {l : List En}, errL c names l = 0 ↔ ∀ e ∈ l, errE c names e = 0
  | [] => by simp [errL]
  | e :: r => by
    rw [errL]
    by_cases h : errE c names e = 0
    · rw [if_pos h, errL_zero]; simp [h]
    · rw [if_neg h]; simp [h]
/-- The first error of a row, where those ahead of a place have none. -/
theorem errL_at {names : List Us} : ∀ {l : List En} {i : Nat} (hi : i < l.length), (∀ e ∈ l.take i, errE c names e = 0) → errE c names l[i] ≠ 0 → errL c names l = errE c names l[i]
  | e :: r, 0, _, _, h => by
    have h' : errE c names e ≠ 0 := h
    rw [errL, if_neg h']; rfl
  | e :: r, i + 1, hi, h0, h => by
    have h1 : errE c names e = 0 := h0 e (by rw [List.take_succ_cons]; simp)
    rw [errL, if_pos h1]
    exact errL_at (by simpa using hi) (fun x hx => h0 x (by rw [List.take_succ_cons]; simp [hx])) (by simpa using h)
end
end Go.Proofs.YtnenjgngahipdaaGreat
namespace Go.Proofs.YtnenjgngahipdaaGreat
open Go.RowKit Go.Maps
def usV (u : Us) : Value := .agg #[.string u.t, .string u.i]
def usL (u : Us) : Lit := .string (keyBytes [.string u.t.data.toList, .string u.i.data.toList])
theorem laidOutE : laidOutB Tryz.prog = true := by kernel_rfl
theorem rowUs : 23 < Tryz.prog.types.size := of_decide_eq_true (by kernel_rfl)
theorem kt2Us : Tryz.prog.keyTypeAt 2 23 = true := by kernel_rfl
theorem lawUs : WideMaps.KeyLaw Tryz.prog 23 := deep_law_laid laidOutE (m := 2) (by omega) rowUs kt2Us (by rw [Tryz.underlying23])
theorem keyedUs : Keyed Tryz.prog 23 := Keyed.of_law lawUs
theorem cellsUs : Tryz.prog.cellsOf 23 = 2 := by kernel_rfl
theorem ktUs : Tryz.prog.keyType 23 = true := by kernel_rfl
theorem szP : ∃ D, Tryz.prog.types.size + 1 = D + 2 := ⟨Tryz.prog.types.size - 1, by have := rowUs; omega⟩
theorem lits_text (D : Nat) (s : ByteArray) (h : s.size ≤ maxLen) : Tryz.prog.keyLits (D + 1) 9 [.string s] = some [.string s.data.toList] := by
  unfold Program.keyLits
  rw [Tryz.underlying9]
  simp [h]
theorem usOk (u : Us) : keyOf Tryz.prog 23 (usV u) = some (usL u) := by
  have hf : (usV u).formed Tryz.prog 23 = true := by simp [usV, Value.formed, Tryz.underlying23, cellsUs]
  obtain ⟨D, hD⟩ := szP
  have hl : Tryz.prog.keyLits (Tryz.prog.types.size + 1) 23 [.string u.t, .string u.i] = some [.string u.t.data.toList, .string u.i.data.toList] := by
    have h1 := lits_text D u.t u.ht
    have h2 := lits_text D u.i u.hi
    have hc : Tryz.prog.cellsOf 9 = 1 := by kernel_rfl
    rw [hD]
    unfold Program.keyLits
    rw [Tryz.underlying23]
    simp [cellsUs, hc, h1, h2]
  unfold keyOf
  rw [Tryz.underlying23]
  simp only [ktUs, hf, Bool.and_self, if_true]
  show ((Tryz.prog.keyLits (Tryz.prog.types.size + 1) 23 [.string u.t, .string u.i]).map fun ls => Lit.string (keyBytes ls)) = _
  rw [hl]
  rfl
theorem usInj (a b : Us) (h : usV a = usV b) : a = b := by
  unfold usV at h
  injection h with h
  have h1 : ([.string a.t, .string a.i] : List Value) = [.string b.t, .string b.i] := by
    have := congrArg Array.toList h
    exact this
  injection h1 with e1 e2
  injection e2 with e2 _
  injection e1 with e1
  injection e2 with e2
  exact Us.ext' e1 e2
def keyUs : KeyF Tryz.prog 23 Us := ⟨usV, usL, usOk, usInj⟩
end Go.Proofs.YtnenjgngahipdaaGreat
