/- Values as trees: their parts, their depth, their order, and how they must be, by definition; facts on these that stand on nothing. No condition. -/
import Derived.Test.YtdblkjcimegoeaaLow
import Derived.Lib.Small
import Derived.Shelf.Small.Strs
namespace Go.Proofs.Ytdblkjcimegoeaa
open Go.RowKit
/-- What a value has but its items and names. -/
structure Hd where
  k : Int
  b : Bool
  n : Int
  s : ByteArray
  t : ByteArray
  i : ByteArray
inductive V where
  | mk (h : Hd) (l : List V) (ns : List ByteArray)
namespace V
def h : V → Hd | .mk h _ _ => h
def l : V → List V | .mk _ l _ => l
def ns : V → List ByteArray | .mk _ _ ns => ns
end V
theorem V.eta : ∀ v : V, v = .mk v.h v.l v.ns | .mk _ _ _ => rfl
mutual
/-- How deep the items go, of whatever kind. -/
def dep : V → Nat
  | .mk _ l _ => depL l + 1
def depL : List V → Nat
  | [] => 0
  | x :: l => max (dep x) (depL l)
end
theorem dep_mem {x : V} {l : List V} (h : x ∈ l) : dep x ≤ depL l := by
  induction l with
  | nil => simp at h
  | cons y l ih =>
    rw [depL]
    rcases List.mem_cons.1 h with rfl | h
    · exact Nat.le_max_left _ _
    · exact Nat.le_trans (ih h) (Nat.le_max_right _ _)
theorem dep_v (v : V) : dep v = depL v.l + 1 := by cases v; rw [dep]; rfl
theorem dep_item {v : V} {j : Nat} (hj : j < v.l.length) : dep v.l[j] < dep v := by
  have := dep_mem (List.getElem_mem hj)
  rw [dep_v v]; omega
theorem depL_le {l : List V} {n : Nat} (h : ∀ x ∈ l, dep x ≤ n) : depL l ≤ n := by
  induction l with
  | nil => rw [depL]; omega
  | cons y l ih =>
    rw [depL]
    have h1 := h y (by simp)
    have h2 := ih fun x hx => h x (by simp [hx])
    omega
mutual
/-- All rows are short: no more than 70000. -/
def Sm : V → Prop
  | .mk _ l ns => l.length ≤ 70000 ∧ ns.length ≤ 70000 ∧ SmL l
def SmL : List V → Prop
  | [] => True
  | x :: l => Sm x ∧ SmL l
end
theorem smL_iff {l : List V} : SmL l ↔ ∀ x ∈ l, Sm x := by
  induction l with
  | nil => simp [SmL]
  | cons y l ih => simp [SmL, ih]
theorem sm_v (v : V) : Sm v ↔ v.l.length ≤ 70000 ∧ v.ns.length ≤ 70000 ∧ ∀ x ∈ v.l, Sm x := by
  cases v; rw [Sm, smL_iff]; rfl
/-! ### The order -/
def cmpI (a b : Int) : Int := Lib.compareInt a b
def cmpT (a b : ByteArray) : Int := Lib.compareBytes a.data.toList b.data.toList
def cmpB (a b : Bool) : Int := if a = b then 0 else if b then -1 else 1
def orI (a b : Int) : Int := if a = 0 then b else a
/-- The order of rows of names. -/
def cmpN : List ByteArray → List ByteArray → Int
  | [], [] => 0
  | [], _ :: _ => -1
  | _ :: _, [] => 1
  | x :: l, y :: m => orI (cmpT x y) (cmpN l m)
mutual
def ord : V → V → Int
  | .mk h l ns, v =>
    if h.k = v.h.k then
      if h.k = 1 then cmpB h.b v.h.b
      else if h.k = 2 then cmpI h.n v.h.n
      else if h.k = 3 then cmpT h.s v.h.s
      else if h.k = 4 then orI (cmpT h.t v.h.t) (cmpT h.i v.h.i)
      else if h.k = 5 then ordN l l.length v.l
      else if h.k = 6 then orI (cmpN ns v.ns) (ordN l (min ns.length l.length) (v.l.take (min v.ns.length v.l.length)))
      else 0
    else cmpI h.k v.h.k
/-- The order of rows: the first n of the one, and the other. -/
def ordN : List V → Nat → List V → Int
  | [], _, [] => 0
  | [], _, _ :: _ => -1
  | _ :: _, 0, [] => 0
  | _ :: _, 0, _ :: _ => -1
  | _ :: _, _ + 1, [] => 1
  | x :: l, n + 1, y :: m => orI (ord x y) (ordN l n m)
end
def ordL (l m : List V) : Int := ordN l l.length m
theorem ordL_nil : ordL [] [] = 0 := rfl
theorem ordL_nil_cons (y : V) (m : List V) : ordL [] (y :: m) = -1 := rfl
theorem ordL_cons_nil (x : V) (l : List V) : ordL (x :: l) [] = 1 := by unfold ordL; rw [List.length_cons, ordN]
theorem ordL_cons (x y : V) (l m : List V) : ordL (x :: l) (y :: m) = orI (ord x y) (ordL l m) := by unfold ordL; rw [List.length_cons, ordN]
theorem ordN_take : ∀ (l : List V) (n : Nat) (m : List V), n ≤ l.length → ordN l n m = ordL (l.take n) m
  | [], n, m, h => by simp at h; subst h; rfl
  | x :: l, 0, [], _ => by rw [ordN]; rfl
  | x :: l, 0, _ :: _, _ => by rw [ordN]; rfl
  | x :: l, n + 1, [], _ => by rw [ordN, List.take_succ_cons, ordL_cons_nil]
  | x :: l, n + 1, y :: m, h => by rw [ordN, List.take_succ_cons, ordL_cons, ordN_take l n m (by simpa using h)]
/-- A record's items that have a name. -/
def V.named (v : V) : List V := v.l.take (min v.ns.length v.l.length)
theorem ord_eq (a b : V) : ord a b =
    if a.h.k = b.h.k then
      if a.h.k = 1 then cmpB a.h.b b.h.b
      else if a.h.k = 2 then cmpI a.h.n b.h.n
      else if a.h.k = 3 then cmpT a.h.s b.h.s
      else if a.h.k = 4 then orI (cmpT a.h.t b.h.t) (cmpT a.h.i b.h.i)
      else if a.h.k = 5 then ordL a.l b.l
      else if a.h.k = 6 then orI (cmpN a.ns b.ns) (ordL a.named b.named)
      else 0
    else cmpI a.h.k b.h.k := by
  cases a with
  | mk h l ns =>
    rw [ord]
    simp only [V.h, V.l, V.ns, V.named]
    rw [ordN_take _ _ _ (Nat.min_le_right _ _)]
    rfl
end Go.Proofs.Ytdblkjcimegoeaa
