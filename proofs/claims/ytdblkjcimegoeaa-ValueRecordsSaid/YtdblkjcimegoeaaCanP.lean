/- Values as they must be, by definition; facts on these that stand on nothing. No condition. -/
import Derived.Test.YtdblkjcimegoeaaSortP
import Derived.Test.YtdblkjcimegoeaaDeepW
namespace Go.Proofs.Ytdblkjcimegoeaa
def cmpP (p q : ByteArray × V) : Int := cmpT p.1 q.1
theorem good_pair : Good cmpP fun _ => True := good_text.pull fun p : ByteArray × V => p.1
def recC (ns : List ByteArray) (m : List V) : Int × V :=
  if ns.Nodup then (0, .mk { hd0 with k := 6 } ((uniq cmpP (ns.zip m)).map (·.2)) ((uniq cmpP (ns.zip m)).map (·.1))) else (13, V0)
/-- No more than so many. -/
def limL (n : Nat) (p : Int × List V) : Int × List V := if p.1 = 0 then (if 4096 < n then (12, []) else p) else p
mutual
/-- A value as it must be: an error's number, or 0 and the value. -/
def can : V → Int × V
  | .mk h l ns =>
    if h.k = 1 then (0, .mk { hd0 with k := 1, b := h.b } [] [])
    else if h.k = 2 then (0, .mk { hd0 with k := 2, n := h.n } [] [])
    else if h.k = 3 then (0, .mk { hd0 with k := 3, s := h.s } [] [])
    else if h.k = 4 then (0, .mk { hd0 with k := 4, t := h.t, i := h.i } [] [])
    else if h.k = 5 then if (limL l.length (canK l)).1 = 0 then (0, .mk { hd0 with k := 5 } (uniq ord (limL l.length (canK l)).2) []) else ((limL l.length (canK l)).1, V0)
    else if h.k = 6 then if ns.length = l.length then (if (limL l.length (canK l)).1 = 0 then recC ns (limL l.length (canK l)).2 else ((limL l.length (canK l)).1, V0)) else (1, V0)
    else (1, V0)
/-- Items as they must be, up to the first error. -/
def canK : List V → Int × List V
  | [] => (0, [])
  | x :: l => if (can x).1 = 0 then (if (canK l).1 = 0 then (0, (can x).2 :: (canK l).2) else ((canK l).1, [])) else ((can x).1, [])
end
/-- Items as they must be, up to the first error; how many they are is asked last. -/
def canL (l : List V) : Int × List V := limL l.length (canK l)
theorem can_v (v : V) : can v =
    if v.h.k = 1 then (0, .mk { hd0 with k := 1, b := v.h.b } [] [])
    else if v.h.k = 2 then (0, .mk { hd0 with k := 2, n := v.h.n } [] [])
    else if v.h.k = 3 then (0, .mk { hd0 with k := 3, s := v.h.s } [] [])
    else if v.h.k = 4 then (0, .mk { hd0 with k := 4, t := v.h.t, i := v.h.i } [] [])
    else if v.h.k = 5 then if (canL v.l).1 = 0 then (0, .mk { hd0 with k := 5 } (uniq ord (canL v.l).2) []) else ((canL v.l).1, V0)
    else if v.h.k = 6 then if v.ns.length = v.l.length then (if (canL v.l).1 = 0 then recC v.ns (canL v.l).2 else ((canL v.l).1, V0)) else (1, V0)
    else (1, V0) := by cases v; rw [can]; rfl
theorem canK_ok : ∀ {l : List V}, (canK l).1 = 0 → (∀ x ∈ l, (can x).1 = 0) ∧ (canK l).2 = l.map fun x => (can x).2
  | [], _ => by simp [canK]
  | x :: l, h => by
    rw [canK] at h ⊢
    by_cases h1 : (can x).1 = 0
    · rw [if_pos h1] at h ⊢
      by_cases h2 : (canK l).1 = 0
      · rw [if_pos h2]
        obtain ⟨h3, h4⟩ := canK_ok h2
        exact ⟨fun y hy => by
          rcases List.mem_cons.1 hy with rfl | hy
          · exact h1
          · exact h3 y hy, by rw [List.map_cons, h4]⟩
      · rw [if_neg h2] at h; exact absurd h h2
    · rw [if_neg h1] at h; exact absurd h h1
theorem canK_of : ∀ {l : List V}, (∀ x ∈ l, (can x).1 = 0) → canK l = (0, l.map fun x => (can x).2)
  | [], _ => by simp [canK]
  | x :: l, h => by
    rw [canK, if_pos (h x (by simp)), canK_of fun y hy => h y (by simp [hy])]
    rfl
theorem canL_eq {l : List V} (h : (canL l).1 = 0) : (canK l).1 = 0 ∧ canL l = canK l ∧ l.length ≤ 4096 := by
  unfold canL limL at h ⊢
  by_cases h1 : (canK l).1 = 0
  · rw [if_pos h1] at h ⊢
    by_cases h2 : 4096 < l.length
    · rw [if_pos h2] at h; simp at h
    · rw [if_neg h2]; exact ⟨h1, rfl, by omega⟩
  · rw [if_neg h1] at h; exact absurd h h1
theorem canL_ok {l : List V} (h : (canL l).1 = 0) : (∀ x ∈ l, (can x).1 = 0) ∧ (canL l).2 = l.map fun x => (can x).2 := by
  obtain ⟨h1, h2, -⟩ := canL_eq h
  rw [h2]; exact canK_ok h1
theorem canL_of {l : List V} (hn : l.length ≤ 4096) (h : ∀ x ∈ l, (can x).1 = 0) : canL l = (0, l.map fun x => (can x).2) := by
  unfold canL limL
  rw [canK_of h, if_pos rfl, if_neg (by omega)]
theorem canL_long {l : List V} (hn : 4096 < l.length) (h : ∀ x ∈ l, (can x).1 = 0) : canL l = (12, []) := by
  unfold canL limL
  rw [canK_of h, if_pos rfl, if_pos hn]
theorem canL_len {l : List V} (h : (canL l).1 = 0) : (canL l).2.length = l.length := by rw [(canL_ok h).2, List.length_map]
theorem canL_le {l : List V} (h : (canL l).1 = 0) : l.length ≤ 4096 := (canL_eq h).2.2
mutual
/-- Only what a kind has. -/
def Cn : V → Prop
  | .mk h l ns => (h = { hd0 with k := 1, b := h.b } ∧ l = [] ∧ ns = []) ∨ (h = { hd0 with k := 2, n := h.n } ∧ l = [] ∧ ns = []) ∨ (h = { hd0 with k := 3, s := h.s } ∧ l = [] ∧ ns = []) ∨
      (h = { hd0 with k := 4, t := h.t, i := h.i } ∧ l = [] ∧ ns = []) ∨ (h = { hd0 with k := 5 } ∧ ns = [] ∧ CnL l) ∨ (h = { hd0 with k := 6 } ∧ ns.length = l.length ∧ CnL l)
def CnL : List V → Prop
  | [] => True
  | x :: l => Cn x ∧ CnL l
end
theorem cnL_iff {l : List V} : CnL l ↔ ∀ x ∈ l, Cn x := by
  induction l with
  | nil => simp [CnL]
  | cons y l ih => simp [CnL, ih]
theorem cn_v {v : V} : Cn v ↔ (v.h = { hd0 with k := 1, b := v.h.b } ∧ v.l = [] ∧ v.ns = []) ∨ (v.h = { hd0 with k := 2, n := v.h.n } ∧ v.l = [] ∧ v.ns = []) ∨ (v.h = { hd0 with k := 3, s := v.h.s } ∧ v.l = [] ∧ v.ns = []) ∨
      (v.h = { hd0 with k := 4, t := v.h.t, i := v.h.i } ∧ v.l = [] ∧ v.ns = []) ∨ (v.h = { hd0 with k := 5 } ∧ v.ns = [] ∧ ∀ x ∈ v.l, Cn x) ∨ (v.h = { hd0 with k := 6 } ∧ v.ns.length = v.l.length ∧ ∀ x ∈ v.l, Cn x) := by
  cases v; rw [Cn, cnL_iff]; rfl
theorem cn_named {v : V} (h : v.ns.length = v.l.length) : v.named = v.l := by unfold V.named; rw [h, Nat.min_self, List.take_length]
theorem v_ext {a b : V} (h1 : a.h = b.h) (h2 : a.l = b.l) (h3 : a.ns = b.ns) : a = b := by rw [a.eta, b.eta, h1, h2, h3]
theorem kd {h : Hd} {k : Int} {b : Bool} {n : Int} {s t i : ByteArray} (e : h = ⟨k, b, n, s, t, i⟩) : h.k = k := by rw [e]
/-- Values with only what a kind has, that are the same, are equal. -/
theorem ord_zero_n (n : Nat) : ∀ a b : V, dep a ≤ n → Cn a → Cn b → ord a b = 0 → a = b := by
  induction n with
  | zero => intro a b h; rw [dep_v] at h; omega
  | succ n ih =>
    intro a b hd ha hb h
    rw [ord_body, orI_zero] at h
    obtain ⟨h0, h1⟩ := h
    have hk := cmpI_zero h0
    have hL : (∀ x ∈ a.l, Cn x) → (∀ x ∈ b.l, Cn x) → ordL a.l b.l = 0 → a.l = b.l := fun h2 h3 h4 => by
      rw [ordL_lex] at h4
      have hS : ∀ x ∈ a.l, Cn x ∧ dep x ≤ n := fun x hx => ⟨h2 x hx, by have := dep_mem hx; rw [dep_v] at hd; omega⟩
      have : ∀ (l m : List V), (∀ x ∈ l, Cn x ∧ dep x ≤ n) → (∀ x ∈ m, Cn x) → lex ord l m = 0 → l = m := by
        intro l
        induction l with
        | nil => intro m _ _ h; cases m with
          | nil => rfl
          | cons y m => simp [lex] at h
        | cons x l ihl =>
          intro m hl hm h
          cases m with
          | nil => simp [lex] at h
          | cons y m =>
            rw [lex, orI_zero] at h
            rw [ih x y (hl x (by simp)).2 (hl x (by simp)).1 (hm y (by simp)) h.1, ihl m (fun z hz => hl z (by simp [hz])) (fun z hz => hm z (by simp [hz])) h.2]
      exact this _ _ hS h3 h4
    rw [cn_v] at ha hb
    rcases ha with ⟨ea, la, na⟩ | ⟨ea, la, na⟩ | ⟨ea, la, na⟩ | ⟨ea, la, na⟩ | ⟨ea, na, la⟩ | ⟨ea, na, la⟩ <;>
    rcases hb with ⟨eb, lb, nb⟩ | ⟨eb, lb, nb⟩ | ⟨eb, lb, nb⟩ | ⟨eb, lb, nb⟩ | ⟨eb, nb, lb⟩ | ⟨eb, nb, lb⟩ <;>
    have ka := kd ea <;> have kb := kd eb <;> (first | (exfalso; omega) | skip)
    · refine v_ext ?_ (la.trans lb.symm) (na.trans nb.symm)
      rw [ka] at h1
      have : a.h.b = b.h.b := cmpB_zero h1
      rw [ea, eb, this]
    · refine v_ext ?_ (la.trans lb.symm) (na.trans nb.symm)
      rw [ka] at h1
      have : a.h.n = b.h.n := cmpI_zero h1
      rw [ea, eb, this]
    · refine v_ext ?_ (la.trans lb.symm) (na.trans nb.symm)
      rw [ka] at h1
      have : a.h.s = b.h.s := cmpT_zero h1
      rw [ea, eb, this]
    · refine v_ext ?_ (la.trans lb.symm) (na.trans nb.symm)
      rw [ka] at h1
      have h2 : orI (cmpT a.h.t b.h.t) (cmpT a.h.i b.h.i) = 0 := h1
      rw [orI_zero] at h2
      rw [ea, eb, cmpT_zero h2.1, cmpT_zero h2.2]
    · rw [ka] at h1
      exact v_ext (ea.trans eb.symm) (hL la lb h1) (na.trans nb.symm)
    · rw [ka] at h1
      have h2 : orI (cmpN a.ns b.ns) (ordL a.named b.named) = 0 := h1
      rw [orI_zero, cn_named na, cn_named nb] at h2
      exact v_ext (ea.trans eb.symm) (hL la lb h2.2) (cmpN_zero h2.1)
theorem ord_zero {a b : V} (ha : Cn a) (hb : Cn b) (h : ord a b = 0) : a = b := ord_zero_n (dep a) a b (Nat.le_refl _) ha hb h
theorem good_cn : Good ord Cn := good_ord.mono fun _ _ => trivial
theorem mem_zip_snd {ns : List ByteArray} {m : List V} {p : ByteArray × V} (h : p ∈ ns.zip m) : p.2 ∈ m := (List.of_mem_zip h).2
theorem uniq_sub {α : Type} {c : α → α → Int} {z : α} : ∀ {l : List α}, z ∈ uniq c l → z ∈ l := by
  have gen : ∀ (l acc : List α), z ∈ l.foldl (fun acc x => ins c x acc) acc → z ∈ l ∨ z ∈ acc := by
    intro l
    induction l with
    | nil => intro acc h; exact .inr h
    | cons x l ih =>
      intro acc h
      rcases ih _ h with h | h
      · exact .inl (by simp [h])
      · rcases ins_sub h with rfl | h
        · exact .inl (by simp)
        · exact .inr h
  intro l h
  rcases gen l [] h with h | h
  · exact h
  · simp at h
theorem can_cn_n (n : Nat) : ∀ v : V, dep v ≤ n → (can v).1 = 0 → Cn (can v).2 := by
  induction n with
  | zero => intro v h; rw [dep_v] at h; omega
  | succ n ih =>
    intro v hd h
    have hI : (canL v.l).1 = 0 → ∀ x ∈ (canL v.l).2, Cn x := fun h0 x hx => by
      obtain ⟨h1, h2⟩ := canL_ok h0
      rw [h2] at hx
      obtain ⟨y, hy, rfl⟩ := List.mem_map.1 hx
      exact ih y (by have := dep_mem hy; rw [dep_v] at hd; omega) (h1 y hy)
    rw [can_v] at h ⊢
    by_cases k1 : v.h.k = 1
    · rw [if_pos k1]; rw [cn_v]; exact .inl ⟨rfl, rfl, rfl⟩
    rw [if_neg k1] at h ⊢
    by_cases k2 : v.h.k = 2
    · rw [if_pos k2]; rw [cn_v]; exact .inr (.inl ⟨rfl, rfl, rfl⟩)
    rw [if_neg k2] at h ⊢
    by_cases k3 : v.h.k = 3
    · rw [if_pos k3]; rw [cn_v]; exact .inr (.inr (.inl ⟨rfl, rfl, rfl⟩))
    rw [if_neg k3] at h ⊢
    by_cases k4 : v.h.k = 4
    · rw [if_pos k4]; rw [cn_v]; exact .inr (.inr (.inr (.inl ⟨rfl, rfl, rfl⟩)))
    rw [if_neg k4] at h ⊢
    by_cases k5 : v.h.k = 5
    · rw [if_pos k5] at h ⊢
      by_cases h0 : (canL v.l).1 = 0
      · rw [if_pos h0]
        rw [cn_v]
        exact .inr (.inr (.inr (.inr (.inl ⟨rfl, rfl, fun x hx => hI h0 x (uniq_sub hx)⟩))))
      · rw [if_neg h0] at h; exact absurd h h0
    rw [if_neg k5] at h ⊢
    by_cases k6 : v.h.k = 6
    · rw [if_pos k6] at h ⊢
      by_cases hn : v.ns.length = v.l.length
      · rw [if_pos hn] at h ⊢
        by_cases h0 : (canL v.l).1 = 0
        · rw [if_pos h0] at h ⊢
          unfold recC at h ⊢
          by_cases hd : v.ns.Nodup
          · rw [if_pos hd]
            rw [cn_v]
            refine .inr (.inr (.inr (.inr (.inr ⟨rfl, by simp [V.ns, V.l], fun x hx => ?_⟩))))
            obtain ⟨p, hp, rfl⟩ := List.mem_map.1 hx
            exact hI h0 _ (mem_zip_snd (uniq_sub hp))
          · rw [if_neg hd] at h; simp at h
        · rw [if_neg h0] at h; exact absurd h h0
      · rw [if_neg hn] at h; simp at h
    · rw [if_neg k6] at h; simp at h
theorem can_cn {v : V} (h : (can v).1 = 0) : Cn (can v).2 := can_cn_n (dep v) v (Nat.le_refl _) h
theorem canL_cn {l : List V} (h : (canL l).1 = 0) : ∀ x ∈ (canL l).2, Cn x := fun x hx => by
  obtain ⟨h1, h2⟩ := canL_ok h
  rw [h2] at hx
  obtain ⟨y, hy, rfl⟩ := List.mem_map.1 hx
  exact can_cn (h1 y hy)
end Go.Proofs.Ytdblkjcimegoeaa
