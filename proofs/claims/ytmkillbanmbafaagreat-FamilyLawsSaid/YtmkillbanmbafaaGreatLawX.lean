/- What a value as it must be keeps: its depth; a value in sets of one member each. No condition. What the order and the form of values keep: how great an answer is; what is as it must be stays so; sets with the same members. No condition. -/
import Derived.Test.YtmkillbanmbafaaGreatCanon
import Derived.Test.YtmkillbanmbafaaGreatOpns
namespace Go.Proofs.YtmkillbanmbafaaGreat
theorem dptL_same {l m : List V} (h : ∀ z, z ∈ l ↔ z ∈ m) : dptL l = dptL m :=
  Nat.le_antisymm (dptL_le.2 fun x hx => (dptL_le.1 (Nat.le_refl _)) x ((h x).1 hx)) (dptL_le.2 fun x hx => (dptL_le.1 (Nat.le_refl _)) x ((h x).2 hx))
theorem dptL_map {f : V → V} : ∀ {l : List V}, (∀ x ∈ l, dpt (f x) = dpt x) → dptL (l.map f) = dptL l
  | [], _ => rfl
  | x :: l, h => by rw [List.map_cons, dptL, dptL, h x (by simp), dptL_map fun y hy => h y (by simp [hy])]
theorem dpt_one {k : Int} {h : Hd} (hk : h.k = k) (h5 : k ≠ 5) (h6 : k ≠ 6) (l : List V) (ns : List ByteArray) : dpt (.mk h l ns) = 1 := by
  rw [dpt, if_neg (by omega)]
theorem dpt_up {h : Hd} (hk : h.k = 5 ∨ h.k = 6) (l : List V) (ns : List ByteArray) : dpt (.mk h l ns) = dptL l + 1 := by
  rw [dpt, if_pos hk]
theorem zip_only {ns : List ByteArray} {m : List V} (hn : ns.Nodup) {y x : ByteArray × V} (hy : y ∈ ns.zip m) (hx : x ∈ ns.zip m) (h : cmpP y x = 0) : y = x := by
  have h1 : y.1 = x.1 := cmpT_zero h
  obtain ⟨i, hi, rfl⟩ := List.getElem_of_mem hy
  obtain ⟨j, hj, rfl⟩ := List.getElem_of_mem hx
  simp only [List.getElem_zip] at h1 ⊢
  have hi' : i < ns.length := by simp at hi; omega
  have hj' : j < ns.length := by simp at hj; omega
  have hij : i = j := (List.getElem_inj (h₀ := hi') (h₁ := hj') hn).1 h1
  subst hij
  rfl
theorem recC_mem {ns : List ByteArray} {m : List V} (hn : ns.Nodup) (z : ByteArray × V) : z ∈ uniq cmpP (ns.zip m) ↔ z ∈ ns.zip m :=
  mem_uniq (S := fun p => p ∈ ns.zip m) (good_pair.mono fun _ _ => trivial) (fun _ _ hy hx h => zip_only hn hy hx h) fun _ h => h
theorem recC_items {ns : List ByteArray} {m : List V} (hn : ns.Nodup) (hl : ns.length = m.length) (z : V) : z ∈ (uniq cmpP (ns.zip m)).map (·.2) ↔ z ∈ m := by
  rw [List.mem_map]
  constructor
  · rintro ⟨p, hp, rfl⟩
    exact mem_zip_snd ((recC_mem hn p).1 hp)
  · intro hz
    obtain ⟨i, hi, rfl⟩ := List.getElem_of_mem hz
    refine ⟨(ns[i]'(by omega), m[i]), (recC_mem hn _).2 ?_, rfl⟩
    rw [List.mem_iff_getElem]
    exact ⟨i, by simp; omega, by simp⟩
theorem dpt_can_n (n : Nat) : ∀ v : V, dep v ≤ n → (can v).1 = 0 → dpt (can v).2 = dpt v := by
  induction n with
  | zero => intro v h; rw [dep_v] at h; omega
  | succ n ih =>
    intro v hd h
    have hI : (canL v.l).1 = 0 → dptL (canL v.l).2 = dptL v.l ∧ ∀ x ∈ (canL v.l).2, Cn x := fun h0 => by
      obtain ⟨h1, h2⟩ := canL_ok h0
      rw [h2]
      refine ⟨dptL_map fun x hx => ih x (by have := dep_mem hx; rw [dep_v] at hd; omega) (h1 x hx), fun x hx => ?_⟩
      obtain ⟨y, hy, rfl⟩ := List.mem_map.1 hx
      exact can_cn (h1 y hy)
    have up : v.h.k = 5 ∨ v.h.k = 6 → dpt v = dptL v.l + 1 := fun h => by rw [dpt_v]; unfold V.nest; rw [if_pos h]
    have one : ∀ k : Int, v.h.k = k → k ≠ 5 → k ≠ 6 → dpt v = 1 := fun k hk h5 h6 => by rw [v.eta]; exact dpt_one hk h5 h6 _ _
    rw [can_v] at h ⊢
    by_cases k1 : v.h.k = 1
    · rw [if_pos k1, one 1 k1 (by decide) (by decide), dpt_one (k := 1) rfl (by decide) (by decide)]
    rw [if_neg k1] at h ⊢
    by_cases k2 : v.h.k = 2
    · rw [if_pos k2, one 2 k2 (by decide) (by decide), dpt_one (k := 2) rfl (by decide) (by decide)]
    rw [if_neg k2] at h ⊢
    by_cases k3 : v.h.k = 3
    · rw [if_pos k3, one 3 k3 (by decide) (by decide), dpt_one (k := 3) rfl (by decide) (by decide)]
    rw [if_neg k3] at h ⊢
    by_cases k4 : v.h.k = 4
    · rw [if_pos k4, one 4 k4 (by decide) (by decide), dpt_one (k := 4) rfl (by decide) (by decide)]
    rw [if_neg k4] at h ⊢
    by_cases k5 : v.h.k = 5
    · rw [if_pos k5] at h ⊢
      by_cases h0 : (canL v.l).1 = 0
      · obtain ⟨e1, e2⟩ := hI h0
        rw [if_pos h0, up (.inl k5)]
        rw [dpt_up (.inl rfl)]
        rw [dptL_same fun z => mem_uniq good_cn (fun y x hy hx h => ord_zero hy hx h) e2]
        rw [e1]
      · rw [if_neg h0] at h; exact absurd h h0
    rw [if_neg k5] at h ⊢
    by_cases k6 : v.h.k = 6
    · rw [if_pos k6] at h ⊢
      by_cases hl : v.ns.length = v.l.length
      · rw [if_pos hl] at h ⊢
        by_cases h0 : (canL v.l).1 = 0
        · obtain ⟨e1, e2⟩ := hI h0
          rw [if_pos h0] at h ⊢
          unfold recC at h ⊢
          by_cases hn : v.ns.Nodup
          · rw [if_pos hn, up (.inr k6)]
            rw [dpt_up (.inr rfl)]
            rw [dptL_same fun z => recC_items hn (by have := canL_len h0; omega) z]
            rw [e1]
          · rw [if_neg hn] at h; simp at h
        · rw [if_neg h0] at h; exact absurd h h0
      · rw [if_neg hl] at h; simp at h
    · rw [if_neg k6] at h; simp at h
theorem dpt_can {v : V} (h : (can v).1 = 0) : dpt (can v).2 = dpt v := dpt_can_n (dep v) v (Nat.le_refl _) h
def wrapV (v : V) : V := .mk { hd0 with k := 5 } [v] []
def nestV (v : V) : Nat → V
  | 0 => v
  | n + 1 => wrapV (nestV v n)
theorem dpt_wrap (v : V) : dpt (wrapV v) = dpt v + 1 := by
  unfold wrapV
  rw [dpt_up (.inl rfl)]
  simp [dptL]
theorem dpt_nest (v : V) : ∀ n, dpt (nestV v n) = dpt v + n
  | 0 => rfl
  | n + 1 => by rw [nestV, dpt_wrap, dpt_nest v n]; omega
theorem dep_nest (v : V) : ∀ n, dep (nestV v n) = dep v + n
  | 0 => rfl
  | n + 1 => by rw [nestV, wrapV, dep_v]; simp [V.l, depL, dep_nest v n]; omega
theorem sm_nest {v : V} (h : Sm v) : ∀ n, Sm (nestV v n)
  | 0 => h
  | n + 1 => by rw [nestV, wrapV, sm_v]; simp [V.l, V.ns]; exact sm_nest h n
theorem can_wrap (v : V) : can (wrapV v) = if (can v).1 = 0 then (0, wrapV (can v).2) else ((can v).1, V0) := by
  rw [can_v]
  have e : (wrapV v).h.k = 5 := rfl
  have el : (wrapV v).l = [v] := rfl
  rw [e, el, if_neg (by decide), if_neg (by decide), if_neg (by decide), if_neg (by decide), if_pos rfl]
  by_cases h : (can v).1 = 0
  · rw [if_pos h, canL_of (by simp) (by simpa using h), if_pos rfl]
    rfl
  · have : canL [v] = ((can v).1, []) := by unfold canL limL; rw [canK, if_neg h, if_neg h]
    rw [if_neg h, this, if_neg h]
theorem can_nest (v : V) : ∀ n, (can (nestV v n)).1 = (can v).1
  | 0 => rfl
  | n + 1 => by
    rw [nestV, can_wrap]
    have := can_nest v n
    by_cases h : (can (nestV v n)).1 = 0
    · rw [if_pos h, ← this, h]
    · rw [if_neg h, this]
/-- What comes of a value in n sets. -/
theorem canD_nest {v : V} {n : Nat} (h : ¬ 50 < dpt v + n) : (canD (nestV v n)).1 = (canD v).1 ∧ ((canD v).1 = 0 → dpt (canD (nestV v n)).2 = dpt v + n) := by
  unfold canD
  rw [if_neg (by rw [dpt_nest]; exact h), if_neg (by omega)]
  exact ⟨can_nest v n, fun h0 => by rw [dpt_can (by rw [can_nest]; exact h0), dpt_nest]⟩
theorem canD_nest_deep {v : V} {n : Nat} (h : 50 < dpt v + n) : canD (nestV v n) = (11, V0) := by
  unfold canD
  rw [if_pos (by rw [dpt_nest]; exact h)]
end Go.Proofs.YtmkillbanmbafaaGreat
namespace Go.Proofs.YtmkillbanmbafaaGreat
def B1 (x : Int) : Prop := x = -1 ∨ x = 0 ∨ x = 1
theorem b1_or {a b : Int} (h : B1 a) (k : B1 b) : B1 (orI a b) := by
  unfold orI
  split
  · exact k
  · exact h
theorem b1_lex {α : Type} {c : α → α → Int} : ∀ {l m : List α}, (∀ x ∈ l, ∀ y ∈ m, B1 (c x y)) → B1 (lex c l m)
  | [], [], _ => .inr (.inl rfl)
  | [], _ :: _, _ => .inl rfl
  | _ :: _, [], _ => .inr (.inr rfl)
  | x :: l, y :: m, h => b1_or (h x (by simp) y (by simp)) (b1_lex fun z hz u hu => h z (by simp [hz]) u (by simp [hu]))
theorem b1_int (a b : Int) : B1 (cmpI a b) := by
  unfold cmpI Lib.compareInt B1
  split
  · exact .inl rfl
  · split
    · exact .inr (.inr rfl)
    · exact .inr (.inl rfl)
theorem b1_bool (a b : Bool) : B1 (cmpB a b) := by cases a <;> cases b <;> simp [cmpB, B1]
theorem b1_text (a b : ByteArray) : B1 (cmpT a b) := by
  unfold cmpT
  rw [compareBytes_lex]
  refine b1_lex fun x _ y _ => ?_
  rw [cmpU_eq]
  exact b1_int _ _
theorem b1_names (a b : List ByteArray) : B1 (cmpN a b) := by
  rw [cmpN_lex]
  exact b1_lex fun x _ y _ => b1_text x y
theorem b1_ord_n (n : Nat) : ∀ a b : V, dep a ≤ n → B1 (ord a b) := by
  induction n with
  | zero => intro a b h; rw [dep_v] at h; omega
  | succ n ih =>
    intro a b hd
    have hL : ∀ l m : List V, (∀ x ∈ l, x ∈ a.l) → B1 (ordL l m) := fun l m h => by
      rw [ordL_lex]
      exact b1_lex fun x hx y _ => ih x y (by have := dep_mem (h x hx); rw [dep_v] at hd; omega)
    rw [ord_body]
    refine b1_or (b1_int _ _) ?_
    unfold bodyO
    split
    · exact b1_bool _ _
    split
    · exact b1_int _ _
    split
    · exact b1_text _ _
    split
    · exact b1_or (b1_text _ _) (b1_text _ _)
    split
    · exact hL _ _ fun _ h => h
    split
    · exact b1_or (b1_names _ _) (hL _ _ fun _ h => List.mem_of_mem_take h)
    · exact .inr (.inl rfl)
theorem b1_ord (a b : V) : B1 (ord a b) := b1_ord_n (dep a) a b (Nat.le_refl _)
theorem ins_len {α : Type} {c : α → α → Int} {x : α} : ∀ l : List α, (ins c x l).length ≤ l.length + 1
  | [] => by simp [ins]
  | y :: l => by
    have := ins_len (c := c) (x := x) l
    rw [ins]
    split
    · simp only [List.length_cons]; omega
    · split
      · simp only [List.length_cons]; omega
      · simp
theorem uniq_len {α : Type} {c : α → α → Int} (l : List α) : (uniq c l).length ≤ l.length := by
  have gen : ∀ (l acc : List α), (l.foldl (fun acc x => ins c x acc) acc).length ≤ l.length + acc.length := by
    intro l
    induction l with
    | nil => intro acc; simp
    | cons x l ih =>
      intro acc
      have h1 := ih (ins c x acc)
      have h2 := ins_len (c := c) (x := x) acc
      simp only [List.foldl_cons, List.length_cons]
      omega
  have h := gen l []
  rw [List.length_nil, Nat.add_zero] at h
  exact h
theorem uniq_self {α : Type} {c : α → α → Int} {S : α → Prop} (g : Good c S) (hE : ∀ y x, S y → S x → c y x = 0 → y = x) {l : List α} (h : ∀ x ∈ l, S x) (hr : Rises c l) : uniq c l = l :=
  rises_unique g (fun x hx => h x ((mem_uniq g hE h).1 hx)) h (uniq_rises g hE h) hr fun _ => mem_uniq g hE h
theorem uniq_same {α : Type} {c : α → α → Int} {S : α → Prop} (g : Good c S) (hE : ∀ y x, S y → S x → c y x = 0 → y = x) {l m : List α} (h : ∀ x ∈ l, S x) (k : ∀ x ∈ m, S x) (hm : ∀ z, z ∈ l ↔ z ∈ m) : uniq c l = uniq c m :=
  rises_unique g (fun x hx => h x ((mem_uniq g hE h).1 hx)) (fun x hx => k x ((mem_uniq g hE k).1 hx)) (uniq_rises g hE h) (uniq_rises g hE k) fun z => by rw [mem_uniq g hE h, mem_uniq g hE k, hm]
theorem cn_only : ∀ y x : V, Cn y → Cn x → ord y x = 0 → y = x := fun _ _ hy hx h => ord_zero hy hx h
theorem can_set {h : Hd} (hk : h.k = 5) {l : List V} {ns : List ByteArray} (hn : l.length ≤ 4096) (hl : ∀ x ∈ l, (can x).1 = 0) : can (.mk h l ns) = (0, .mk { hd0 with k := 5 } (uniq ord (l.map fun x => (can x).2)) []) := by
  have e : (V.mk h l ns).h.k = 5 := hk
  have el : (V.mk h l ns).l = l := rfl
  rw [can_v, e, el, if_neg (by decide), if_neg (by decide), if_neg (by decide), if_neg (by decide), if_pos rfl, canL_of hn hl, if_pos rfl]
theorem can_twice_n (n : Nat) : ∀ v : V, dep v ≤ n → (can v).1 = 0 → can (can v).2 = (0, (can v).2) ∧ (Sm v → Sm (can v).2) := by
  induction n with
  | zero => intro v h; rw [dep_v] at h; omega
  | succ n ih =>
    intro v hd h
    have hI : (canL v.l).1 = 0 → (∀ x ∈ (canL v.l).2, Cn x ∧ can x = (0, x)) ∧ ((∀ x ∈ v.l, Sm x) → ∀ x ∈ (canL v.l).2, Sm x) := fun h0 => by
      obtain ⟨h1, h2⟩ := canL_ok h0
      rw [h2]
      have key : ∀ y ∈ v.l, can (can y).2 = (0, (can y).2) ∧ (Sm y → Sm (can y).2) := fun y hy => ih y (by have := dep_mem hy; rw [dep_v] at hd; omega) (h1 y hy)
      refine ⟨fun x hx => ?_, fun hs x hx => ?_⟩
      · obtain ⟨y, hy, rfl⟩ := List.mem_map.1 hx
        exact ⟨can_cn (h1 y hy), (key y hy).1⟩
      · obtain ⟨y, hy, rfl⟩ := List.mem_map.1 hx
        exact (key y hy).2 (hs y hy)
    have smp : ∀ h : Hd, Sm (.mk h [] []) := fun h => by rw [sm_v]; simp [V.l, V.ns]
    rw [can_v v] at h ⊢
    by_cases k1 : v.h.k = 1
    · rw [if_pos k1]; exact ⟨rfl, fun _ => smp _⟩
    rw [if_neg k1] at h ⊢
    by_cases k2 : v.h.k = 2
    · rw [if_pos k2]; exact ⟨rfl, fun _ => smp _⟩
    rw [if_neg k2] at h ⊢
    by_cases k3 : v.h.k = 3
    · rw [if_pos k3]; exact ⟨rfl, fun _ => smp _⟩
    rw [if_neg k3] at h ⊢
    by_cases k4 : v.h.k = 4
    · rw [if_pos k4]; exact ⟨rfl, fun _ => smp _⟩
    rw [if_neg k4] at h ⊢
    by_cases k5 : v.h.k = 5
    · rw [if_pos k5] at h ⊢
      by_cases h0 : (canL v.l).1 = 0
      · obtain ⟨e1, e2⟩ := hI h0
        have e3 : ∀ x ∈ (canL v.l).2, Cn x := fun x hx => (e1 x hx).1
        have hm : ∀ x ∈ uniq ord (canL v.l).2, Cn x ∧ can x = (0, x) := fun x hx => e1 x (uniq_sub hx)
        rw [if_pos h0]
        refine ⟨?_, fun hs => ?_⟩
        · show can (.mk _ _ _) = (0, .mk _ _ _)
          rw [can_set rfl (by have := uniq_len (c := ord) (canL v.l).2; have := canL_len h0; have := canL_le h0; omega) fun x hx => by rw [(hm x hx).2]]
          have : (uniq ord (canL v.l).2).map (fun x => (can x).2) = uniq ord (canL v.l).2 := by
            conv => rhs; rw [← List.map_id (uniq ord (canL v.l).2)]
            exact List.map_congr_left fun x hx => by rw [(hm x hx).2]; rfl
          rw [this, uniq_self good_cn cn_only (fun x hx => (hm x hx).1) (uniq_rises good_cn cn_only e3)]
        · rw [sm_v] at hs ⊢
          have := uniq_len (c := ord) (canL v.l).2
          have := canL_len h0
          exact ⟨by show (uniq ord (canL v.l).2).length ≤ 70000; omega, Nat.zero_le _, fun x hx => e2 hs.2.2 x (uniq_sub hx)⟩
      · rw [if_neg h0] at h; exact absurd h h0
    rw [if_neg k5] at h ⊢
    by_cases k6 : v.h.k = 6
    · rw [if_pos k6] at h ⊢
      by_cases hl : v.ns.length = v.l.length
      · rw [if_pos hl] at h ⊢
        by_cases h0 : (canL v.l).1 = 0
        · obtain ⟨e1, e2⟩ := hI h0
          rw [if_pos h0] at h ⊢
          have hn : v.ns.Nodup := by
            unfold recC at h
            by_cases hn : v.ns.Nodup
            · exact hn
            · rw [if_neg hn] at h; simp at h
          unfold recC
          rw [if_pos hn]
          obtain ⟨u, hu⟩ : ∃ u, u = uniq cmpP (v.ns.zip (canL v.l).2) := ⟨_, rfl⟩
          have hz : ∀ p, p ∈ u ↔ p ∈ v.ns.zip (canL v.l).2 := fun p => by rw [hu]; exact recC_mem hn p
          have gz : Good cmpP fun p => p ∈ v.ns.zip (canL v.l).2 := good_pair.mono fun _ _ => trivial
          have hr : Rises cmpP u := by rw [hu]; exact uniq_rises gz (fun _ _ hy hx h => zip_only hn hy hx h) fun _ h => h
          have hnu : (u.map (·.1)).Nodup := rises_nodup (by unfold Rises at hr ⊢; rw [List.pairwise_map]; exact hr)
          have hlen : u.length ≤ v.l.length := by
            rw [hu]
            have h1 := uniq_len (c := cmpP) (v.ns.zip (canL v.l).2)
            have h2 := canL_len h0
            rw [List.length_zip] at h1
            omega
          have hm : ∀ x ∈ u.map (·.2), Cn x ∧ can x = (0, x) := fun x hx => by
            obtain ⟨p, hp, rfl⟩ := List.mem_map.1 hx
            exact e1 _ (mem_zip_snd ((hz p).1 hp))
          rw [← hu]
          refine ⟨?_, fun hs => ?_⟩
          · show can (.mk _ _ _) = (0, .mk _ _ _)
            have f1 : ∀ (A : List V) (B : List ByteArray), (V.mk { hd0 with k := 6 } A B).h.k = 6 := fun _ _ => rfl
            have f2 : ∀ (A : List V) (B : List ByteArray), (V.mk { hd0 with k := 6 } A B).l = A := fun _ _ => rfl
            have f3 : ∀ (A : List V) (B : List ByteArray), (V.mk { hd0 with k := 6 } A B).ns = B := fun _ _ => rfl
            rw [can_v, f1, f2, f3, if_neg (by decide), if_neg (by decide), if_neg (by decide), if_neg (by decide), if_neg (by decide), if_pos rfl, if_pos (by simp), canL_of (by rw [List.length_map]; have := canL_le h0; omega) fun x hx => by rw [(hm x hx).2]]
            rw [if_pos rfl]
            have e4 : (u.map (·.2)).map (fun x => (can x).2) = u.map (·.2) := by
              conv => rhs; rw [← List.map_id (u.map (·.2))]
              exact List.map_congr_left fun x hx => by rw [(hm x hx).2]; rfl
            have e5 : (u.map (·.1)).zip (u.map (·.2)) = u := by
              rw [List.zip_map']
              exact List.map_id u
            unfold recC
            rw [if_pos hnu]
            simp only [e4, e5]
            rw [uniq_self (S := fun p => p ∈ u) (good_pair.mono fun _ _ => trivial) (fun y x hy hx h => zip_only hn ((hz y).1 hy) ((hz x).1 hx) h) (fun _ h => h) hr]
          · rw [sm_v] at hs ⊢
            exact ⟨by show (u.map (·.2)).length ≤ 70000; simp; omega, by show (u.map (·.1)).length ≤ 70000; simp; omega, fun x hx => by
              obtain ⟨p, hp, rfl⟩ := List.mem_map.1 hx
              exact e2 hs.2.2 _ (mem_zip_snd ((hz p).1 hp))⟩
        · rw [if_neg h0] at h; exact absurd h h0
      · rw [if_neg hl] at h; simp at h
    · rw [if_neg k6] at h; simp at h
theorem can_twice {v : V} (h : (can v).1 = 0) : can (can v).2 = (0, (can v).2) := (can_twice_n (dep v) v (Nat.le_refl _) h).1
theorem sm_can {v : V} (h : (can v).1 = 0) (hs : Sm v) : Sm (can v).2 := (can_twice_n (dep v) v (Nat.le_refl _) h).2 hs
theorem canD_ok {v : V} (h : (canD v).1 = 0) : canD v = can v ∧ ¬ 50 < dpt v := by
  unfold canD at h ⊢
  by_cases h1 : 50 < dpt v
  · rw [if_pos h1] at h; simp at h
  · rw [if_neg h1]; exact ⟨rfl, h1⟩
theorem canD_twice {v : V} (h : (canD v).1 = 0) : canD (canD v).2 = (0, (canD v).2) := by
  obtain ⟨h1, h2⟩ := canD_ok h
  rw [h1] at h ⊢
  rw [canD, if_neg (by rw [dpt_can h]; exact h2), can_twice h]
theorem canD_cn {v : V} (h : (canD v).1 = 0) : Cn (canD v).2 := by
  have e := (canD_ok h).1
  rw [e] at h ⊢
  exact can_cn h
theorem canD_sm {v : V} (h : (canD v).1 = 0) (hs : Sm v) : Sm (canD v).2 := by
  have e := (canD_ok h).1
  rw [e] at h ⊢
  exact sm_can h hs
/-- Sets with the same members are the same. -/
theorem canD_sets {l m : List V} (n1 : l.length ≤ 4096) (n2 : m.length ≤ 4096) (hl : ∀ x ∈ l, (canD x).1 = 0) (hm : ∀ z, z ∈ l ↔ z ∈ m) :
    canD (sV l) = canD (sV m) ∧ ((canD (sV l)).1 = 11 ∨ (canD (sV l)).1 = 0 ∧ (∀ x ∈ l, holdsB (canD (sV l)).2 (canD x).2 = true) ∧ Cn (canD (sV l)).2) := by
  have hl' : ∀ x ∈ l, (can x).1 = 0 := fun x hx => by have h := hl x hx; rw [(canD_ok h).1] at h; exact h
  have hm' : ∀ x ∈ m, (can x).1 = 0 := fun x hx => hl' x ((hm x).2 hx)
  have hd : dpt (sV l) = dpt (sV m) := by
    unfold sV
    rw [dpt_up (.inl rfl), dpt_up (.inl rfl), dptL_same hm]
  have c1 : ∀ x ∈ l.map (fun x => (can x).2), Cn x := fun x hx => by
    obtain ⟨y, hy, rfl⟩ := List.mem_map.1 hx
    exact can_cn (hl' y hy)
  have c2 : ∀ x ∈ m.map (fun x => (can x).2), Cn x := fun x hx => by
    obtain ⟨y, hy, rfl⟩ := List.mem_map.1 hx
    exact can_cn (hm' y hy)
  have hu : uniq ord (l.map fun x => (can x).2) = uniq ord (m.map fun x => (can x).2) :=
    uniq_same good_cn cn_only c1 c2 fun z => by simp only [List.mem_map, hm]
  unfold canD
  rw [← hd]
  by_cases h50 : 50 < dpt (sV l)
  · rw [if_pos h50, if_pos h50]
    exact ⟨rfl, .inl rfl⟩
  · rw [if_neg h50, if_neg h50]
    have e1 : can (sV l) = (0, .mk { hd0 with k := 5 } (uniq ord (l.map fun x => (can x).2)) []) := can_set rfl n1 hl'
    have e2 : can (sV m) = (0, .mk { hd0 with k := 5 } (uniq ord (m.map fun x => (can x).2)) []) := can_set rfl n2 hm'
    refine ⟨by rw [e1, e2, hu], .inr ?_⟩
    refine ⟨by rw [e1], fun x hx => ?_, by rw [e1, cn_v]; exact .inr (.inr (.inr (.inr (.inl ⟨rfl, rfl, fun x hx => c1 x (uniq_sub hx)⟩))))⟩
    have hx1 : ¬ 50 < dpt x := (canD_ok (hl x hx)).2
    rw [if_neg hx1, e1]
    unfold holdsB
    simp only [V.h, V.l, Bool.and_eq_true, List.any_eq_true]
    refine ⟨rfl, (can x).2, (mem_uniq good_cn cn_only c1).2 (List.mem_map.2 ⟨x, hx, rfl⟩), ?_⟩
    rw [good_cn.refl (can_cn (hl' x hx))]
    rfl
/-- The order of two values as they must be, and whether they are equal. -/
theorem ord_eqB {a b : V} (ha : Cn a) (hb : Cn b) : eqB a b = (ord a b == 0) := by
  by_cases h : ord a b = 0
  · rw [← eqB_true (ord_zero ha hb h), h]; rfl
  · have h1 : ¬ a = b := fun e => h (by rw [e]; exact good_cn.refl hb)
    rw [← eqB_false h1]
    symm
    simpa using h
theorem ord_same {a : V} : (ord a a == 0) = true := by rw [good_ord.refl trivial]; rfl
theorem ord_turn (a b : V) : ord b a = -ord a b := good_ord.anti a b trivial trivial
theorem ord_over {a b c : V} (h : ord a b ≤ 0) (k : ord b c ≤ 0) : ord a c ≤ 0 := good_ord.le trivial trivial trivial h k
end Go.Proofs.YtmkillbanmbafaaGreat
