/- Expressions made of others; small tests of words and names. No condition. strings.Join of names. Condition: no more than 70000 of no more than 70000 bytes each. -/
import Derived.Test.YtflpidnkppljlaaDoorExM
import Derived.Test.YtflpidnkppljlaaDoorShelf
set_option linter.unusedVariables false
set_option linter.unnecessarySimpa false
set_option linter.unusedSimpArgs false
namespace Go.Proofs.YtflpidnkppljlaaDoor
open Go.RowKit
theorem retBx {x y : Bool} (h : x = y) : Ending.returned (.bool x) = Ending.returned (.bool y) := by rw [h]
theorem flat_atE {α : Type} {k : Nat} {enc : α → List Value} (hk : ∀ x, (enc x).length = k) : ∀ (l : List α) (j c : Nat) (hj : j < l.length), c < k → (l.flatMap enc)[j * k + c]? = (enc l[j])[c]?
  | [], j, c, hj, _ => absurd hj (Nat.not_lt_zero _)
  | x :: l, 0, c, _, hc => by
    rw [List.flatMap_cons, Nat.zero_mul, Nat.zero_add, List.getElem?_append_left (by rw [hk]; exact hc)]; rfl
  | x :: l, j + 1, c, hj, hc => by
    rw [List.flatMap_cons, List.getElem?_append_right (by rw [hk, Nat.add_mul]; omega), hk, show (j + 1) * k + c - k = j * k + c by rw [Nat.add_mul]; omega, flat_atE hk l j c (by simpa using hj) hc]
    simp
theorem newcellE (w : World) (C : Array Value) (t : TypeId) (cs : List Value) (hC : C = cs.toArray) {j : Nat} {u : Value} (hj : cs[j]? = some u) : (w.alloc (.cells C t)).cell? ⟨w.heap.size, j, none⟩ = some u := by
  rw [World.cell?_alloc_mark, hC]
  simpa using hj
theorem excs_len (x : Ex) (p : Pl) : (excs x p).length = 12 := rfl
/-- Kids in a new block. -/
theorem kids_new {A : Nat → Prop} {W : World} (xs : List (Ex × Pl)) (h : ∀ y ∈ xs, XAt A W y.1 y.2) (C : Array Value) (t : TypeId) (hC : C = (xs.flatMap fun y => excs y.1 y.2).toArray) :
    XRow A (W.alloc (.cells C t)) W.heap.size 0 (xs.map (·.1)) := by
  refine xRow_of fun j hj => ?_
  have hj' : j < xs.length := by simpa using hj
  have e : (xs.map (·.1))[j] = (xs[j]).1 := by simp
  rw [e]
  refine ⟨(xs[j]).2, fun c u hu => ?_, (h _ (List.getElem_mem hj')).low (low_new (Low.refl W) _)⟩
  rw [Nat.zero_add]
  refine newcellE W C t _ hC ?_
  have hc : c < 12 := by have := (List.getElem?_eq_some_iff.1 hu).1; simpa [excs] using this
  rw [flat_atE (k := 12) (enc := fun y : Ex × Pl => excs y.1 y.2) (fun y => rfl) xs j c hj' hc]
  exact hu
theorem nod_at {A : Nat → Prop} {W : World} (op : Int) (xs : List (Ex × Pl)) (hn : xs.length ≤ 1000) (hA : A W.heap.size) (h : ∀ y ∈ xs, XAt A W y.1 y.2) (C : Array Value) (t : TypeId) (hC : C = (xs.flatMap fun y => excs y.1 y.2).toArray) (nm : List UInt8) (n : Nat) (hn' : n = W.heap.size) (k : Nat) (hk' : k = xs.length) :
    XAt A (W.alloc (.cells C t)) (.mk op li0 nm (xs.map (·.1)) []) ⟨some ⟨n, 0, none⟩, k, none, 0⟩ := by
  subst hn' hk'
  exact xAt_v.2 ⟨⟨⟨Nat.le_refl _, by show (0 : Nat) ≤ _; decide⟩, .inl rfl⟩, ⟨by simp [Ex.ks], by show xs.length ≤ _; omega⟩, .inr ⟨_, rfl, hA, kids_new xs h C t hC⟩⟩
theorem isMark_c (x : Wd) (t : List UInt8) (w : World) :
    Calls Tryd.prog 45 #[wv x, .string ⟨t.toArray⟩] w fun e w' => e = .returned (.bool (x.k == 5 && x.t == t)) ∧ Low w w' := by
  unfold wv
  by_cases h1 : x.k = 5
  · rw [h1]
    obtain ⟨q, hq⟩ : ∃ q, (x.t == t) = q := ⟨_, rfl⟩
    rw [hq]
    go_enter Tryd.func45, Tryd.ntmps45
    go_wp2_with fail
    go_returns
    exact ⟨retBx (by simp), low_new (Low.refl _) _⟩
  · have z1 : (x.k == 5) = false := by simpa using h1
    rw [z1]
    go_enter Tryd.func45, Tryd.ntmps45
    go_wp2_with fail
    go_returns
    exact ⟨rfl, low_new (Low.refl _) _⟩
def ndv (op : Int) (ao : Option Addr) (n cap : Nat) : Value := .agg #[.int .i64 op, .int .i64 0, .bool false, .int .i64 0, .string ⟨#[]⟩, .string ⟨#[]⟩, .string ⟨#[]⟩, .slice none 0 0, .slice none 0 0, .string ⟨#[]⟩, .slice ao n cap, .slice none 0 0]
theorem node_c (op : Int) (ao : Option Addr) (n cap : Nat) (w : World) : Calls Tryd.prog 48 #[.int .i64 op, .slice ao n cap] w fun e w' => e = .returned (ndv op ao n cap) ∧ Low w w' := by
  go_enter Tryd.func48, Tryd.ntmps48
  go_wp2_with fail
  go_returns
  exact ⟨rfl, low_new (Low.refl _) _⟩
theorem named_c {A : Nat → Prop} (op : Int) (nm : List UInt8) (x : Ex) (p : Pl) (w : World) (hA : ∀ g, w.heap.size ≤ g → A g) (h : XAt A w x p) :
    Calls Tryd.prog 75 #[.int .i64 op, .string ⟨nm.toArray⟩, exv x p] w fun e w' => ∃ p', e = .returned (exv (namE op nm x) p') ∧ XAt A w' (namE op nm x) p' ∧ Low w w' := by
  have H := Lib.hid h
  clear h
  unfold exv
  go_enter Tryd.func75, Tryd.ntmps75
  go_wp2_with fail
  go_returns
  refine ⟨⟨some ⟨w.heap.size + 1 + 1, 0, none⟩, 1, none, 0⟩, rfl, ?_, ?_⟩
  · exact nod_at op [(x, p)] (by simp) (hA _ (by simp; omega)) (fun y hy => by simp at hy; subst hy; exact H.out.low (low_new (low_new (Low.refl _) _) _)) _ _ rfl nm _ (by simp) _ rfl
  · exact low_new (low_new (low_new (Low.refl _) _) _) _
theorem literal_c (v : Li) (w : World) : Calls Tryd.prog 83 #[.agg #[.int .i64 v.k, .bool v.b, .int .i64 v.n, .string ⟨v.s.toArray⟩, .string ⟨v.t.toArray⟩, .string ⟨v.i.toArray⟩, .slice none 0 0, .slice none 0 0]] w fun e w' => e = .returned (exv (litE v) pl0) ∧ Low w w' := by
  go_enter Tryd.func83, Tryd.ntmps83
  go_wp2_with fail
  go_returns
  exact ⟨rfl, low_new (low_new (Low.refl _) _) _⟩
theorem method_c (t : List UInt8) (w : World) : Calls Tryd.prog 87 #[.string ⟨t.toArray⟩] w fun e w' => e = .returned (.int .i64 (metN t)) ∧ w = w' := by
  unfold metN
  simp only [kCon, List.cons_append, List.nil_append]
  by_cases h1 : t = [99, 111, 110, 116, 97, 105, 110, 115]
  · subst h1
    go_enter Tryd.func87, Tryd.ntmps87
    go_wp2_with fail
    go_returns
    exact ⟨rfl, rfl⟩
  rw [if_neg h1]
  have z1 : (t == [99, 111, 110, 116, 97, 105, 110, 115]) = false := by simpa using h1
  by_cases h2 : t = [99, 111, 110, 116, 97, 105, 110, 115, 65, 108, 108]
  · subst h2
    go_enter Tryd.func87, Tryd.ntmps87
    go_wp2_with fail
    go_returns
    exact ⟨rfl, rfl⟩
  rw [if_neg h2]
  have z2 : (t == [99, 111, 110, 116, 97, 105, 110, 115, 65, 108, 108]) = false := by simpa using h2
  by_cases h3 : t = [99, 111, 110, 116, 97, 105, 110, 115, 65, 110, 121]
  · subst h3
    go_enter Tryd.func87, Tryd.ntmps87
    go_wp2_with fail
    go_returns
    exact ⟨rfl, rfl⟩
  rw [if_neg h3]
  have z3 : (t == [99, 111, 110, 116, 97, 105, 110, 115, 65, 110, 121]) = false := by simpa using h3
  clear h1 h2 h3
  go_enter Tryd.func87, Tryd.ntmps87
  go_wp2_with fail
  go_returns
  exact ⟨rfl, rfl⟩
theorem variable_c (t : List UInt8) (w : World) : Calls Tryd.prog 88 #[.string ⟨t.toArray⟩] w fun e w' => e = .returned (.bool (varN t)) ∧ w = w' := by
  by_cases h0 : t = [112, 114, 105, 110, 99, 105, 112, 97, 108]
  · subst h0
    go_enter Tryd.func88, Tryd.ntmps88
    go_wp2_with fail
    go_returns
    exact ⟨rfl, rfl⟩
  have z0 : (t == [112, 114, 105, 110, 99, 105, 112, 97, 108]) = false := by simpa using h0
  by_cases h1 : t = [97, 99, 116, 105, 111, 110]
  · subst h1
    go_enter Tryd.func88, Tryd.ntmps88
    go_wp2_with fail
    go_returns
    exact ⟨rfl, rfl⟩
  have z1 : (t == [97, 99, 116, 105, 111, 110]) = false := by simpa using h1
  by_cases h2 : t = [114, 101, 115, 111, 117, 114, 99, 101]
  · subst h2
    go_enter Tryd.func88, Tryd.ntmps88
    go_wp2_with fail
    go_returns
    exact ⟨rfl, rfl⟩
  have z2 : (t == [114, 101, 115, 111, 117, 114, 99, 101]) = false := by simpa using h2
  by_cases h3 : t = [99, 111, 110, 116, 101, 120, 116]
  · subst h3
    go_enter Tryd.func88, Tryd.ntmps88
    go_wp2_with fail
    go_returns
    exact ⟨rfl, rfl⟩
  have z3 : (t == [99, 111, 110, 116, 101, 120, 116]) = false := by simpa using h3
  have e : varN t = false := by
    unfold varN
    simp only [List.contains_eq_mem, decide_eq_false_iff_not, List.mem_cons, List.not_mem_nil, or_false, not_or]
    exact ⟨h0, h1, h2, h3⟩
  rw [e]
  clear e h0 h1 h2 h3
  go_enter Tryd.func88, Tryd.ntmps88
  go_wp2_with fail
  go_returns
  exact ⟨rfl, rfl⟩
theorem reserved_c (t : List UInt8) (w : World) : Calls Tryd.prog 43 #[.string ⟨t.toArray⟩] w fun e w' => e = .returned (.bool (ownN t)) ∧ w = w' := by
  by_cases h0 : t = [105, 102]
  · subst h0
    go_enter Tryd.func43, Tryd.ntmps43
    go_wp2_with fail
    go_returns
    exact ⟨rfl, rfl⟩
  have z0 : (t == [105, 102]) = false := by simpa using h0
  by_cases h1 : t = [116, 104, 101, 110]
  · subst h1
    go_enter Tryd.func43, Tryd.ntmps43
    go_wp2_with fail
    go_returns
    exact ⟨rfl, rfl⟩
  have z1 : (t == [116, 104, 101, 110]) = false := by simpa using h1
  by_cases h2 : t = [101, 108, 115, 101]
  · subst h2
    go_enter Tryd.func43, Tryd.ntmps43
    go_wp2_with fail
    go_returns
    exact ⟨rfl, rfl⟩
  have z2 : (t == [101, 108, 115, 101]) = false := by simpa using h2
  by_cases h3 : t = [116, 114, 117, 101]
  · subst h3
    go_enter Tryd.func43, Tryd.ntmps43
    go_wp2_with fail
    go_returns
    exact ⟨rfl, rfl⟩
  have z3 : (t == [116, 114, 117, 101]) = false := by simpa using h3
  by_cases h4 : t = [102, 97, 108, 115, 101]
  · subst h4
    go_enter Tryd.func43, Tryd.ntmps43
    go_wp2_with fail
    go_returns
    exact ⟨rfl, rfl⟩
  have z4 : (t == [102, 97, 108, 115, 101]) = false := by simpa using h4
  by_cases h5 : t = [105, 110]
  · subst h5
    go_enter Tryd.func43, Tryd.ntmps43
    go_wp2_with fail
    go_returns
    exact ⟨rfl, rfl⟩
  have z5 : (t == [105, 110]) = false := by simpa using h5
  by_cases h6 : t = [104, 97, 115]
  · subst h6
    go_enter Tryd.func43, Tryd.ntmps43
    go_wp2_with fail
    go_returns
    exact ⟨rfl, rfl⟩
  have z6 : (t == [104, 97, 115]) = false := by simpa using h6
  by_cases h7 : t = [105, 115]
  · subst h7
    go_enter Tryd.func43, Tryd.ntmps43
    go_wp2_with fail
    go_returns
    exact ⟨rfl, rfl⟩
  have z7 : (t == [105, 115]) = false := by simpa using h7
  have e : ownN t = false := by
    unfold ownN
    simp only [List.contains_eq_mem, decide_eq_false_iff_not, List.mem_cons, List.not_mem_nil, or_false, not_or]
    exact ⟨h0, h1, h2, h3, h4, h5, h6, h7⟩
  rw [e]
  clear e h0 h1 h2 h3 h4 h5 h6 h7
  go_enter Tryd.func43, Tryd.ntmps43
  go_wp2_with fail
  go_returns
  exact ⟨rfl, rfl⟩
end Go.Proofs.YtflpidnkppljlaaDoor
namespace Go.Proofs.YtflpidnkppljlaaDoor
open Go.RowKit
theorem lens_le {ns : List (List UInt8)} (hs : ∀ x ∈ ns, x.length ≤ 70000) : Lib.lens ns ≤ ns.length * 70000 := by
  induction ns with
  | nil => simp [Lib.lens]
  | cons x r ih =>
    have h1 := hs x (by simp)
    have h2 := ih fun y hy => hs y (by simp [hy])
    unfold Lib.lens at *
    rw [List.map_cons, List.sum_cons, List.length_cons, Nat.add_mul]; omega
theorem join_len {ns : List (List UInt8)} (hn : ns.length ≤ 70000) (hs : ∀ x ∈ ns, x.length ≤ 70000) : (Lib.join ns [58, 58]).length ≤ 140737488355328 := by
  cases ns with
  | nil => simp [Lib.join_nil]
  | cons x r =>
    have h1 := Lib.join_length x r [58, 58]
    have h2 := lens_le hs
    have h3 : (x :: r).length * 70000 ≤ 70000 * 70000 := Nat.mul_le_mul_right _ hn
    rw [h1]
    simp only [List.length_cons, List.length_nil] at *
    omega
theorem join_c (g c : Nat) (ns : List (List UInt8)) (w : World) (hc : ∀ j (hj : j < ns.length), w.cell? ⟨g, j, none⟩ = some (.string ⟨ns[j].toArray⟩)) (hg : g < w.heap.size) (hn : ns.length ≤ 70000) (hcap : ns.length ≤ c) (hs : ∀ x ∈ ns, x.length ≤ 70000) :
    Calls Tryd.prog 46 #[.slice (some ⟨g, 0, none⟩) ns.length c, .string ⟨#[58, 58]⟩] w fun e w' => e = .returned (.string ⟨(Lib.join ns [58, 58]).toArray⟩) ∧ Low w w' := by
  have e : (ns.map fun x => (⟨x.toArray⟩ : ByteArray)).map (·.data.toList) = ns := by simp [List.map_map, Function.comp_def]
  have h := Tryd.strings_Join g 0 c (ns.map fun x => (⟨x.toArray⟩ : ByteArray)) ⟨#[58, 58]⟩ w (fun j x hx => by
    rw [Nat.zero_add]
    rw [List.getElem?_map] at hx
    obtain ⟨y, hy, rfl⟩ := Option.map_eq_some_iff.1 hx
    obtain ⟨hj, rfl⟩ := List.getElem?_eq_some_iff.1 hy
    exact hc j hj) hg (by rw [List.length_map]; omega) (by rw [List.length_map]; exact hcap) (by rw [e]; exact join_len hn hs)
  rw [List.length_map, e] at h
  refine h.mono ?_
  rintro e w' ⟨rfl, hb⟩
  exact ⟨rfl, Low.of_below hb⟩
end Go.Proofs.YtflpidnkppljlaaDoor
