/- Plain: entities one above the other: as they must be, closed to a round, with a parent that isn't there; in any order. No condition. -/
import Derived.Test.YtbfaccndgjilmaaGreatAwaE
namespace Go.Proofs.YtbfaccndgjilmaaGreat
def abc : ByteArray := ⟨#[97, 98, 99, 100, 101, 102, 103, 104, 105, 106, 107, 108]⟩
theorem abc_le (i j : Nat) : (abc.extract i j).size ≤ maxLen := by
  have h : (abc.extract i j).size ≤ 12 := by
    rw [ByteArray.size_extract]
    have : abc.size = 12 := rfl
    omega
  exact Nat.le_trans h (by decide)
def nmU (i : Nat) : Us := ⟨⟨#[85]⟩, abc.extract i (i + 1), by decide, abc_le _ _⟩
def uVo : Us := ⟨⟨#[86]⟩, ⟨#[]⟩, by decide, by decide⟩
theorem nm_inj {i j : Nat} (hi : i < 12) (hj : j < 12) (h : nmU i = nmU j) : i = j := by
  have key : ∀ a b : Fin 12, abc.extract a.1 (a.1 + 1) = abc.extract b.1 (b.1 + 1) → a = b := by decide +kernel
  have := key ⟨i, hi⟩ ⟨j, hj⟩ (congrArg Us.i h)
  exact congrArg Fin.val this
theorem nm_lt {j : Nat} (h0 : 0 < j) (hj : j < 12) : cmpUs (nmU 0) (nmU j) < 0 := by
  have key : ∀ b : Fin 12, 0 < b.1 → cmpUs (nmU 0) (nmU b.1) < 0 := by decide +kernel
  exact key ⟨j, hj⟩ h0
theorem nm_not_V (i : Nat) : nmU i ≠ uVo := fun h => by
  have := congrArg Us.t h
  revert this
  show (⟨#[85]⟩ : ByteArray) = ⟨#[86]⟩ → False
  decide
def chP (k : Nat) (cl mi : Bool) (i : Nat) : List Us := (if i + 1 < k then [nmU (i + 1)] else if cl = true then [nmU 0] else []) ++ (if mi = true ∧ i = 0 then [uVo] else [])
def chE (k : Nat) (cl mi : Bool) (i : Nat) : En := ⟨nmU i, chP k cl mi i, r0⟩
def chL (k : Nat) (cl mi : Bool) : List En := (List.range k).map (chE k cl mi)
theorem mem_chL {k : Nat} {cl mi : Bool} {e : En} : e ∈ chL k cl mi ↔ ∃ i, i < k ∧ e = chE k cl mi i := by
  unfold chL
  simp only [List.mem_map, List.mem_range]
  exact ⟨fun ⟨i, h, e⟩ => ⟨i, h, e.symm⟩, fun ⟨i, h, e⟩ => ⟨i, h, e.symm⟩⟩
theorem names_chL (k : Nat) (cl mi : Bool) : namesE (chL k cl mi) = (List.range k).map nmU := by
  unfold namesE chL
  rw [List.map_map]; rfl
theorem mem_names {k : Nat} {cl mi : Bool} {x : Us} : x ∈ namesE (chL k cl mi) ↔ ∃ i, i < k ∧ x = nmU i := by
  rw [names_chL]
  simp only [List.mem_map, List.mem_range]
  exact ⟨fun ⟨i, h, e⟩ => ⟨i, h, e.symm⟩, fun ⟨i, h, e⟩ => ⟨i, h, e.symm⟩⟩
theorem nodup_chL {k : Nat} (hk : k ≤ 12) (cl mi : Bool) : (namesE (chL k cl mi)).Nodup := by
  rw [names_chL, List.nodup_iff_pairwise_ne, List.pairwise_map]
  refine (List.pairwise_lt_range (n := k)).imp_of_mem fun {a b} ha hb hab e => ?_
  have := nm_inj (by have := List.mem_range.1 ha; omega) (by have := List.mem_range.1 hb; omega) e
  omega
theorem step_chL {k : Nat} (hk : k ≤ 12) {cl mi : Bool} {x y : Us} : stepE (chL k cl mi) x y ↔ ∃ i, i < k ∧ x = nmU i ∧ ((i + 1 < k ∧ y = nmU (i + 1)) ∨ (¬ i + 1 < k ∧ cl = true ∧ y = nmU 0)) := by
  constructor
  · rintro ⟨h1, h2, h3⟩
    obtain ⟨i, hi, rfl⟩ := mem_names.1 h1
    have hpe : PE (chL k cl mi) (nmU i) = chP k cl mi i := PE_of (nodup_chL hk cl mi) (mem_chL.2 ⟨i, hi, rfl⟩ : chE k cl mi i ∈ _)
    rw [hpe] at h2
    obtain ⟨j, hj, hyj⟩ := mem_names.1 h3
    refine ⟨i, hi, rfl, ?_⟩
    unfold chP at h2
    rcases List.mem_append.1 h2 with h | h
    · by_cases hik : i + 1 < k
      · rw [if_pos hik] at h; simp at h; exact .inl ⟨hik, h⟩
      · rw [if_neg hik] at h
        by_cases hc : cl = true
        · rw [if_pos hc] at h; simp at h; exact .inr ⟨hik, hc, h⟩
        · rw [if_neg hc] at h; simp at h
    · by_cases hm : mi = true ∧ i = 0
      · rw [if_pos hm] at h; simp at h; exact absurd (hyj.symm.trans h) (nm_not_V j)
      · rw [if_neg hm] at h; simp at h
  · rintro ⟨i, hi, rfl, h⟩
    have hpe : PE (chL k cl mi) (nmU i) = chP k cl mi i := PE_of (nodup_chL hk cl mi) (mem_chL.2 ⟨i, hi, rfl⟩ : chE k cl mi i ∈ _)
    refine ⟨mem_names.2 ⟨i, hi, rfl⟩, ?_, ?_⟩
    · rw [hpe]
      unfold chP
      rcases h with ⟨h1, rfl⟩ | ⟨h1, h2, rfl⟩
      · rw [if_pos h1]; simp
      · rw [if_neg h1, if_pos h2]; simp
    · rcases h with ⟨h1, rfl⟩ | ⟨h1, h2, rfl⟩
      · exact mem_names.2 ⟨i + 1, h1, rfl⟩
      · exact mem_names.2 ⟨0, by omega, rfl⟩
theorem way_up {k : Nat} (hk : k ≤ 12) {mi : Bool} {x y : Us} (h : Way (stepE (chL k false mi)) x y) : ∃ i j, i < j ∧ j < k ∧ x = nmU i ∧ y = nmU j := by
  have st : ∀ {x y : Us}, stepE (chL k false mi) x y → ∃ i, i + 1 < k ∧ x = nmU i ∧ y = nmU (i + 1) := fun s => by
    obtain ⟨i, hi, hx, h | h⟩ := (step_chL hk).1 s
    · exact ⟨i, h.1, hx, h.2⟩
    · exact absurd h.2.1 (by decide)
  induction h with
  | one s =>
    obtain ⟨i, h1, h2, h3⟩ := st s
    exact ⟨i, i + 1, by omega, h1, h2, h3⟩
  | more _ s ih =>
    obtain ⟨i, j, h1, h2, h3, h4⟩ := ih
    obtain ⟨l, h5, h6, h7⟩ := st s
    have : j = l := nm_inj (by omega) (by omega) (h4.symm.trans h6)
    exact ⟨i, l + 1, by omega, h5, h3, h7⟩
theorem round_chL {k : Nat} (h0 : 0 < k) (hk : k ≤ 12) (cl mi : Bool) : RoundE (chL k cl mi) ↔ cl = true := by
  constructor
  · rintro ⟨x, h⟩
    cases cl with
    | true => rfl
    | false =>
      obtain ⟨i, j, h1, h2, h3, h4⟩ := way_up hk h
      have := nm_inj (by omega) (by omega) (h3.symm.trans h4)
      omega
  · rintro rfl
    have up : ∀ j, j + 1 < k → Way (stepE (chL k true mi)) (nmU 0) (nmU (j + 1)) := by
      intro j
      induction j with
      | zero => intro h; exact .one ((step_chL hk).2 ⟨0, h0, rfl, .inl ⟨h, rfl⟩⟩)
      | succ j ih => intro h; exact .more (ih (by omega)) ((step_chL hk).2 ⟨j + 1, by omega, rfl, .inl ⟨h, rfl⟩⟩)
    have back : stepE (chL k true mi) (nmU (k - 1)) (nmU 0) := (step_chL hk).2 ⟨k - 1, by omega, rfl, .inr ⟨by omega, rfl, rfl⟩⟩
    refine ⟨nmU 0, ?_⟩
    by_cases h1 : k = 1
    · subst h1; exact .one back
    · have := up (k - 2) (by omega)
      rw [show k - 2 + 1 = k - 1 by omega] at this
      exact .more this back
theorem err_chE {k : Nat} {cl mi : Bool} {i : Nat} (hi : i < k) : errE canD (namesE (chL k cl mi)) (chE k cl mi i) = if mi = true ∧ i = 0 then 20 else 0 := by
  by_cases hm : mi = true ∧ i = 0
  · rw [if_pos hm]
    unfold errE
    rw [if_neg (by show ¬ (6 : Int) ≠ 6; decide), if_neg (by show ¬ (canD r0).1 ≠ 0; rw [can_r0]; simp), if_neg]
    intro h
    have := List.all_eq_true.1 h uVo (by show uVo ∈ chP k cl mi i; unfold chP; rw [if_pos hm]; simp)
    simp at this
    obtain ⟨j, -, hj⟩ := mem_names.1 this
    exact nm_not_V j hj.symm
  · rw [if_neg hm]
    refine errE_r0 fun p hp => ?_
    unfold chP at hp
    rw [if_neg hm, List.append_nil] at hp
    by_cases h1 : i + 1 < k
    · rw [if_pos h1] at hp; simp at hp; exact mem_names.2 ⟨i + 1, h1, hp⟩
    · rw [if_neg h1] at hp
      by_cases hc : cl = true
      · rw [if_pos hc] at hp; simp at hp; exact mem_names.2 ⟨0, by omega, hp⟩
      · rw [if_neg hc] at hp; simp at hp
theorem errL_val {names : List Us} : ∀ {l : List En}, (∀ e ∈ l, errE canD names e = 0 ∨ errE canD names e = 20) → (∃ e ∈ l, errE canD names e = 20) → errL canD names l = 20
  | [], _, ⟨_, h, _⟩ => by simp at h
  | e :: r, h, hx => by
    rw [errL]
    rcases h e (by simp) with h0 | h0
    · rw [if_pos h0]
      refine errL_val (fun z hz => h z (by simp [hz])) ?_
      obtain ⟨z, hz, h20⟩ := hx
      rcases List.mem_cons.1 hz with rfl | hz
      · rw [h0] at h20; exact absurd h20 (by decide)
      · exact ⟨z, hz, h20⟩
    · rw [h0]; rfl
theorem errE_names {ns ms : List Us} (h : ∀ z, z ∈ ns ↔ z ∈ ms) (e : En) : errE canD ns e = errE canD ms e := errE_sim h rfl fun _ => Iff.rfl
/-- In any order: closed or not, with a parent that isn't there or not. -/
theorem can_chain {k : Nat} (h0 : 0 < k) (hk : k ≤ 12) (cl mi : Bool) {m : List En} (hm : m.Perm (chL k cl mi)) :
    (mi = true → canE canD m = (20, [])) ∧ (mi = false → cl = true → canE canD m = (21, [])) ∧
    (mi = false → cl = false → (canE canD m).1 = 0 ∧ ∃ z r, (canE canD m).2 = z :: r ∧ z.u = nmU 0 ∧ (canE canD m).2.length = k) ∧ (RoundE m ↔ cl = true) := by
  have hn : (namesE m).Nodup := (names_perm hm.symm).nodup_iff.1 (nodup_chL hk cl mi)
  have hnm : ∀ z, z ∈ namesE m ↔ z ∈ namesE (chL k cl mi) := fun z => (names_perm hm).mem_iff
  have hlen : m.length = k := by rw [hm.length_eq]; simp [chL]
  have hrd : RoundE m ↔ cl = true := (round_perm hn hm).trans (round_chL h0 hk cl mi)
  have her : ∀ e ∈ m, ∃ i, i < k ∧ e = chE k cl mi i ∧ errE canD (namesE m) e = if mi = true ∧ i = 0 then 20 else 0 := fun e he => by
    obtain ⟨i, hi, rfl⟩ := mem_chL.1 (hm.mem_iff.1 he)
    exact ⟨i, hi, rfl, by rw [errE_names hnm]; exact err_chE hi⟩
  have hz : mi = false → ∀ e ∈ m, errE canD (namesE m) e = 0 := fun h e he => by
    obtain ⟨i, -, -, h2⟩ := her e he
    rw [h2, if_neg (by simp [h])]
  refine ⟨fun h => ?_, fun h hc => ?_, fun h hc => ?_, hrd⟩
  · have h20 : errL canD (namesE m) m = 20 := by
      refine errL_val (fun e he => ?_) ⟨chE k cl mi 0, hm.mem_iff.2 (mem_chL.2 ⟨0, h0, rfl⟩), ?_⟩
      · obtain ⟨i, -, -, h2⟩ := her e he
        rw [h2]
        split
        · exact .inr rfl
        · exact .inl rfl
      · rw [errE_names hnm, err_chE h0, if_pos ⟨h, rfl⟩]
    unfold canE
    rw [if_neg (by omega), if_pos hn, if_neg (by rw [h20]; decide), h20]
  · unfold canE
    rw [if_neg (by omega), if_pos hn, if_pos ((errL_zero canD).2 (hz h)), if_pos (hrd.2 hc)]
  · have ok : (canE canD m).1 = 0 := canE_ok.2 ⟨by omega, hn, hz h, fun hr => by have := hrd.1 hr; rw [hc] at this; exact absurd this (by decide)⟩
    refine ⟨ok, ?_⟩
    rw [canE_val ok]
    have nl : (namesE (m.map (oneE canD))).Nodup := by rw [names_one]; exact hn
    obtain ⟨L, hL⟩ : ∃ L, uniq cmpE (m.map (oneE canD)) = L := ⟨_, rfl⟩
    have rL : Rises cmpE L := hL ▸ rise_en nl
    have mL : ∀ z, z ∈ L ↔ z ∈ m.map (oneE canD) := fun z => hL ▸ mem_en nl
    have e0 : oneE canD (chE k cl mi 0) ∈ L := (mL _).2 (List.mem_map_of_mem (hm.mem_iff.2 (mem_chL.2 ⟨0, h0, rfl⟩)))
    have hlenL : L.length = k := by
      have h1 : (namesE L).length = (namesE m).length := Nat.le_antisymm
        (len_sub _ _ (rises_names rL) fun z hz => by
          unfold namesE at hz
          obtain ⟨e, he, rfl⟩ := List.mem_map.1 hz
          have := List.mem_map_of_mem (f := (·.u)) ((mL e).1 he)
          have h2 := names_one (c := canD) m
          unfold namesE at h2
          rw [h2] at this
          exact this)
        (len_sub _ _ hn fun z hz => by
          rw [← names_one (c := canD) m] at hz
          unfold namesE at hz ⊢
          obtain ⟨e, he, rfl⟩ := List.mem_map.1 hz
          exact List.mem_map_of_mem ((mL e).2 he))
      unfold namesE at h1
      rw [List.length_map, List.length_map] at h1
      omega
    show ∃ z r, (uniq cmpE (m.map (oneE canD))) = z :: r ∧ _ ∧ (uniq cmpE (m.map (oneE canD))).length = k
    rw [hL]
    match L, rL, mL, e0, hlenL with
    | [], _, _, e0, _ => simp at e0
    | z :: r, rL, mL, e0, hlenL =>
      refine ⟨z, r, rfl, ?_, hlenL⟩
      obtain ⟨d, hd, hzd⟩ := List.mem_map.1 ((mL z).1 (by simp))
      obtain ⟨j, hj, hdj, -⟩ := her d hd
      have hzu : z.u = nmU j := by rw [← hzd, hdj]; rfl
      by_cases hj0 : j = 0
      · rw [hzu, hj0]
      · rcases List.mem_cons.1 e0 with h1 | h1
        · have h2 : nmU 0 = nmU j := by rw [← hzu, ← h1]; rfl
          exact absurd (nm_inj (by omega) (by omega) h2).symm hj0
        · have h2 : cmpE z (oneE canD (chE k cl mi 0)) < 0 := (List.pairwise_cons.1 rL).1 _ h1
          have h3 : cmpUs (nmU j) (nmU 0) < 0 := by rw [← hzu]; exact h2
          have h4 := nm_lt (j := j) (by omega) (by omega)
          have h5 : cmpUs (nmU j) (nmU 0) = - cmpUs (nmU 0) (nmU j) := good_us.anti _ _ trivial trivial
          omega
end Go.Proofs.YtbfaccndgjilmaaGreat
