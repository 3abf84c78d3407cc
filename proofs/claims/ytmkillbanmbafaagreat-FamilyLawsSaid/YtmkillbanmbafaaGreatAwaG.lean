/- The document's examples of layer 5 hold: awake answers true. No condition. Plain: entities one above the other: as they must be, closed to a round, with a parent that isn't there; in any order. No condition. Plain: entities one above the other, some with a second parent above the first: as they must be, and what is above each. No condition. -/
import Derived.Test.YtmkillbanmbafaaGreatECanW
import Derived.Test.YtmkillbanmbafaaGreatLawX
import Derived.Deep.DeepCutAuto
import Derived.Deep.CutRange
import Derived.Test.YtmkillbanmbafaaGreatHeadQ
import Derived.Shelf.SlSortCmp.QuietGrown
import Derived.Test.YtmkillbanmbafaaGreatStoG
namespace Go.Proofs.YtmkillbanmbafaaGreat
open Go.RowKit Go.Sort
theorem box_es {w : World} {b c : Nat} (qs : List Ee) (h : BoxAt w b (qs.flatMap encE)) (hc : qs.length ≤ c) (h9 : c ≤ 9223372036854775807) : EsAt w (.slice (some ⟨b, 0, none⟩) qs.length c) (qs.map Ee.sh) := by
  refine ⟨some ⟨b, 0, none⟩, c, by rw [List.length_map], ⟨by rw [List.length_map]; exact hc, h9⟩, fun j hj => ⟨b, 0, rfl, fun k u hu => ?_⟩⟩
  have hj' : j < qs.length := by simpa using hj
  rw [List.getElem_map] at hu
  have hk : k < 11 := by have := (List.getElem?_eq_some_iff.1 hu).1; simpa [Sh.cs] using this
  rw [Nat.zero_add]
  refine h.at (j * 11 + k) u ?_
  rw [flat_at encE_len qs j k hj' hk]
  exact hu
theorem box_us {w : World} {b c : Nat} (l : List Us) (h : BoxAt w b (l.flatMap Us.cs)) (hc : l.length ≤ c) (h9 : c ≤ 9223372036854775807) : UsIn (fun _ => True) w (.slice (some ⟨b, 0, none⟩) l.length c) l := by
  refine ⟨some ⟨b, 0, none⟩, c, rfl, ⟨hc, h9⟩, fun j hj => ⟨b, 0, rfl, trivial, fun k u hu => ?_⟩⟩
  have hk : k < 2 := by have := (List.getElem?_eq_some_iff.1 hu).1; simpa [Us.cs] using this
  rw [Nat.zero_add]
  refine h.at (j * 2 + k) u ?_
  rw [flat_at encU_len l j k hj hk]
  exact hu
theorem us_none (w : World) : UsIn (fun _ => True) w (.slice none 0 0) [] := ⟨none, 0, rfl, ⟨by simp, by simp⟩, fun j hj => by simp at hj⟩
/-- A record of nothing. -/
def r0 : V := .mk { hd0 with k := 6 } [] []
theorem rep_r0 (w : World) : Rep (fun _ => True) w r0 (.slice none 0 0) (.slice none 0 0) :=
  rep_v.2 ⟨⟨Nat.zero_le _, Nat.zero_le _, Nat.zero_le _⟩, names_nil _ _, none, 0, rfl, ⟨Nat.zero_le _, Nat.zero_le _⟩, .inl rfl⟩
theorem sm_r0 : Sm r0 := by simp [r0, Sm, SmL]
theorem can_r0 : canD r0 = (0, r0) := by kernel_rfl
def uA : Us := ⟨⟨#[85]⟩, ⟨#[97]⟩, by decide, by decide⟩
def uB : Us := ⟨⟨#[85]⟩, ⟨#[98]⟩, by decide, by decide⟩
def enA1 : List En := [⟨uA, [uB], r0⟩, ⟨uB, [uA], r0⟩]
def enA2 : List En := [⟨uB, [], r0⟩, ⟨uA, [uB, uB], r0⟩]
def enA3 : List En := [⟨uA, [uB], r0⟩, ⟨uB, [], r0⟩]
def enA4 : List En := [⟨uA, [uA], V0⟩]
theorem uAB : uA ≠ uB := by decide
theorem names1 : namesE enA1 = [uA, uB] := rfl
theorem names2 : namesE enA2 = [uB, uA] := rfl
theorem errE_r0 {names : List Us} {u : Us} {ps : List Us} (h : ∀ p ∈ ps, p ∈ names) : errE canD names ⟨u, ps, r0⟩ = 0 := by
  unfold errE
  rw [if_neg (by show ¬ (6 : Int) ≠ 6; decide), if_neg (by show ¬ (canD r0).1 ≠ 0; rw [can_r0]; simp), if_pos]
  rw [List.all_eq_true]
  intro x hx
  simpa using h x hx
theorem round1 : RoundE enA1 := ⟨uA, .more (.one (b := uB) ⟨by rw [names1]; simp, by show uB ∈ PE enA1 uA; rw [show PE enA1 uA = [uB] from by kernel_rfl]; simp, by rw [names1]; simp⟩) ⟨by rw [names1]; simp, by rw [show PE enA1 uB = [uA] from by kernel_rfl]; simp, by rw [names1]; simp⟩⟩
theorem can1 : canE canD enA1 = (21, []) := by
  unfold canE
  rw [if_neg (by decide), if_pos (by rw [names1]; simp [uAB]), if_pos, if_pos round1]
  rw [errL_zero]
  intro e he
  simp [enA1] at he
  rcases he with rfl | rfl
  · exact errE_r0 (by rw [names1]; simp)
  · exact errE_r0 (by rw [names1]; simp)
theorem step2 {x y : Us} (h : stepE enA2 x y) : x = uA ∧ y = uB := by
  obtain ⟨h1, h2, h3⟩ := h
  rw [names2] at h1
  simp at h1
  rcases h1 with rfl | rfl
  · rw [show PE enA2 uB = [] from by kernel_rfl] at h2; simp at h2
  · rw [show PE enA2 uA = [uB, uB] from by kernel_rfl] at h2
    simp at h2
    exact ⟨rfl, h2⟩
theorem round2 : ¬ RoundE enA2 := by
  rintro ⟨x, h⟩
  obtain ⟨b, s, h2⟩ := h.first
  obtain ⟨rfl, rfl⟩ := step2 s
  rcases h2 with h2 | h2
  · exact uAB h2.symm
  · obtain ⟨c, s2, -⟩ := h2.first
    exact uAB (step2 s2).1.symm
theorem can2 : canE canD enA2 = (0, enA3) := by
  have h0 : (canE canD enA2).1 = 0 := by
    rw [canE_ok]
    refine ⟨by decide, by rw [names2]; simp [uAB.symm], fun e he => ?_, round2⟩
    simp [enA2] at he
    rcases he with rfl | rfl
    · exact errE_r0 (by simp)
    · exact errE_r0 (by rw [names2]; simp)
  rw [canE_val h0]
  have : uniq cmpE (enA2.map (oneE canD)) = enA3 := by kernel_rfl
  rw [this]
theorem few_ens {l : List En} (h1 : l.length ≤ 2) (h2 : ∀ e ∈ l, e.ps.length ≤ 2) : FewE l := ⟨by omega, fun e he => by have := h2 e he; omega⟩
theorem canA1_c (w : World) : Calls Tryz.prog 22 #[.slice (some ⟨w.heap.size + 1 + 1 + 1 + 1 + 1, 0, none⟩) 2 2] ((((((w.alloc (.cells #[.string ⟨#[85]⟩, .string ⟨#[97]⟩] 24)).alloc (.cells #[.string ⟨#[85]⟩, .string ⟨#[98]⟩] 24)).alloc (.cells #[.int .i64 6, .bool false, .int .i64 0, .string ⟨#[]⟩, .string ⟨#[]⟩, .string ⟨#[]⟩, .slice none 0 0, .slice none 0 0] 37)).alloc (.cells #[.string ⟨#[85]⟩, .string ⟨#[98]⟩] 24)).alloc (.cells #[.string ⟨#[85]⟩, .string ⟨#[97]⟩] 24)).alloc (.cells #[.string ⟨#[85]⟩, .string ⟨#[97]⟩, .slice (some ⟨w.heap.size + 1 + 1 + 1, 0, none⟩) 1 1, .int .i64 6, .bool false, .int .i64 0, .string ⟨#[]⟩, .string ⟨#[]⟩, .string ⟨#[]⟩, .slice none 0 0, .slice none 0 0, .string ⟨#[85]⟩, .string ⟨#[98]⟩, .slice (some ⟨w.heap.size + 1 + 1 + 1 + 1, 0, none⟩) 1 1, .int .i64 6, .bool false, .int .i64 0, .string ⟨#[]⟩, .string ⟨#[]⟩, .string ⟨#[]⟩, .slice none 0 0, .slice none 0 0] 39)) fun e w' => ∃ v, e = .returned (.tuple #[v, .int .i64 21]) ∧ Low ((((((w.alloc (.cells #[.string ⟨#[85]⟩, .string ⟨#[97]⟩] 24)).alloc (.cells #[.string ⟨#[85]⟩, .string ⟨#[98]⟩] 24)).alloc (.cells #[.int .i64 6, .bool false, .int .i64 0, .string ⟨#[]⟩, .string ⟨#[]⟩, .string ⟨#[]⟩, .slice none 0 0, .slice none 0 0] 37)).alloc (.cells #[.string ⟨#[85]⟩, .string ⟨#[98]⟩] 24)).alloc (.cells #[.string ⟨#[85]⟩, .string ⟨#[97]⟩] 24)).alloc (.cells #[.string ⟨#[85]⟩, .string ⟨#[97]⟩, .slice (some ⟨w.heap.size + 1 + 1 + 1, 0, none⟩) 1 1, .int .i64 6, .bool false, .int .i64 0, .string ⟨#[]⟩, .string ⟨#[]⟩, .string ⟨#[]⟩, .slice none 0 0, .slice none 0 0, .string ⟨#[85]⟩, .string ⟨#[98]⟩, .slice (some ⟨w.heap.size + 1 + 1 + 1 + 1, 0, none⟩) 1 1, .int .i64 6, .bool false, .int .i64 0, .string ⟨#[]⟩, .string ⟨#[]⟩, .string ⟨#[]⟩, .slice none 0 0, .slice none 0 0] 39)) w' := by
  have hA : UsIn (fun _ => True) ((((((w.alloc (.cells #[.string ⟨#[85]⟩, .string ⟨#[97]⟩] 24)).alloc (.cells #[.string ⟨#[85]⟩, .string ⟨#[98]⟩] 24)).alloc (.cells #[.int .i64 6, .bool false, .int .i64 0, .string ⟨#[]⟩, .string ⟨#[]⟩, .string ⟨#[]⟩, .slice none 0 0, .slice none 0 0] 37)).alloc (.cells #[.string ⟨#[85]⟩, .string ⟨#[98]⟩] 24)).alloc (.cells #[.string ⟨#[85]⟩, .string ⟨#[97]⟩] 24)).alloc (.cells #[.string ⟨#[85]⟩, .string ⟨#[97]⟩, .slice (some ⟨w.heap.size + 1 + 1 + 1, 0, none⟩) 1 1, .int .i64 6, .bool false, .int .i64 0, .string ⟨#[]⟩, .string ⟨#[]⟩, .string ⟨#[]⟩, .slice none 0 0, .slice none 0 0, .string ⟨#[85]⟩, .string ⟨#[98]⟩, .slice (some ⟨w.heap.size + 1 + 1 + 1 + 1, 0, none⟩) 1 1, .int .i64 6, .bool false, .int .i64 0, .string ⟨#[]⟩, .string ⟨#[]⟩, .string ⟨#[]⟩, .slice none 0 0, .slice none 0 0] 39)) (.slice (some ⟨w.heap.size + 1 + 1 + 1, 0, none⟩) 1 1) [uB] := box_us [uB] (BoxAt.new (C := #[.string ⟨#[85]⟩, .string ⟨#[98]⟩]) (t := 24) _ (Low.alloc (Low.alloc (Low.refl ((((w.alloc (.cells #[.string ⟨#[85]⟩, .string ⟨#[97]⟩] 24)).alloc (.cells #[.string ⟨#[85]⟩, .string ⟨#[98]⟩] 24)).alloc (.cells #[.int .i64 6, .bool false, .int .i64 0, .string ⟨#[]⟩, .string ⟨#[]⟩, .string ⟨#[]⟩, .slice none 0 0, .slice none 0 0] 37)).alloc (.cells #[.string ⟨#[85]⟩, .string ⟨#[98]⟩] 24))) _) _) rfl (by simp)) (Nat.le_refl _) (by decide)
  have hB : UsIn (fun _ => True) ((((((w.alloc (.cells #[.string ⟨#[85]⟩, .string ⟨#[97]⟩] 24)).alloc (.cells #[.string ⟨#[85]⟩, .string ⟨#[98]⟩] 24)).alloc (.cells #[.int .i64 6, .bool false, .int .i64 0, .string ⟨#[]⟩, .string ⟨#[]⟩, .string ⟨#[]⟩, .slice none 0 0, .slice none 0 0] 37)).alloc (.cells #[.string ⟨#[85]⟩, .string ⟨#[98]⟩] 24)).alloc (.cells #[.string ⟨#[85]⟩, .string ⟨#[97]⟩] 24)).alloc (.cells #[.string ⟨#[85]⟩, .string ⟨#[97]⟩, .slice (some ⟨w.heap.size + 1 + 1 + 1, 0, none⟩) 1 1, .int .i64 6, .bool false, .int .i64 0, .string ⟨#[]⟩, .string ⟨#[]⟩, .string ⟨#[]⟩, .slice none 0 0, .slice none 0 0, .string ⟨#[85]⟩, .string ⟨#[98]⟩, .slice (some ⟨w.heap.size + 1 + 1 + 1 + 1, 0, none⟩) 1 1, .int .i64 6, .bool false, .int .i64 0, .string ⟨#[]⟩, .string ⟨#[]⟩, .string ⟨#[]⟩, .slice none 0 0, .slice none 0 0] 39)) (.slice (some ⟨w.heap.size + 1 + 1 + 1 + 1, 0, none⟩) 1 1) [uA] := box_us [uA] (BoxAt.new (C := #[.string ⟨#[85]⟩, .string ⟨#[97]⟩]) (t := 24) _ (Low.alloc (Low.refl (((((w.alloc (.cells #[.string ⟨#[85]⟩, .string ⟨#[97]⟩] 24)).alloc (.cells #[.string ⟨#[85]⟩, .string ⟨#[98]⟩] 24)).alloc (.cells #[.int .i64 6, .bool false, .int .i64 0, .string ⟨#[]⟩, .string ⟨#[]⟩, .string ⟨#[]⟩, .slice none 0 0, .slice none 0 0] 37)).alloc (.cells #[.string ⟨#[85]⟩, .string ⟨#[98]⟩] 24)).alloc (.cells #[.string ⟨#[85]⟩, .string ⟨#[97]⟩] 24))) _) rfl (by simp)) (Nat.le_refl _) (by decide)
  have het : EtAt ((((((w.alloc (.cells #[.string ⟨#[85]⟩, .string ⟨#[97]⟩] 24)).alloc (.cells #[.string ⟨#[85]⟩, .string ⟨#[98]⟩] 24)).alloc (.cells #[.int .i64 6, .bool false, .int .i64 0, .string ⟨#[]⟩, .string ⟨#[]⟩, .string ⟨#[]⟩, .slice none 0 0, .slice none 0 0] 37)).alloc (.cells #[.string ⟨#[85]⟩, .string ⟨#[98]⟩] 24)).alloc (.cells #[.string ⟨#[85]⟩, .string ⟨#[97]⟩] 24)).alloc (.cells #[.string ⟨#[85]⟩, .string ⟨#[97]⟩, .slice (some ⟨w.heap.size + 1 + 1 + 1, 0, none⟩) 1 1, .int .i64 6, .bool false, .int .i64 0, .string ⟨#[]⟩, .string ⟨#[]⟩, .string ⟨#[]⟩, .slice none 0 0, .slice none 0 0, .string ⟨#[85]⟩, .string ⟨#[98]⟩, .slice (some ⟨w.heap.size + 1 + 1 + 1 + 1, 0, none⟩) 1 1, .int .i64 6, .bool false, .int .i64 0, .string ⟨#[]⟩, .string ⟨#[]⟩, .string ⟨#[]⟩, .slice none 0 0, .slice none 0 0] 39)) (.slice (some ⟨w.heap.size + 1 + 1 + 1 + 1 + 1, 0, none⟩) 2 2) [⟨⟨uA, [uB], r0⟩, some ⟨w.heap.size + 1 + 1 + 1, 0, none⟩, 1, none, 0, none, 0⟩, ⟨⟨uB, [uA], r0⟩, some ⟨w.heap.size + 1 + 1 + 1 + 1, 0, none⟩, 1, none, 0, none, 0⟩] := by
    refine ⟨box_es [⟨⟨uA, [uB], r0⟩, some ⟨w.heap.size + 1 + 1 + 1, 0, none⟩, 1, none, 0, none, 0⟩, ⟨⟨uB, [uA], r0⟩, some ⟨w.heap.size + 1 + 1 + 1 + 1, 0, none⟩, 1, none, 0, none, 0⟩] (BoxAt.new _ (Low.refl ((((((w.alloc (.cells #[.string ⟨#[85]⟩, .string ⟨#[97]⟩] 24)).alloc (.cells #[.string ⟨#[85]⟩, .string ⟨#[98]⟩] 24)).alloc (.cells #[.int .i64 6, .bool false, .int .i64 0, .string ⟨#[]⟩, .string ⟨#[]⟩, .string ⟨#[]⟩, .slice none 0 0, .slice none 0 0] 37)).alloc (.cells #[.string ⟨#[85]⟩, .string ⟨#[98]⟩] 24)).alloc (.cells #[.string ⟨#[85]⟩, .string ⟨#[97]⟩] 24)).alloc (.cells #[.string ⟨#[85]⟩, .string ⟨#[97]⟩, .slice (some ⟨w.heap.size + 1 + 1 + 1, 0, none⟩) 1 1, .int .i64 6, .bool false, .int .i64 0, .string ⟨#[]⟩, .string ⟨#[]⟩, .string ⟨#[]⟩, .slice none 0 0, .slice none 0 0, .string ⟨#[85]⟩, .string ⟨#[98]⟩, .slice (some ⟨w.heap.size + 1 + 1 + 1 + 1, 0, none⟩) 1 1, .int .i64 6, .bool false, .int .i64 0, .string ⟨#[]⟩, .string ⟨#[]⟩, .string ⟨#[]⟩, .slice none 0 0, .slice none 0 0] 39))) rfl (by simp)) (Nat.le_refl _) (by decide), fun q hq => ?_⟩
    simp at hq
    rcases hq with rfl | rfl
    · exact ⟨hA, rep_r0 _⟩
    · exact ⟨hB, rep_r0 _⟩
  have hcon := eCanon_c _ _ _ het (few_ens (by simp [ensOf]) (by intro e he; simp [ensOf] at he; rcases he with rfl | rfl <;> decide)) (by intro q hq; simp at hq; rcases hq with rfl | rfl <;> exact sm_r0)
  rw [show ensOf [⟨⟨uA, [uB], r0⟩, some ⟨w.heap.size + 1 + 1 + 1, 0, none⟩, 1, none, 0, none, 0⟩, ⟨⟨uB, [uA], r0⟩, some ⟨w.heap.size + 1 + 1 + 1 + 1, 0, none⟩, 1, none, 0, none, 0⟩] = enA1 from rfl, can1] at hcon
  refine hcon.mono ?_
  rintro e w' ⟨v, rfl, h, -⟩
  exact ⟨v, rfl, h⟩
theorem canA2_c (w : World) : Calls Tryz.prog 22 #[.slice (some ⟨w.heap.size + 1, 0, none⟩) 2 2] ((w.alloc (.cells #[.string ⟨#[85]⟩, .string ⟨#[98]⟩, .string ⟨#[85]⟩, .string ⟨#[98]⟩] 24)).alloc (.cells #[.string ⟨#[85]⟩, .string ⟨#[98]⟩, .slice none 0 0, .int .i64 6, .bool false, .int .i64 0, .string ⟨#[]⟩, .string ⟨#[]⟩, .string ⟨#[]⟩, .slice none 0 0, .slice none 0 0, .string ⟨#[85]⟩, .string ⟨#[97]⟩, .slice (some ⟨w.heap.size, 0, none⟩) 2 2, .int .i64 6, .bool false, .int .i64 0, .string ⟨#[]⟩, .string ⟨#[]⟩, .string ⟨#[]⟩, .slice none 0 0, .slice none 0 0] 39)) fun e w' => ∃ (b o c : Nat) (ap : Option Addr) (cp : Nat), e = .returned (.tuple #[.slice (some ⟨b, o, none⟩) 2 c, .int .i64 0]) ∧ Low ((w.alloc (.cells #[.string ⟨#[85]⟩, .string ⟨#[98]⟩, .string ⟨#[85]⟩, .string ⟨#[98]⟩] 24)).alloc (.cells #[.string ⟨#[85]⟩, .string ⟨#[98]⟩, .slice none 0 0, .int .i64 6, .bool false, .int .i64 0, .string ⟨#[]⟩, .string ⟨#[]⟩, .string ⟨#[]⟩, .slice none 0 0, .slice none 0 0, .string ⟨#[85]⟩, .string ⟨#[97]⟩, .slice (some ⟨w.heap.size, 0, none⟩) 2 2, .int .i64 6, .bool false, .int .i64 0, .string ⟨#[]⟩, .string ⟨#[]⟩, .string ⟨#[]⟩, .slice none 0 0, .slice none 0 0] 39)) w' ∧ 2 ≤ c ∧
    w'.cell? ⟨b, o, none⟩ = some (.string ⟨#[85]⟩) ∧ w'.cell? ⟨b, o + 1, none⟩ = some (.string ⟨#[97]⟩) ∧ w'.cell? ⟨b, o + 2, none⟩ = some (.slice ap 1 cp) := by
  have hB : UsIn (fun _ => True) ((w.alloc (.cells #[.string ⟨#[85]⟩, .string ⟨#[98]⟩, .string ⟨#[85]⟩, .string ⟨#[98]⟩] 24)).alloc (.cells #[.string ⟨#[85]⟩, .string ⟨#[98]⟩, .slice none 0 0, .int .i64 6, .bool false, .int .i64 0, .string ⟨#[]⟩, .string ⟨#[]⟩, .string ⟨#[]⟩, .slice none 0 0, .slice none 0 0, .string ⟨#[85]⟩, .string ⟨#[97]⟩, .slice (some ⟨w.heap.size, 0, none⟩) 2 2, .int .i64 6, .bool false, .int .i64 0, .string ⟨#[]⟩, .string ⟨#[]⟩, .string ⟨#[]⟩, .slice none 0 0, .slice none 0 0] 39)) (.slice (some ⟨w.heap.size, 0, none⟩) 2 2) [uB, uB] := box_us [uB, uB] (BoxAt.new (C := #[.string ⟨#[85]⟩, .string ⟨#[98]⟩, .string ⟨#[85]⟩, .string ⟨#[98]⟩]) (t := 24) _ (Low.alloc (Low.refl (w.alloc (.cells #[.string ⟨#[85]⟩, .string ⟨#[98]⟩, .string ⟨#[85]⟩, .string ⟨#[98]⟩] 24))) _) rfl rfl) (Nat.le_refl _) (by decide)
  have het : EtAt ((w.alloc (.cells #[.string ⟨#[85]⟩, .string ⟨#[98]⟩, .string ⟨#[85]⟩, .string ⟨#[98]⟩] 24)).alloc (.cells #[.string ⟨#[85]⟩, .string ⟨#[98]⟩, .slice none 0 0, .int .i64 6, .bool false, .int .i64 0, .string ⟨#[]⟩, .string ⟨#[]⟩, .string ⟨#[]⟩, .slice none 0 0, .slice none 0 0, .string ⟨#[85]⟩, .string ⟨#[97]⟩, .slice (some ⟨w.heap.size, 0, none⟩) 2 2, .int .i64 6, .bool false, .int .i64 0, .string ⟨#[]⟩, .string ⟨#[]⟩, .string ⟨#[]⟩, .slice none 0 0, .slice none 0 0] 39)) (.slice (some ⟨w.heap.size + 1, 0, none⟩) 2 2) [⟨⟨uB, [], r0⟩, none, 0, none, 0, none, 0⟩, ⟨⟨uA, [uB, uB], r0⟩, some ⟨w.heap.size, 0, none⟩, 2, none, 0, none, 0⟩] := by
    refine ⟨box_es [⟨⟨uB, [], r0⟩, none, 0, none, 0, none, 0⟩, ⟨⟨uA, [uB, uB], r0⟩, some ⟨w.heap.size, 0, none⟩, 2, none, 0, none, 0⟩] (BoxAt.new _ (Low.refl ((w.alloc (.cells #[.string ⟨#[85]⟩, .string ⟨#[98]⟩, .string ⟨#[85]⟩, .string ⟨#[98]⟩] 24)).alloc (.cells #[.string ⟨#[85]⟩, .string ⟨#[98]⟩, .slice none 0 0, .int .i64 6, .bool false, .int .i64 0, .string ⟨#[]⟩, .string ⟨#[]⟩, .string ⟨#[]⟩, .slice none 0 0, .slice none 0 0, .string ⟨#[85]⟩, .string ⟨#[97]⟩, .slice (some ⟨w.heap.size, 0, none⟩) 2 2, .int .i64 6, .bool false, .int .i64 0, .string ⟨#[]⟩, .string ⟨#[]⟩, .string ⟨#[]⟩, .slice none 0 0, .slice none 0 0] 39))) rfl (by simp)) (Nat.le_refl _) (by decide), fun q hq => ?_⟩
    simp at hq
    rcases hq with rfl | rfl
    · exact ⟨us_none _, rep_r0 _⟩
    · exact ⟨hB, rep_r0 _⟩
  have hcon := eCanon_c _ _ _ het (few_ens (by simp [ensOf]) (by intro e he; simp [ensOf] at he; rcases he with rfl | rfl <;> decide)) (by intro q hq; simp at hq; rcases hq with rfl | rfl <;> exact sm_r0)
  rw [show ensOf [⟨⟨uB, [], r0⟩, none, 0, none, 0, none, 0⟩, ⟨⟨uA, [uB, uB], r0⟩, some ⟨w.heap.size, 0, none⟩, 2, none, 0, none, 0⟩] = enA2 from rfl, can2] at hcon
  refine hcon.mono ?_
  rintro e w' ⟨v, rfl, h, rs, hrs, het⟩
  have hrs' : ensOf rs = enA3 := hrs
  obtain ⟨q0, q1, rfl⟩ : ∃ q0 q1, rs = [q0, q1] := by
    match rs, hrs' with
    | [q0, q1], _ => exact ⟨q0, q1, rfl⟩
    | [], h => simp [ensOf, enA3] at h
    | [_], h => simp [ensOf, enA3] at h
    | _ :: _ :: _ :: _, h => simp [ensOf, enA3] at h
  simp [ensOf, enA3] at hrs'
  obtain ⟨h0, h1⟩ := hrs'
  obtain ⟨ao, c, rfl, ⟨hc, -⟩, hx⟩ := het.at
  obtain ⟨b, o, rfl, hcs⟩ := hx 0 (by simp)
  obtain ⟨e0, e1, e2, -⟩ := ee11 hcs
  simp only [List.getElem_cons_zero, Nat.zero_mul, Nat.add_zero, h0] at e0 e1 e2
  exact ⟨b, o, c, _, _, rfl, h, hc, e0, e1, e2⟩
theorem roundA_c (w : World) : Calls Tryz.prog 34 #[.slice (some ⟨w.heap.size + 1, 0, none⟩) 1 1] ((w.alloc (.cells #[.string ⟨#[85]⟩, .string ⟨#[97]⟩] 24)).alloc (.cells #[.string ⟨#[85]⟩, .string ⟨#[97]⟩, .slice (some ⟨w.heap.size, 0, none⟩) 1 1, .int .i64 0, .bool false, .int .i64 0, .string ⟨#[]⟩, .string ⟨#[]⟩, .string ⟨#[]⟩, .slice none 0 0, .slice none 0 0] 39)) fun e w' => e = .returned (.bool true) ∧ Low ((w.alloc (.cells #[.string ⟨#[85]⟩, .string ⟨#[97]⟩] 24)).alloc (.cells #[.string ⟨#[85]⟩, .string ⟨#[97]⟩, .slice (some ⟨w.heap.size, 0, none⟩) 1 1, .int .i64 0, .bool false, .int .i64 0, .string ⟨#[]⟩, .string ⟨#[]⟩, .string ⟨#[]⟩, .slice none 0 0, .slice none 0 0] 39)) w' := by
  have hB : UsIn (fun _ => True) ((w.alloc (.cells #[.string ⟨#[85]⟩, .string ⟨#[97]⟩] 24)).alloc (.cells #[.string ⟨#[85]⟩, .string ⟨#[97]⟩, .slice (some ⟨w.heap.size, 0, none⟩) 1 1, .int .i64 0, .bool false, .int .i64 0, .string ⟨#[]⟩, .string ⟨#[]⟩, .string ⟨#[]⟩, .slice none 0 0, .slice none 0 0] 39)) (.slice (some ⟨w.heap.size, 0, none⟩) 1 1) [uA] := box_us [uA] (BoxAt.new (C := #[.string ⟨#[85]⟩, .string ⟨#[97]⟩]) (t := 24) _ (Low.alloc (Low.refl (w.alloc (.cells #[.string ⟨#[85]⟩, .string ⟨#[97]⟩] 24))) _) rfl rfl) (Nat.le_refl _) (by decide)
  have hok : ∀ q ∈ [(⟨⟨uA, [uA], V0⟩, some ⟨w.heap.size, 0, none⟩, 1, none, 0, none, 0⟩ : Ee)], EeOk (fun _ => True) ((w.alloc (.cells #[.string ⟨#[85]⟩, .string ⟨#[97]⟩] 24)).alloc (.cells #[.string ⟨#[85]⟩, .string ⟨#[97]⟩, .slice (some ⟨w.heap.size, 0, none⟩) 1 1, .int .i64 0, .bool false, .int .i64 0, .string ⟨#[]⟩, .string ⟨#[]⟩, .string ⟨#[]⟩, .slice none 0 0, .slice none 0 0] 39)) q := fun q hq => by
    simp at hq
    subst hq
    exact ⟨hB, rep_V0 _ _⟩
  have hes : EsAt ((w.alloc (.cells #[.string ⟨#[85]⟩, .string ⟨#[97]⟩] 24)).alloc (.cells #[.string ⟨#[85]⟩, .string ⟨#[97]⟩, .slice (some ⟨w.heap.size, 0, none⟩) 1 1, .int .i64 0, .bool false, .int .i64 0, .string ⟨#[]⟩, .string ⟨#[]⟩, .string ⟨#[]⟩, .slice none 0 0, .slice none 0 0] 39)) (.slice (some ⟨w.heap.size + 1, 0, none⟩) 1 1) ([(⟨⟨uA, [uA], V0⟩, some ⟨w.heap.size, 0, none⟩, 1, none, 0, none, 0⟩ : Ee)].map Ee.sh) := box_es [⟨⟨uA, [uA], V0⟩, some ⟨w.heap.size, 0, none⟩, 1, none, 0, none, 0⟩] (BoxAt.new _ (Low.refl ((w.alloc (.cells #[.string ⟨#[85]⟩, .string ⟨#[97]⟩] 24)).alloc (.cells #[.string ⟨#[85]⟩, .string ⟨#[97]⟩, .slice (some ⟨w.heap.size, 0, none⟩) 1 1, .int .i64 0, .bool false, .int .i64 0, .string ⟨#[]⟩, .string ⟨#[]⟩, .string ⟨#[]⟩, .slice none 0 0, .slice none 0 0] 39))) rfl (by simp)) (Nat.le_refl _) (by decide)
  refine (round_c _ (PE enA4) _ _ (by simp) hes (rowsE hok (few_ens (by simp [ensOf]) (by intro e he; simp [ensOf] at he; subst he; decide)))).mono ?_
  rintro e w' ⟨q, rfl, hq, h⟩
  have hr : RoundE enA4 := ⟨uA, .one ⟨by simp [enA4, namesE], by rw [show PE enA4 uA = [uA] from by kernel_rfl]; simp, by simp [enA4, namesE]⟩⟩
  have := (round_word [⟨⟨uA, [uA], V0⟩, some ⟨w.heap.size, 0, none⟩, 1, none, 0, none, 0⟩]).2 hr
  rw [hq.2 this]
  exact ⟨rfl, h⟩
end Go.Proofs.YtmkillbanmbafaaGreat
namespace Go.Proofs.YtmkillbanmbafaaGreat
def abc : ByteArray := ⟨#[97, 98, 99, 100, 101, 102, 103, 104, 105, 106, 107, 108]⟩
theorem abc_le (i j : Nat) : (abc.extract i j).size ≤ maxLen := by
  have h : (abc.extract i j).size ≤ 12 := by
    rw [ByteArray.size_extract]
    have : abc.size = 12 := rfl
    omega
  exact Nat.le_trans h (by decide)
def nmU (i : Nat) : Us := ⟨⟨#[85]⟩, abc.extract i (i + 1), by decide, abc_le _ _⟩
def uVo : Us := ⟨⟨#[86]⟩, ⟨#[]⟩, by decide, by decide⟩
theorem nm_inj {i j : Nat} (hi : i < 12) (hj : j < 12) (h : nmU i = nmU j) : i = j := by
  have key : ∀ a b : Fin 12, abc.extract a.1 (a.1 + 1) = abc.extract b.1 (b.1 + 1) → a = b := by decide +kernel
  have := key ⟨i, hi⟩ ⟨j, hj⟩ (congrArg Us.i h)
  exact congrArg Fin.val this
theorem nm_lt {j : Nat} (h0 : 0 < j) (hj : j < 12) : cmpUs (nmU 0) (nmU j) < 0 := by
  have key : ∀ b : Fin 12, 0 < b.1 → cmpUs (nmU 0) (nmU b.1) < 0 := by decide +kernel
  exact key ⟨j, hj⟩ h0
theorem nm_not_V (i : Nat) : nmU i ≠ uVo := fun h => by
  have := congrArg Us.t h
  revert this
  show (⟨#[85]⟩ : ByteArray) = ⟨#[86]⟩ → False
  decide
def chP (k : Nat) (cl mi : Bool) (i : Nat) : List Us := (if i + 1 < k then [nmU (i + 1)] else if cl = true then [nmU 0] else []) ++ (if mi = true ∧ i = 0 then [uVo] else [])
def chE (k : Nat) (cl mi : Bool) (i : Nat) : En := ⟨nmU i, chP k cl mi i, r0⟩
def chL (k : Nat) (cl mi : Bool) : List En := (List.range k).map (chE k cl mi)
theorem mem_chL {k : Nat} {cl mi : Bool} {e : En} : e ∈ chL k cl mi ↔ ∃ i, i < k ∧ e = chE k cl mi i := by
  unfold chL
  simp only [List.mem_map, List.mem_range]
  exact ⟨fun ⟨i, h, e⟩ => ⟨i, h, e.symm⟩, fun ⟨i, h, e⟩ => ⟨i, h, e.symm⟩⟩
theorem names_chL (k : Nat) (cl mi : Bool) : namesE (chL k cl mi) = (List.range k).map nmU := by
  unfold namesE chL
  rw [List.map_map]; rfl
theorem mem_names {k : Nat} {cl mi : Bool} {x : Us} : x ∈ namesE (chL k cl mi) ↔ ∃ i, i < k ∧ x = nmU i := by
  rw [names_chL]
  simp only [List.mem_map, List.mem_range]
  exact ⟨fun ⟨i, h, e⟩ => ⟨i, h, e.symm⟩, fun ⟨i, h, e⟩ => ⟨i, h, e.symm⟩⟩
theorem nodup_chL {k : Nat} (hk : k ≤ 12) (cl mi : Bool) : (namesE (chL k cl mi)).Nodup := by
  rw [names_chL, List.nodup_iff_pairwise_ne, List.pairwise_map]
  refine (List.pairwise_lt_range (n := k)).imp_of_mem fun {a b} ha hb hab e => ?_
  have := nm_inj (by have := List.mem_range.1 ha; omega) (by have := List.mem_range.1 hb; omega) e
  omega
theorem step_chL {k : Nat} (hk : k ≤ 12) {cl mi : Bool} {x y : Us} : stepE (chL k cl mi) x y ↔ ∃ i, i < k ∧ x = nmU i ∧ ((i + 1 < k ∧ y = nmU (i + 1)) ∨ (¬ i + 1 < k ∧ cl = true ∧ y = nmU 0)) := by
  constructor
  · rintro ⟨h1, h2, h3⟩
    obtain ⟨i, hi, rfl⟩ := mem_names.1 h1
    have hpe : PE (chL k cl mi) (nmU i) = chP k cl mi i := PE_of (nodup_chL hk cl mi) (mem_chL.2 ⟨i, hi, rfl⟩ : chE k cl mi i ∈ _)
    rw [hpe] at h2
    obtain ⟨j, hj, hyj⟩ := mem_names.1 h3
    refine ⟨i, hi, rfl, ?_⟩
    unfold chP at h2
    rcases List.mem_append.1 h2 with h | h
    · by_cases hik : i + 1 < k
      · rw [if_pos hik] at h; simp at h; exact .inl ⟨hik, h⟩
      · rw [if_neg hik] at h
        by_cases hc : cl = true
        · rw [if_pos hc] at h; simp at h; exact .inr ⟨hik, hc, h⟩
        · rw [if_neg hc] at h; simp at h
    · by_cases hm : mi = true ∧ i = 0
      · rw [if_pos hm] at h; simp at h; exact absurd (hyj.symm.trans h) (nm_not_V j)
      · rw [if_neg hm] at h; simp at h
  · rintro ⟨i, hi, rfl, h⟩
    have hpe : PE (chL k cl mi) (nmU i) = chP k cl mi i := PE_of (nodup_chL hk cl mi) (mem_chL.2 ⟨i, hi, rfl⟩ : chE k cl mi i ∈ _)
    refine ⟨mem_names.2 ⟨i, hi, rfl⟩, ?_, ?_⟩
    · rw [hpe]
      unfold chP
      rcases h with ⟨h1, rfl⟩ | ⟨h1, h2, rfl⟩
      · rw [if_pos h1]; simp
      · rw [if_neg h1, if_pos h2]; simp
    · rcases h with ⟨h1, rfl⟩ | ⟨h1, h2, rfl⟩
      · exact mem_names.2 ⟨i + 1, h1, rfl⟩
      · exact mem_names.2 ⟨0, by omega, rfl⟩
theorem way_up {k : Nat} (hk : k ≤ 12) {mi : Bool} {x y : Us} (h : Way (stepE (chL k false mi)) x y) : ∃ i j, i < j ∧ j < k ∧ x = nmU i ∧ y = nmU j := by
  have st : ∀ {x y : Us}, stepE (chL k false mi) x y → ∃ i, i + 1 < k ∧ x = nmU i ∧ y = nmU (i + 1) := fun s => by
    obtain ⟨i, hi, hx, h | h⟩ := (step_chL hk).1 s
    · exact ⟨i, h.1, hx, h.2⟩
    · exact absurd h.2.1 (by decide)
  induction h with
  | one s =>
    obtain ⟨i, h1, h2, h3⟩ := st s
    exact ⟨i, i + 1, by omega, h1, h2, h3⟩
  | more _ s ih =>
    obtain ⟨i, j, h1, h2, h3, h4⟩ := ih
    obtain ⟨l, h5, h6, h7⟩ := st s
    have : j = l := nm_inj (by omega) (by omega) (h4.symm.trans h6)
    exact ⟨i, l + 1, by omega, h5, h3, h7⟩
theorem round_chL {k : Nat} (h0 : 0 < k) (hk : k ≤ 12) (cl mi : Bool) : RoundE (chL k cl mi) ↔ cl = true := by
  constructor
  · rintro ⟨x, h⟩
    cases cl with
    | true => rfl
    | false =>
      obtain ⟨i, j, h1, h2, h3, h4⟩ := way_up hk h
      have := nm_inj (by omega) (by omega) (h3.symm.trans h4)
      omega
  · rintro rfl
    have up : ∀ j, j + 1 < k → Way (stepE (chL k true mi)) (nmU 0) (nmU (j + 1)) := by
      intro j
      induction j with
      | zero => intro h; exact .one ((step_chL hk).2 ⟨0, h0, rfl, .inl ⟨h, rfl⟩⟩)
      | succ j ih => intro h; exact .more (ih (by omega)) ((step_chL hk).2 ⟨j + 1, by omega, rfl, .inl ⟨h, rfl⟩⟩)
    have back : stepE (chL k true mi) (nmU (k - 1)) (nmU 0) := (step_chL hk).2 ⟨k - 1, by omega, rfl, .inr ⟨by omega, rfl, rfl⟩⟩
    refine ⟨nmU 0, ?_⟩
    by_cases h1 : k = 1
    · subst h1; exact .one back
    · have := up (k - 2) (by omega)
      rw [show k - 2 + 1 = k - 1 by omega] at this
      exact .more this back
theorem err_chE {k : Nat} {cl mi : Bool} {i : Nat} (hi : i < k) : errE canD (namesE (chL k cl mi)) (chE k cl mi i) = if mi = true ∧ i = 0 then 20 else 0 := by
  by_cases hm : mi = true ∧ i = 0
  · rw [if_pos hm]
    unfold errE
    rw [if_neg (by show ¬ (6 : Int) ≠ 6; decide), if_neg (by show ¬ (canD r0).1 ≠ 0; rw [can_r0]; simp), if_neg]
    intro h
    have := List.all_eq_true.1 h uVo (by show uVo ∈ chP k cl mi i; unfold chP; rw [if_pos hm]; simp)
    simp at this
    obtain ⟨j, -, hj⟩ := mem_names.1 this
    exact nm_not_V j hj.symm
  · rw [if_neg hm]
    refine errE_r0 fun p hp => ?_
    unfold chP at hp
    rw [if_neg hm, List.append_nil] at hp
    by_cases h1 : i + 1 < k
    · rw [if_pos h1] at hp; simp at hp; exact mem_names.2 ⟨i + 1, h1, hp⟩
    · rw [if_neg h1] at hp
      by_cases hc : cl = true
      · rw [if_pos hc] at hp; simp at hp; exact mem_names.2 ⟨0, by omega, hp⟩
      · rw [if_neg hc] at hp; simp at hp
theorem errL_val {names : List Us} : ∀ {l : List En}, (∀ e ∈ l, errE canD names e = 0 ∨ errE canD names e = 20) → (∃ e ∈ l, errE canD names e = 20) → errL canD names l = 20
  | [], _, ⟨_, h, _⟩ => by simp at h
  | e :: r, h, hx => by
    rw [errL]
    rcases h e (by simp) with h0 | h0
    · rw [if_pos h0]
      refine errL_val (fun z hz => h z (by simp [hz])) ?_
      obtain ⟨z, hz, h20⟩ := hx
      rcases List.mem_cons.1 hz with rfl | hz
      · rw [h0] at h20; exact absurd h20 (by decide)
      · exact ⟨z, hz, h20⟩
    · rw [h0]; rfl
theorem errE_names {ns ms : List Us} (h : ∀ z, z ∈ ns ↔ z ∈ ms) (e : En) : errE canD ns e = errE canD ms e := errE_sim h rfl fun _ => Iff.rfl
/-- In any order: closed or not, with a parent that isn't there or not. -/
theorem can_chain {k : Nat} (h0 : 0 < k) (hk : k ≤ 12) (cl mi : Bool) {m : List En} (hm : m.Perm (chL k cl mi)) :
    (mi = true → canE canD m = (20, [])) ∧ (mi = false → cl = true → canE canD m = (21, [])) ∧
    (mi = false → cl = false → (canE canD m).1 = 0 ∧ ∃ z r, (canE canD m).2 = z :: r ∧ z.u = nmU 0 ∧ (canE canD m).2.length = k) ∧ (RoundE m ↔ cl = true) := by
  have hn : (namesE m).Nodup := (names_perm hm.symm).nodup_iff.1 (nodup_chL hk cl mi)
  have hnm : ∀ z, z ∈ namesE m ↔ z ∈ namesE (chL k cl mi) := fun z => (names_perm hm).mem_iff
  have hlen : m.length = k := by rw [hm.length_eq]; simp [chL]
  have hrd : RoundE m ↔ cl = true := (round_perm hn hm).trans (round_chL h0 hk cl mi)
  have her : ∀ e ∈ m, ∃ i, i < k ∧ e = chE k cl mi i ∧ errE canD (namesE m) e = if mi = true ∧ i = 0 then 20 else 0 := fun e he => by
    obtain ⟨i, hi, rfl⟩ := mem_chL.1 (hm.mem_iff.1 he)
    exact ⟨i, hi, rfl, by rw [errE_names hnm]; exact err_chE hi⟩
  have hz : mi = false → ∀ e ∈ m, errE canD (namesE m) e = 0 := fun h e he => by
    obtain ⟨i, -, -, h2⟩ := her e he
    rw [h2, if_neg (by simp [h])]
  refine ⟨fun h => ?_, fun h hc => ?_, fun h hc => ?_, hrd⟩
  · have h20 : errL canD (namesE m) m = 20 := by
      refine errL_val (fun e he => ?_) ⟨chE k cl mi 0, hm.mem_iff.2 (mem_chL.2 ⟨0, h0, rfl⟩), ?_⟩
      · obtain ⟨i, -, -, h2⟩ := her e he
        rw [h2]
        split
        · exact .inr rfl
        · exact .inl rfl
      · rw [errE_names hnm, err_chE h0, if_pos ⟨h, rfl⟩]
    unfold canE
    rw [if_neg (by omega), if_pos hn, if_neg (by rw [h20]; decide), h20]
  · unfold canE
    rw [if_neg (by omega), if_pos hn, if_pos ((errL_zero canD).2 (hz h)), if_pos (hrd.2 hc)]
  · have ok : (canE canD m).1 = 0 := canE_ok.2 ⟨by omega, hn, hz h, fun hr => by have := hrd.1 hr; rw [hc] at this; exact absurd this (by decide)⟩
    refine ⟨ok, ?_⟩
    rw [canE_val ok]
    have nl : (namesE (m.map (oneE canD))).Nodup := by rw [names_one]; exact hn
    obtain ⟨L, hL⟩ : ∃ L, uniq cmpE (m.map (oneE canD)) = L := ⟨_, rfl⟩
    have rL : Rises cmpE L := hL ▸ rise_en nl
    have mL : ∀ z, z ∈ L ↔ z ∈ m.map (oneE canD) := fun z => hL ▸ mem_en nl
    have e0 : oneE canD (chE k cl mi 0) ∈ L := (mL _).2 (List.mem_map_of_mem (hm.mem_iff.2 (mem_chL.2 ⟨0, h0, rfl⟩)))
    have hlenL : L.length = k := by
      have h1 : (namesE L).length = (namesE m).length := Nat.le_antisymm
        (len_sub _ _ (rises_names rL) fun z hz => by
          unfold namesE at hz
          obtain ⟨e, he, rfl⟩ := List.mem_map.1 hz
          have := List.mem_map_of_mem (f := (·.u)) ((mL e).1 he)
          have h2 := names_one (c := canD) m
          unfold namesE at h2
          rw [h2] at this
          exact this)
        (len_sub _ _ hn fun z hz => by
          rw [← names_one (c := canD) m] at hz
          unfold namesE at hz ⊢
          obtain ⟨e, he, rfl⟩ := List.mem_map.1 hz
          exact List.mem_map_of_mem ((mL e).2 he))
      unfold namesE at h1
      rw [List.length_map, List.length_map] at h1
      omega
    show ∃ z r, (uniq cmpE (m.map (oneE canD))) = z :: r ∧ _ ∧ (uniq cmpE (m.map (oneE canD))).length = k
    rw [hL]
    match L, rL, mL, e0, hlenL with
    | [], _, _, e0, _ => simp at e0
    | z :: r, rL, mL, e0, hlenL =>
      refine ⟨z, r, rfl, ?_, hlenL⟩
      obtain ⟨d, hd, hzd⟩ := List.mem_map.1 ((mL z).1 (by simp))
      obtain ⟨j, hj, hdj, -⟩ := her d hd
      have hzu : z.u = nmU j := by rw [← hzd, hdj]; rfl
      by_cases hj0 : j = 0
      · rw [hzu, hj0]
      · rcases List.mem_cons.1 e0 with h1 | h1
        · have h2 : nmU 0 = nmU j := by rw [← hzu, ← h1]; rfl
          exact absurd (nm_inj (by omega) (by omega) h2).symm hj0
        · have h2 : cmpE z (oneE canD (chE k cl mi 0)) < 0 := (List.pairwise_cons.1 rL).1 _ h1
          have h3 : cmpUs (nmU j) (nmU 0) < 0 := by rw [← hzu]; exact h2
          have h4 := nm_lt (j := j) (by omega) (by omega)
          have h5 : cmpUs (nmU j) (nmU 0) = - cmpUs (nmU 0) (nmU j) := good_us.anti _ _ trivial trivial
          omega
end Go.Proofs.YtmkillbanmbafaaGreat
namespace Go.Proofs.YtmkillbanmbafaaGreat
def fcP (k : Nat) (f : Nat → Bool) (i : Nat) : List Us := (if i + 1 < k then [nmU (i + 1)] else []) ++ (if i + 2 < k ∧ f i = true then [nmU (i + 2)] else [])
def fcE (k : Nat) (f : Nat → Bool) (i : Nat) : En := ⟨nmU i, fcP k f i, r0⟩
def fcL (k : Nat) (f : Nat → Bool) : List En := (List.range k).map (fcE k f)
theorem mem_fcP {k : Nat} {f : Nat → Bool} {i : Nat} {p : Us} (h : p ∈ fcP k f i) : ∃ j, i < j ∧ j < k ∧ p = nmU j := by
  unfold fcP at h
  rcases List.mem_append.1 h with h | h
  · split at h
    · rename_i h1; simp at h; exact ⟨i + 1, by omega, h1, h⟩
    · simp at h
  · split at h
    · rename_i h1; simp at h; exact ⟨i + 2, by omega, h1.1, h⟩
    · simp at h
theorem names_fcL (k : Nat) (f : Nat → Bool) : namesE (fcL k f) = (List.range k).map nmU := by
  unfold namesE fcL
  rw [List.map_map]; rfl
theorem mem_names_fc {k : Nat} {f : Nat → Bool} {x : Us} : x ∈ namesE (fcL k f) ↔ ∃ i, i < k ∧ x = nmU i := by
  rw [names_fcL]
  simp only [List.mem_map, List.mem_range]
  exact ⟨fun ⟨i, h, e⟩ => ⟨i, h, e.symm⟩, fun ⟨i, h, e⟩ => ⟨i, h, e.symm⟩⟩
theorem nodup_fcL {k : Nat} (hk : k ≤ 12) (f : Nat → Bool) : (namesE (fcL k f)).Nodup := by
  have h := nodup_chL (k := k) hk false false
  rw [names_chL] at h
  rw [names_fcL]; exact h
theorem PE_fc {k : Nat} (hk : k ≤ 12) (f : Nat → Bool) {i : Nat} (hi : i < k) : PE (fcL k f) (nmU i) = fcP k f i :=
  PE_of (e := fcE k f i) (nodup_fcL hk f) (List.mem_map.2 ⟨i, List.mem_range.2 hi, rfl⟩)
theorem step_fc {k : Nat} (hk : k ≤ 12) {f : Nat → Bool} {x y : Us} (h : stepE (fcL k f) x y) : ∃ i j, i < j ∧ j < k ∧ x = nmU i ∧ y = nmU j := by
  obtain ⟨h1, h2, -⟩ := h
  obtain ⟨i, hi, rfl⟩ := mem_names_fc.1 h1
  rw [PE_fc hk f hi] at h2
  obtain ⟨j, h3, h4, rfl⟩ := mem_fcP h2
  exact ⟨i, j, h3, h4, rfl, rfl⟩
theorem way_fc {k : Nat} (hk : k ≤ 12) {f : Nat → Bool} {x y : Us} (h : Way (stepE (fcL k f)) x y) : ∃ i j, i < j ∧ j < k ∧ x = nmU i ∧ y = nmU j := by
  induction h with
  | one s => exact step_fc hk s
  | more _ s ih =>
    obtain ⟨i, j, h1, h2, rfl, e⟩ := ih
    obtain ⟨i2, j2, h3, h4, e2, rfl⟩ := step_fc hk s
    have := nm_inj (by omega) (by omega) (e.symm.trans e2)
    exact ⟨i, j2, by omega, h4, rfl, rfl⟩
theorem up_fc {k : Nat} (hk : k ≤ 12) (f : Nat → Bool) {i : Nat} : ∀ d, i + d + 1 < k → Way (stepE (fcL k f)) (nmU i) (nmU (i + d + 1))
  | 0, h => .one ⟨mem_names_fc.2 ⟨i, by omega, rfl⟩, by rw [PE_fc hk f (by omega)]; unfold fcP; rw [if_pos h]; simp, mem_names_fc.2 ⟨i + 1, h, rfl⟩⟩
  | d + 1, h => .more (up_fc hk f d (by omega)) ⟨mem_names_fc.2 ⟨i + d + 1, by omega, rfl⟩, by rw [PE_fc hk f (by omega)]; unfold fcP; rw [if_pos (by omega)]; exact List.mem_append.2 (.inl (by rw [show i + (d + 1) + 1 = i + d + 1 + 1 by omega]; simp)), mem_names_fc.2 ⟨i + (d + 1) + 1, h, rfl⟩⟩
theorem way_fc_iff {k : Nat} (hk : k ≤ 12) (f : Nat → Bool) {i j : Nat} (hi : i < k) (hj : j < k) : Way (stepE (fcL k f)) (nmU i) (nmU j) ↔ i < j := by
  constructor
  · intro h
    obtain ⟨a, b, h1, h2, e1, e2⟩ := way_fc hk h
    have := nm_inj (by omega) (by omega) e1
    have := nm_inj (by omega) (by omega) e2
    omega
  · intro h
    have := up_fc hk f (i := i) (j - i - 1) (by omega)
    rwa [show i + (j - i - 1) + 1 = j by omega] at this
theorem round_fc {k : Nat} (hk : k ≤ 12) (f : Nat → Bool) : ¬ RoundE (fcL k f) := by
  rintro ⟨x, h⟩
  obtain ⟨i, j, h1, h2, rfl, e⟩ := way_fc hk h
  have := nm_inj (by omega) (by omega) e
  omega
theorem can_fc {k : Nat} (hk : k ≤ 12) (f : Nat → Bool) : (canE canD (fcL k f)).1 = 0 := by
  rw [canE_ok]
  refine ⟨by unfold fcL; rw [List.length_map, List.length_range]; omega, nodup_fcL hk f, fun e he => ?_, round_fc hk f⟩
  obtain ⟨i, hi, rfl⟩ := List.mem_map.1 he
  exact errE_r0 fun p hp => by
    obtain ⟨j, h1, h2, rfl⟩ := mem_fcP hp
    exact mem_names_fc.2 ⟨j, h2, rfl⟩
/-- The steps of a list as it must be are those of the list. -/
theorem step_can {f : V → Int × V} {l : List En} (h : (canE f l).1 = 0) {x y : Us} : stepE (canE f l).2 x y ↔ stepE l x y := by
  obtain ⟨-, hn, -, -⟩ := canE_ok.1 h
  rw [canE_val h]
  have hn' : (namesE (l.map (oneE f))).Nodup := by rw [names_one]; exact hn
  have hmem : ∀ z, z ∈ uniq cmpE (l.map (oneE f)) ↔ z ∈ l.map (oneE f) := fun z => mem_en hn'
  have hnd := rises_names (rise_en hn')
  have hnm : ∀ x, x ∈ namesE (uniq cmpE (l.map (oneE f))) ↔ x ∈ namesE l := fun x => by
    rw [← names_one (c := f) l]
    unfold namesE
    simp only [List.mem_map]
    constructor
    · rintro ⟨z, hz, rfl⟩
      obtain ⟨e, he, rfl⟩ := List.mem_map.1 ((hmem z).1 hz)
      exact ⟨_, ⟨e, he, rfl⟩, rfl⟩
    · rintro ⟨z, ⟨e, he, rfl⟩, rfl⟩
      exact ⟨_, (hmem _).2 (List.mem_map.2 ⟨e, he, rfl⟩), rfl⟩
  have hp : ∀ d ∈ l, ∀ y, y ∈ PE (uniq cmpE (l.map (oneE f))) d.u ↔ y ∈ PE l d.u := fun d hd y => by
    have hz : oneE f d ∈ uniq cmpE (l.map (oneE f)) := (hmem _).2 (List.mem_map.2 ⟨d, hd, rfl⟩)
    have h1 := PE_of hnd hz
    rw [show (oneE f d).u = d.u from rfl] at h1
    rw [h1, PE_of hn hd]
    exact mem_canU
  constructor
  · rintro ⟨h1, h2, h3⟩
    have h1' := (hnm x).1 h1
    obtain ⟨d, hd, rfl⟩ := List.mem_map.1 h1'
    exact ⟨h1', (hp d hd y).1 h2, (hnm y).1 h3⟩
  · rintro ⟨h1, h2, h3⟩
    obtain ⟨d, hd, rfl⟩ := List.mem_map.1 h1
    exact ⟨(hnm _).2 h1, (hp d hd y).2 h2, (hnm y).2 h3⟩
theorem way_can {f : V → Int × V} {l : List En} (h : (canE f l).1 = 0) {x y : Us} : Way (stepE (canE f l).2) x y ↔ Way (stepE l) x y :=
  ⟨fun w => w.mono fun _ _ => (step_can h).1, fun w => w.mono fun _ _ => (step_can h).2⟩
end Go.Proofs.YtmkillbanmbafaaGreat
