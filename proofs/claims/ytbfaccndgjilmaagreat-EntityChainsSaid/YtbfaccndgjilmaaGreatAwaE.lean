/- The document's examples of layer 5 hold: awake answers true. No condition. -/
import Derived.Test.YtbfaccndgjilmaaGreatECanW
import Derived.Test.YtbfaccndgjilmaaGreatLawP
import Derived.Deep.DeepCutAuto
import Derived.Deep.CutRange
import Derived.Test.YtbfaccndgjilmaaGreatHeadQ
import Derived.Shelf.SlSortCmp.QuietGrown
namespace Go.Proofs.YtbfaccndgjilmaaGreat
open Go.RowKit Go.Sort
theorem box_es {w : World} {b c : Nat} (qs : List Ee) (h : BoxAt w b (qs.flatMap encE)) (hc : qs.length ≤ c) (h9 : c ≤ 9223372036854775807) : EsAt w (.slice (some ⟨b, 0, none⟩) qs.length c) (qs.map Ee.sh) := by
  refine ⟨some ⟨b, 0, none⟩, c, by rw [List.length_map], ⟨by rw [List.length_map]; exact hc, h9⟩, fun j hj => ⟨b, 0, rfl, fun k u hu => ?_⟩⟩
  have hj' : j < qs.length := by simpa using hj
  rw [List.getElem_map] at hu
  have hk : k < 11 := by have := (List.getElem?_eq_some_iff.1 hu).1; simpa [Sh.cs] using this
  rw [Nat.zero_add]
  refine h.at (j * 11 + k) u ?_
  rw [flat_at encE_len qs j k hj' hk]
  exact hu
theorem box_us {w : World} {b c : Nat} (l : List Us) (h : BoxAt w b (l.flatMap Us.cs)) (hc : l.length ≤ c) (h9 : c ≤ 9223372036854775807) : UsIn (fun _ => True) w (.slice (some ⟨b, 0, none⟩) l.length c) l := by
  refine ⟨some ⟨b, 0, none⟩, c, rfl, ⟨hc, h9⟩, fun j hj => ⟨b, 0, rfl, trivial, fun k u hu => ?_⟩⟩
  have hk : k < 2 := by have := (List.getElem?_eq_some_iff.1 hu).1; simpa [Us.cs] using this
  rw [Nat.zero_add]
  refine h.at (j * 2 + k) u ?_
  rw [flat_at encU_len l j k hj hk]
  exact hu
theorem us_none (w : World) : UsIn (fun _ => True) w (.slice none 0 0) [] := ⟨none, 0, rfl, ⟨by simp, by simp⟩, fun j hj => by simp at hj⟩
/-- A record of nothing. -/
def r0 : V := .mk { hd0 with k := 6 } [] []
theorem rep_r0 (w : World) : Rep (fun _ => True) w r0 (.slice none 0 0) (.slice none 0 0) :=
  rep_v.2 ⟨⟨Nat.zero_le _, Nat.zero_le _, Nat.zero_le _⟩, names_nil _ _, none, 0, rfl, ⟨Nat.zero_le _, Nat.zero_le _⟩, .inl rfl⟩
theorem sm_r0 : Sm r0 := by simp [r0, Sm, SmL]
theorem can_r0 : canD r0 = (0, r0) := by kernel_rfl
def uA : Us := ⟨⟨#[85]⟩, ⟨#[97]⟩, by decide, by decide⟩
def uB : Us := ⟨⟨#[85]⟩, ⟨#[98]⟩, by decide, by decide⟩
def enA1 : List En := [⟨uA, [uB], r0⟩, ⟨uB, [uA], r0⟩]
def enA2 : List En := [⟨uB, [], r0⟩, ⟨uA, [uB, uB], r0⟩]
def enA3 : List En := [⟨uA, [uB], r0⟩, ⟨uB, [], r0⟩]
def enA4 : List En := [⟨uA, [uA], V0⟩]
theorem uAB : uA ≠ uB := by decide
theorem names1 : namesE enA1 = [uA, uB] := rfl
theorem names2 : namesE enA2 = [uB, uA] := rfl
theorem errE_r0 {names : List Us} {u : Us} {ps : List Us} (h : ∀ p ∈ ps, p ∈ names) : errE canD names ⟨u, ps, r0⟩ = 0 := by
  unfold errE
  rw [if_neg (by show ¬ (6 : Int) ≠ 6; decide), if_neg (by show ¬ (canD r0).1 ≠ 0; rw [can_r0]; simp), if_pos]
  rw [List.all_eq_true]
  intro x hx
  simpa using h x hx
theorem round1 : RoundE enA1 := ⟨uA, .more (.one (b := uB) ⟨by rw [names1]; simp, by show uB ∈ PE enA1 uA; rw [show PE enA1 uA = [uB] from by kernel_rfl]; simp, by rw [names1]; simp⟩) ⟨by rw [names1]; simp, by rw [show PE enA1 uB = [uA] from by kernel_rfl]; simp, by rw [names1]; simp⟩⟩
theorem can1 : canE canD enA1 = (21, []) := by
  unfold canE
  rw [if_neg (by decide), if_pos (by rw [names1]; simp [uAB]), if_pos, if_pos round1]
  rw [errL_zero]
  intro e he
  simp [enA1] at he
  rcases he with rfl | rfl
  · exact errE_r0 (by rw [names1]; simp)
  · exact errE_r0 (by rw [names1]; simp)
theorem step2 {x y : Us} (h : stepE enA2 x y) : x = uA ∧ y = uB := by
  obtain ⟨h1, h2, h3⟩ := h
  rw [names2] at h1
  simp at h1
  rcases h1 with rfl | rfl
  · rw [show PE enA2 uB = [] from by kernel_rfl] at h2; simp at h2
  · rw [show PE enA2 uA = [uB, uB] from by kernel_rfl] at h2
    simp at h2
    exact ⟨rfl, h2⟩
theorem round2 : ¬ RoundE enA2 := by
  rintro ⟨x, h⟩
  obtain ⟨b, s, h2⟩ := h.first
  obtain ⟨rfl, rfl⟩ := step2 s
  rcases h2 with h2 | h2
  · exact uAB h2.symm
  · obtain ⟨c, s2, -⟩ := h2.first
    exact uAB (step2 s2).1.symm
theorem can2 : canE canD enA2 = (0, enA3) := by
  have h0 : (canE canD enA2).1 = 0 := by
    rw [canE_ok]
    refine ⟨by decide, by rw [names2]; simp [uAB.symm], fun e he => ?_, round2⟩
    simp [enA2] at he
    rcases he with rfl | rfl
    · exact errE_r0 (by simp)
    · exact errE_r0 (by rw [names2]; simp)
  rw [canE_val h0]
  have : uniq cmpE (enA2.map (oneE canD)) = enA3 := by kernel_rfl
  rw [this]
theorem few_ens {l : List En} (h1 : l.length ≤ 2) (h2 : ∀ e ∈ l, e.ps.length ≤ 2) : FewE l := ⟨by omega, fun e he => by have := h2 e he; omega⟩
theorem canA1_c (w : World) : Calls Tryz.prog 14 #[.slice (some ⟨w.heap.size + 1 + 1 + 1 + 1 + 1, 0, none⟩) 2 2] ((((((w.alloc (.cells #[.string ⟨#[85]⟩, .string ⟨#[97]⟩] 31)).alloc (.cells #[.string ⟨#[85]⟩, .string ⟨#[98]⟩] 31)).alloc (.cells #[.int .i64 6, .bool false, .int .i64 0, .string ⟨#[]⟩, .string ⟨#[]⟩, .string ⟨#[]⟩, .slice none 0 0, .slice none 0 0] 35)).alloc (.cells #[.string ⟨#[85]⟩, .string ⟨#[98]⟩] 31)).alloc (.cells #[.string ⟨#[85]⟩, .string ⟨#[97]⟩] 31)).alloc (.cells #[.string ⟨#[85]⟩, .string ⟨#[97]⟩, .slice (some ⟨w.heap.size + 1 + 1 + 1, 0, none⟩) 1 1, .int .i64 6, .bool false, .int .i64 0, .string ⟨#[]⟩, .string ⟨#[]⟩, .string ⟨#[]⟩, .slice none 0 0, .slice none 0 0, .string ⟨#[85]⟩, .string ⟨#[98]⟩, .slice (some ⟨w.heap.size + 1 + 1 + 1 + 1, 0, none⟩) 1 1, .int .i64 6, .bool false, .int .i64 0, .string ⟨#[]⟩, .string ⟨#[]⟩, .string ⟨#[]⟩, .slice none 0 0, .slice none 0 0] 37)) fun e w' => ∃ v, e = .returned (.tuple #[v, .int .i64 21]) ∧ Low ((((((w.alloc (.cells #[.string ⟨#[85]⟩, .string ⟨#[97]⟩] 31)).alloc (.cells #[.string ⟨#[85]⟩, .string ⟨#[98]⟩] 31)).alloc (.cells #[.int .i64 6, .bool false, .int .i64 0, .string ⟨#[]⟩, .string ⟨#[]⟩, .string ⟨#[]⟩, .slice none 0 0, .slice none 0 0] 35)).alloc (.cells #[.string ⟨#[85]⟩, .string ⟨#[98]⟩] 31)).alloc (.cells #[.string ⟨#[85]⟩, .string ⟨#[97]⟩] 31)).alloc (.cells #[.string ⟨#[85]⟩, .string ⟨#[97]⟩, .slice (some ⟨w.heap.size + 1 + 1 + 1, 0, none⟩) 1 1, .int .i64 6, .bool false, .int .i64 0, .string ⟨#[]⟩, .string ⟨#[]⟩, .string ⟨#[]⟩, .slice none 0 0, .slice none 0 0, .string ⟨#[85]⟩, .string ⟨#[98]⟩, .slice (some ⟨w.heap.size + 1 + 1 + 1 + 1, 0, none⟩) 1 1, .int .i64 6, .bool false, .int .i64 0, .string ⟨#[]⟩, .string ⟨#[]⟩, .string ⟨#[]⟩, .slice none 0 0, .slice none 0 0] 37)) w' := by
  have hA : UsIn (fun _ => True) ((((((w.alloc (.cells #[.string ⟨#[85]⟩, .string ⟨#[97]⟩] 31)).alloc (.cells #[.string ⟨#[85]⟩, .string ⟨#[98]⟩] 31)).alloc (.cells #[.int .i64 6, .bool false, .int .i64 0, .string ⟨#[]⟩, .string ⟨#[]⟩, .string ⟨#[]⟩, .slice none 0 0, .slice none 0 0] 35)).alloc (.cells #[.string ⟨#[85]⟩, .string ⟨#[98]⟩] 31)).alloc (.cells #[.string ⟨#[85]⟩, .string ⟨#[97]⟩] 31)).alloc (.cells #[.string ⟨#[85]⟩, .string ⟨#[97]⟩, .slice (some ⟨w.heap.size + 1 + 1 + 1, 0, none⟩) 1 1, .int .i64 6, .bool false, .int .i64 0, .string ⟨#[]⟩, .string ⟨#[]⟩, .string ⟨#[]⟩, .slice none 0 0, .slice none 0 0, .string ⟨#[85]⟩, .string ⟨#[98]⟩, .slice (some ⟨w.heap.size + 1 + 1 + 1 + 1, 0, none⟩) 1 1, .int .i64 6, .bool false, .int .i64 0, .string ⟨#[]⟩, .string ⟨#[]⟩, .string ⟨#[]⟩, .slice none 0 0, .slice none 0 0] 37)) (.slice (some ⟨w.heap.size + 1 + 1 + 1, 0, none⟩) 1 1) [uB] := box_us [uB] (BoxAt.new (C := #[.string ⟨#[85]⟩, .string ⟨#[98]⟩]) (t := 31) _ (Low.alloc (Low.alloc (Low.refl ((((w.alloc (.cells #[.string ⟨#[85]⟩, .string ⟨#[97]⟩] 31)).alloc (.cells #[.string ⟨#[85]⟩, .string ⟨#[98]⟩] 31)).alloc (.cells #[.int .i64 6, .bool false, .int .i64 0, .string ⟨#[]⟩, .string ⟨#[]⟩, .string ⟨#[]⟩, .slice none 0 0, .slice none 0 0] 35)).alloc (.cells #[.string ⟨#[85]⟩, .string ⟨#[98]⟩] 31))) _) _) rfl (by simp)) (Nat.le_refl _) (by decide)
  have hB : UsIn (fun _ => True) ((((((w.alloc (.cells #[.string ⟨#[85]⟩, .string ⟨#[97]⟩] 31)).alloc (.cells #[.string ⟨#[85]⟩, .string ⟨#[98]⟩] 31)).alloc (.cells #[.int .i64 6, .bool false, .int .i64 0, .string ⟨#[]⟩, .string ⟨#[]⟩, .string ⟨#[]⟩, .slice none 0 0, .slice none 0 0] 35)).alloc (.cells #[.string ⟨#[85]⟩, .string ⟨#[98]⟩] 31)).alloc (.cells #[.string ⟨#[85]⟩, .string ⟨#[97]⟩] 31)).alloc (.cells #[.string ⟨#[85]⟩, .string ⟨#[97]⟩, .slice (some ⟨w.heap.size + 1 + 1 + 1, 0, none⟩) 1 1, .int .i64 6, .bool false, .int .i64 0, .string ⟨#[]⟩, .string ⟨#[]⟩, .string ⟨#[]⟩, .slice none 0 0, .slice none 0 0, .string ⟨#[85]⟩, .string ⟨#[98]⟩, .slice (some ⟨w.heap.size + 1 + 1 + 1 + 1, 0, none⟩) 1 1, .int .i64 6, .bool false, .int .i64 0, .string ⟨#[]⟩, .string ⟨#[]⟩, .string ⟨#[]⟩, .slice none 0 0, .slice none 0 0] 37)) (.slice (some ⟨w.heap.size + 1 + 1 + 1 + 1, 0, none⟩) 1 1) [uA] := box_us [uA] (BoxAt.new (C := #[.string ⟨#[85]⟩, .string ⟨#[97]⟩]) (t := 31) _ (Low.alloc (Low.refl (((((w.alloc (.cells #[.string ⟨#[85]⟩, .string ⟨#[97]⟩] 31)).alloc (.cells #[.string ⟨#[85]⟩, .string ⟨#[98]⟩] 31)).alloc (.cells #[.int .i64 6, .bool false, .int .i64 0, .string ⟨#[]⟩, .string ⟨#[]⟩, .string ⟨#[]⟩, .slice none 0 0, .slice none 0 0] 35)).alloc (.cells #[.string ⟨#[85]⟩, .string ⟨#[98]⟩] 31)).alloc (.cells #[.string ⟨#[85]⟩, .string ⟨#[97]⟩] 31))) _) rfl (by simp)) (Nat.le_refl _) (by decide)
  have het : EtAt ((((((w.alloc (.cells #[.string ⟨#[85]⟩, .string ⟨#[97]⟩] 31)).alloc (.cells #[.string ⟨#[85]⟩, .string ⟨#[98]⟩] 31)).alloc (.cells #[.int .i64 6, .bool false, .int .i64 0, .string ⟨#[]⟩, .string ⟨#[]⟩, .string ⟨#[]⟩, .slice none 0 0, .slice none 0 0] 35)).alloc (.cells #[.string ⟨#[85]⟩, .string ⟨#[98]⟩] 31)).alloc (.cells #[.string ⟨#[85]⟩, .string ⟨#[97]⟩] 31)).alloc (.cells #[.string ⟨#[85]⟩, .string ⟨#[97]⟩, .slice (some ⟨w.heap.size + 1 + 1 + 1, 0, none⟩) 1 1, .int .i64 6, .bool false, .int .i64 0, .string ⟨#[]⟩, .string ⟨#[]⟩, .string ⟨#[]⟩, .slice none 0 0, .slice none 0 0, .string ⟨#[85]⟩, .string ⟨#[98]⟩, .slice (some ⟨w.heap.size + 1 + 1 + 1 + 1, 0, none⟩) 1 1, .int .i64 6, .bool false, .int .i64 0, .string ⟨#[]⟩, .string ⟨#[]⟩, .string ⟨#[]⟩, .slice none 0 0, .slice none 0 0] 37)) (.slice (some ⟨w.heap.size + 1 + 1 + 1 + 1 + 1, 0, none⟩) 2 2) [⟨⟨uA, [uB], r0⟩, some ⟨w.heap.size + 1 + 1 + 1, 0, none⟩, 1, none, 0, none, 0⟩, ⟨⟨uB, [uA], r0⟩, some ⟨w.heap.size + 1 + 1 + 1 + 1, 0, none⟩, 1, none, 0, none, 0⟩] := by
    refine ⟨box_es [⟨⟨uA, [uB], r0⟩, some ⟨w.heap.size + 1 + 1 + 1, 0, none⟩, 1, none, 0, none, 0⟩, ⟨⟨uB, [uA], r0⟩, some ⟨w.heap.size + 1 + 1 + 1 + 1, 0, none⟩, 1, none, 0, none, 0⟩] (BoxAt.new _ (Low.refl ((((((w.alloc (.cells #[.string ⟨#[85]⟩, .string ⟨#[97]⟩] 31)).alloc (.cells #[.string ⟨#[85]⟩, .string ⟨#[98]⟩] 31)).alloc (.cells #[.int .i64 6, .bool false, .int .i64 0, .string ⟨#[]⟩, .string ⟨#[]⟩, .string ⟨#[]⟩, .slice none 0 0, .slice none 0 0] 35)).alloc (.cells #[.string ⟨#[85]⟩, .string ⟨#[98]⟩] 31)).alloc (.cells #[.string ⟨#[85]⟩, .string ⟨#[97]⟩] 31)).alloc (.cells #[.string ⟨#[85]⟩, .string ⟨#[97]⟩, .slice (some ⟨w.heap.size + 1 + 1 + 1, 0, none⟩) 1 1, .int .i64 6, .bool false, .int .i64 0, .string ⟨#[]⟩, .string ⟨#[]⟩, .string ⟨#[]⟩, .slice none 0 0, .slice none 0 0, .string ⟨#[85]⟩, .string ⟨#[98]⟩, .slice (some ⟨w.heap.size + 1 + 1 + 1 + 1, 0, none⟩) 1 1, .int .i64 6, .bool false, .int .i64 0, .string ⟨#[]⟩, .string ⟨#[]⟩, .string ⟨#[]⟩, .slice none 0 0, .slice none 0 0] 37))) rfl (by simp)) (Nat.le_refl _) (by decide), fun q hq => ?_⟩
    simp at hq
    rcases hq with rfl | rfl
    · exact ⟨hA, rep_r0 _⟩
    · exact ⟨hB, rep_r0 _⟩
  have hcon := eCanon_c _ _ _ het (few_ens (by simp [ensOf]) (by intro e he; simp [ensOf] at he; rcases he with rfl | rfl <;> decide)) (by intro q hq; simp at hq; rcases hq with rfl | rfl <;> exact sm_r0)
  rw [show ensOf [⟨⟨uA, [uB], r0⟩, some ⟨w.heap.size + 1 + 1 + 1, 0, none⟩, 1, none, 0, none, 0⟩, ⟨⟨uB, [uA], r0⟩, some ⟨w.heap.size + 1 + 1 + 1 + 1, 0, none⟩, 1, none, 0, none, 0⟩] = enA1 from rfl, can1] at hcon
  refine hcon.mono ?_
  rintro e w' ⟨v, rfl, h, -⟩
  exact ⟨v, rfl, h⟩
theorem canA2_c (w : World) : Calls Tryz.prog 14 #[.slice (some ⟨w.heap.size + 1, 0, none⟩) 2 2] ((w.alloc (.cells #[.string ⟨#[85]⟩, .string ⟨#[98]⟩, .string ⟨#[85]⟩, .string ⟨#[98]⟩] 31)).alloc (.cells #[.string ⟨#[85]⟩, .string ⟨#[98]⟩, .slice none 0 0, .int .i64 6, .bool false, .int .i64 0, .string ⟨#[]⟩, .string ⟨#[]⟩, .string ⟨#[]⟩, .slice none 0 0, .slice none 0 0, .string ⟨#[85]⟩, .string ⟨#[97]⟩, .slice (some ⟨w.heap.size, 0, none⟩) 2 2, .int .i64 6, .bool false, .int .i64 0, .string ⟨#[]⟩, .string ⟨#[]⟩, .string ⟨#[]⟩, .slice none 0 0, .slice none 0 0] 37)) fun e w' => ∃ (b o c : Nat) (ap : Option Addr) (cp : Nat), e = .returned (.tuple #[.slice (some ⟨b, o, none⟩) 2 c, .int .i64 0]) ∧ Low ((w.alloc (.cells #[.string ⟨#[85]⟩, .string ⟨#[98]⟩, .string ⟨#[85]⟩, .string ⟨#[98]⟩] 31)).alloc (.cells #[.string ⟨#[85]⟩, .string ⟨#[98]⟩, .slice none 0 0, .int .i64 6, .bool false, .int .i64 0, .string ⟨#[]⟩, .string ⟨#[]⟩, .string ⟨#[]⟩, .slice none 0 0, .slice none 0 0, .string ⟨#[85]⟩, .string ⟨#[97]⟩, .slice (some ⟨w.heap.size, 0, none⟩) 2 2, .int .i64 6, .bool false, .int .i64 0, .string ⟨#[]⟩, .string ⟨#[]⟩, .string ⟨#[]⟩, .slice none 0 0, .slice none 0 0] 37)) w' ∧ 2 ≤ c ∧
    w'.cell? ⟨b, o, none⟩ = some (.string ⟨#[85]⟩) ∧ w'.cell? ⟨b, o + 1, none⟩ = some (.string ⟨#[97]⟩) ∧ w'.cell? ⟨b, o + 2, none⟩ = some (.slice ap 1 cp) := by
  have hB : UsIn (fun _ => True) ((w.alloc (.cells #[.string ⟨#[85]⟩, .string ⟨#[98]⟩, .string ⟨#[85]⟩, .string ⟨#[98]⟩] 31)).alloc (.cells #[.string ⟨#[85]⟩, .string ⟨#[98]⟩, .slice none 0 0, .int .i64 6, .bool false, .int .i64 0, .string ⟨#[]⟩, .string ⟨#[]⟩, .string ⟨#[]⟩, .slice none 0 0, .slice none 0 0, .string ⟨#[85]⟩, .string ⟨#[97]⟩, .slice (some ⟨w.heap.size, 0, none⟩) 2 2, .int .i64 6, .bool false, .int .i64 0, .string ⟨#[]⟩, .string ⟨#[]⟩, .string ⟨#[]⟩, .slice none 0 0, .slice none 0 0] 37)) (.slice (some ⟨w.heap.size, 0, none⟩) 2 2) [uB, uB] := box_us [uB, uB] (BoxAt.new (C := #[.string ⟨#[85]⟩, .string ⟨#[98]⟩, .string ⟨#[85]⟩, .string ⟨#[98]⟩]) (t := 31) _ (Low.alloc (Low.refl (w.alloc (.cells #[.string ⟨#[85]⟩, .string ⟨#[98]⟩, .string ⟨#[85]⟩, .string ⟨#[98]⟩] 31))) _) rfl rfl) (Nat.le_refl _) (by decide)
  have het : EtAt ((w.alloc (.cells #[.string ⟨#[85]⟩, .string ⟨#[98]⟩, .string ⟨#[85]⟩, .string ⟨#[98]⟩] 31)).alloc (.cells #[.string ⟨#[85]⟩, .string ⟨#[98]⟩, .slice none 0 0, .int .i64 6, .bool false, .int .i64 0, .string ⟨#[]⟩, .string ⟨#[]⟩, .string ⟨#[]⟩, .slice none 0 0, .slice none 0 0, .string ⟨#[85]⟩, .string ⟨#[97]⟩, .slice (some ⟨w.heap.size, 0, none⟩) 2 2, .int .i64 6, .bool false, .int .i64 0, .string ⟨#[]⟩, .string ⟨#[]⟩, .string ⟨#[]⟩, .slice none 0 0, .slice none 0 0] 37)) (.slice (some ⟨w.heap.size + 1, 0, none⟩) 2 2) [⟨⟨uB, [], r0⟩, none, 0, none, 0, none, 0⟩, ⟨⟨uA, [uB, uB], r0⟩, some ⟨w.heap.size, 0, none⟩, 2, none, 0, none, 0⟩] := by
    refine ⟨box_es [⟨⟨uB, [], r0⟩, none, 0, none, 0, none, 0⟩, ⟨⟨uA, [uB, uB], r0⟩, some ⟨w.heap.size, 0, none⟩, 2, none, 0, none, 0⟩] (BoxAt.new _ (Low.refl ((w.alloc (.cells #[.string ⟨#[85]⟩, .string ⟨#[98]⟩, .string ⟨#[85]⟩, .string ⟨#[98]⟩] 31)).alloc (.cells #[.string ⟨#[85]⟩, .string ⟨#[98]⟩, .slice none 0 0, .int .i64 6, .bool false, .int .i64 0, .string ⟨#[]⟩, .string ⟨#[]⟩, .string ⟨#[]⟩, .slice none 0 0, .slice none 0 0, .string ⟨#[85]⟩, .string ⟨#[97]⟩, .slice (some ⟨w.heap.size, 0, none⟩) 2 2, .int .i64 6, .bool false, .int .i64 0, .string ⟨#[]⟩, .string ⟨#[]⟩, .string ⟨#[]⟩, .slice none 0 0, .slice none 0 0] 37))) rfl (by simp)) (Nat.le_refl _) (by decide), fun q hq => ?_⟩
    simp at hq
    rcases hq with rfl | rfl
    · exact ⟨us_none _, rep_r0 _⟩
    · exact ⟨hB, rep_r0 _⟩
  have hcon := eCanon_c _ _ _ het (few_ens (by simp [ensOf]) (by intro e he; simp [ensOf] at he; rcases he with rfl | rfl <;> decide)) (by intro q hq; simp at hq; rcases hq with rfl | rfl <;> exact sm_r0)
  rw [show ensOf [⟨⟨uB, [], r0⟩, none, 0, none, 0, none, 0⟩, ⟨⟨uA, [uB, uB], r0⟩, some ⟨w.heap.size, 0, none⟩, 2, none, 0, none, 0⟩] = enA2 from rfl, can2] at hcon
  refine hcon.mono ?_
  rintro e w' ⟨v, rfl, h, rs, hrs, het⟩
  have hrs' : ensOf rs = enA3 := hrs
  obtain ⟨q0, q1, rfl⟩ : ∃ q0 q1, rs = [q0, q1] := by
    match rs, hrs' with
    | [q0, q1], _ => exact ⟨q0, q1, rfl⟩
    | [], h => simp [ensOf, enA3] at h
    | [_], h => simp [ensOf, enA3] at h
    | _ :: _ :: _ :: _, h => simp [ensOf, enA3] at h
  simp [ensOf, enA3] at hrs'
  obtain ⟨h0, h1⟩ := hrs'
  obtain ⟨ao, c, rfl, ⟨hc, -⟩, hx⟩ := het.at
  obtain ⟨b, o, rfl, hcs⟩ := hx 0 (by simp)
  obtain ⟨e0, e1, e2, -⟩ := ee11 hcs
  simp only [List.getElem_cons_zero, Nat.zero_mul, Nat.add_zero, h0] at e0 e1 e2
  exact ⟨b, o, c, _, _, rfl, h, hc, e0, e1, e2⟩
theorem roundA_c (w : World) : Calls Tryz.prog 17 #[.slice (some ⟨w.heap.size + 1, 0, none⟩) 1 1] ((w.alloc (.cells #[.string ⟨#[85]⟩, .string ⟨#[97]⟩] 31)).alloc (.cells #[.string ⟨#[85]⟩, .string ⟨#[97]⟩, .slice (some ⟨w.heap.size, 0, none⟩) 1 1, .int .i64 0, .bool false, .int .i64 0, .string ⟨#[]⟩, .string ⟨#[]⟩, .string ⟨#[]⟩, .slice none 0 0, .slice none 0 0] 37)) fun e w' => e = .returned (.bool true) ∧ Low ((w.alloc (.cells #[.string ⟨#[85]⟩, .string ⟨#[97]⟩] 31)).alloc (.cells #[.string ⟨#[85]⟩, .string ⟨#[97]⟩, .slice (some ⟨w.heap.size, 0, none⟩) 1 1, .int .i64 0, .bool false, .int .i64 0, .string ⟨#[]⟩, .string ⟨#[]⟩, .string ⟨#[]⟩, .slice none 0 0, .slice none 0 0] 37)) w' := by
  have hB : UsIn (fun _ => True) ((w.alloc (.cells #[.string ⟨#[85]⟩, .string ⟨#[97]⟩] 31)).alloc (.cells #[.string ⟨#[85]⟩, .string ⟨#[97]⟩, .slice (some ⟨w.heap.size, 0, none⟩) 1 1, .int .i64 0, .bool false, .int .i64 0, .string ⟨#[]⟩, .string ⟨#[]⟩, .string ⟨#[]⟩, .slice none 0 0, .slice none 0 0] 37)) (.slice (some ⟨w.heap.size, 0, none⟩) 1 1) [uA] := box_us [uA] (BoxAt.new (C := #[.string ⟨#[85]⟩, .string ⟨#[97]⟩]) (t := 31) _ (Low.alloc (Low.refl (w.alloc (.cells #[.string ⟨#[85]⟩, .string ⟨#[97]⟩] 31))) _) rfl rfl) (Nat.le_refl _) (by decide)
  have hok : ∀ q ∈ [(⟨⟨uA, [uA], V0⟩, some ⟨w.heap.size, 0, none⟩, 1, none, 0, none, 0⟩ : Ee)], EeOk (fun _ => True) ((w.alloc (.cells #[.string ⟨#[85]⟩, .string ⟨#[97]⟩] 31)).alloc (.cells #[.string ⟨#[85]⟩, .string ⟨#[97]⟩, .slice (some ⟨w.heap.size, 0, none⟩) 1 1, .int .i64 0, .bool false, .int .i64 0, .string ⟨#[]⟩, .string ⟨#[]⟩, .string ⟨#[]⟩, .slice none 0 0, .slice none 0 0] 37)) q := fun q hq => by
    simp at hq
    subst hq
    exact ⟨hB, rep_V0 _ _⟩
  have hes : EsAt ((w.alloc (.cells #[.string ⟨#[85]⟩, .string ⟨#[97]⟩] 31)).alloc (.cells #[.string ⟨#[85]⟩, .string ⟨#[97]⟩, .slice (some ⟨w.heap.size, 0, none⟩) 1 1, .int .i64 0, .bool false, .int .i64 0, .string ⟨#[]⟩, .string ⟨#[]⟩, .string ⟨#[]⟩, .slice none 0 0, .slice none 0 0] 37)) (.slice (some ⟨w.heap.size + 1, 0, none⟩) 1 1) ([(⟨⟨uA, [uA], V0⟩, some ⟨w.heap.size, 0, none⟩, 1, none, 0, none, 0⟩ : Ee)].map Ee.sh) := box_es [⟨⟨uA, [uA], V0⟩, some ⟨w.heap.size, 0, none⟩, 1, none, 0, none, 0⟩] (BoxAt.new _ (Low.refl ((w.alloc (.cells #[.string ⟨#[85]⟩, .string ⟨#[97]⟩] 31)).alloc (.cells #[.string ⟨#[85]⟩, .string ⟨#[97]⟩, .slice (some ⟨w.heap.size, 0, none⟩) 1 1, .int .i64 0, .bool false, .int .i64 0, .string ⟨#[]⟩, .string ⟨#[]⟩, .string ⟨#[]⟩, .slice none 0 0, .slice none 0 0] 37))) rfl (by simp)) (Nat.le_refl _) (by decide)
  refine (round_c _ (PE enA4) _ _ (by simp) hes (rowsE hok (few_ens (by simp [ensOf]) (by intro e he; simp [ensOf] at he; subst he; decide)))).mono ?_
  rintro e w' ⟨q, rfl, hq, h⟩
  have hr : RoundE enA4 := ⟨uA, .one ⟨by simp [enA4, namesE], by rw [show PE enA4 uA = [uA] from by kernel_rfl]; simp, by simp [enA4, namesE]⟩⟩
  have := (round_word [⟨⟨uA, [uA], V0⟩, some ⟨w.heap.size, 0, none⟩, 1, none, 0, none, 0⟩]).2 hr
  rw [hq.2 this]
  exact ⟨rfl, h⟩
set_option maxHeartbeats 8000000 in
set_option maxRecDepth 100000 in
theorem awake5_c (w : World) : Calls Tryz.prog 12 #[] w fun e w' => e = .returned (.bool true) ∧ Low w w' := by
  have HC1 := Lib.hid (canA1_c w)
  have hL : Low w ((((((w.alloc (.cells #[.string ⟨#[85]⟩, .string ⟨#[97]⟩] 31)).alloc (.cells #[.string ⟨#[85]⟩, .string ⟨#[98]⟩] 31)).alloc (.cells #[.int .i64 6, .bool false, .int .i64 0, .string ⟨#[]⟩, .string ⟨#[]⟩, .string ⟨#[]⟩, .slice none 0 0, .slice none 0 0] 35)).alloc (.cells #[.string ⟨#[85]⟩, .string ⟨#[98]⟩] 31)).alloc (.cells #[.string ⟨#[85]⟩, .string ⟨#[97]⟩] 31)).alloc (.cells #[.string ⟨#[85]⟩, .string ⟨#[97]⟩, .slice (some ⟨w.heap.size + 1 + 1 + 1, 0, none⟩) 1 1, .int .i64 6, .bool false, .int .i64 0, .string ⟨#[]⟩, .string ⟨#[]⟩, .string ⟨#[]⟩, .slice none 0 0, .slice none 0 0, .string ⟨#[85]⟩, .string ⟨#[98]⟩, .slice (some ⟨w.heap.size + 1 + 1 + 1 + 1, 0, none⟩) 1 1, .int .i64 6, .bool false, .int .i64 0, .string ⟨#[]⟩, .string ⟨#[]⟩, .string ⟨#[]⟩, .slice none 0 0, .slice none 0 0] 37)) := Low.alloc (Low.alloc (Low.alloc (Low.alloc (Low.alloc (Low.alloc (Low.refl w) _) _) _) _) _) _
  have HL := Lib.hid hL
  have BA := Lib.hid (BoxAt.new (C := #[.string ⟨#[85]⟩, .string ⟨#[97]⟩]) (cs := [.string ⟨#[85]⟩, .string ⟨#[97]⟩]) (t := 31) w.heap.size (show Low (w.alloc (.cells #[.string ⟨#[85]⟩, .string ⟨#[97]⟩] 31)) ((((((w.alloc (.cells #[.string ⟨#[85]⟩, .string ⟨#[97]⟩] 31)).alloc (.cells #[.string ⟨#[85]⟩, .string ⟨#[98]⟩] 31)).alloc (.cells #[.int .i64 6, .bool false, .int .i64 0, .string ⟨#[]⟩, .string ⟨#[]⟩, .string ⟨#[]⟩, .slice none 0 0, .slice none 0 0] 35)).alloc (.cells #[.string ⟨#[85]⟩, .string ⟨#[98]⟩] 31)).alloc (.cells #[.string ⟨#[85]⟩, .string ⟨#[97]⟩] 31)).alloc (.cells #[.string ⟨#[85]⟩, .string ⟨#[97]⟩, .slice (some ⟨w.heap.size + 1 + 1 + 1, 0, none⟩) 1 1, .int .i64 6, .bool false, .int .i64 0, .string ⟨#[]⟩, .string ⟨#[]⟩, .string ⟨#[]⟩, .slice none 0 0, .slice none 0 0, .string ⟨#[85]⟩, .string ⟨#[98]⟩, .slice (some ⟨w.heap.size + 1 + 1 + 1 + 1, 0, none⟩) 1 1, .int .i64 6, .bool false, .int .i64 0, .string ⟨#[]⟩, .string ⟨#[]⟩, .string ⟨#[]⟩, .slice none 0 0, .slice none 0 0] 37)) from Low.alloc (Low.alloc (Low.alloc (Low.alloc (Low.alloc (Low.refl _) _) _) _) _) _) rfl rfl)
  have BB := Lib.hid (BoxAt.new (C := #[.string ⟨#[85]⟩, .string ⟨#[98]⟩]) (cs := [.string ⟨#[85]⟩, .string ⟨#[98]⟩]) (t := 31) (w.heap.size + 1) (show Low ((w.alloc (.cells #[.string ⟨#[85]⟩, .string ⟨#[97]⟩] 31)).alloc (.cells #[.string ⟨#[85]⟩, .string ⟨#[98]⟩] 31)) ((((((w.alloc (.cells #[.string ⟨#[85]⟩, .string ⟨#[97]⟩] 31)).alloc (.cells #[.string ⟨#[85]⟩, .string ⟨#[98]⟩] 31)).alloc (.cells #[.int .i64 6, .bool false, .int .i64 0, .string ⟨#[]⟩, .string ⟨#[]⟩, .string ⟨#[]⟩, .slice none 0 0, .slice none 0 0] 35)).alloc (.cells #[.string ⟨#[85]⟩, .string ⟨#[98]⟩] 31)).alloc (.cells #[.string ⟨#[85]⟩, .string ⟨#[97]⟩] 31)).alloc (.cells #[.string ⟨#[85]⟩, .string ⟨#[97]⟩, .slice (some ⟨w.heap.size + 1 + 1 + 1, 0, none⟩) 1 1, .int .i64 6, .bool false, .int .i64 0, .string ⟨#[]⟩, .string ⟨#[]⟩, .string ⟨#[]⟩, .slice none 0 0, .slice none 0 0, .string ⟨#[85]⟩, .string ⟨#[98]⟩, .slice (some ⟨w.heap.size + 1 + 1 + 1 + 1, 0, none⟩) 1 1, .int .i64 6, .bool false, .int .i64 0, .string ⟨#[]⟩, .string ⟨#[]⟩, .string ⟨#[]⟩, .slice none 0 0, .slice none 0 0] 37)) from Low.alloc (Low.alloc (Low.alloc (Low.alloc (Low.refl _) _) _) _) _) rfl (by simp))
  have BR := Lib.hid (BoxAt.new (C := #[.int .i64 6, .bool false, .int .i64 0, .string ⟨#[]⟩, .string ⟨#[]⟩, .string ⟨#[]⟩, .slice none 0 0, .slice none 0 0]) (cs := [.int .i64 6, .bool false, .int .i64 0, .string ⟨#[]⟩, .string ⟨#[]⟩, .string ⟨#[]⟩, .slice none 0 0, .slice none 0 0]) (t := 35) (w.heap.size + 1 + 1) (show Low (((w.alloc (.cells #[.string ⟨#[85]⟩, .string ⟨#[97]⟩] 31)).alloc (.cells #[.string ⟨#[85]⟩, .string ⟨#[98]⟩] 31)).alloc (.cells #[.int .i64 6, .bool false, .int .i64 0, .string ⟨#[]⟩, .string ⟨#[]⟩, .string ⟨#[]⟩, .slice none 0 0, .slice none 0 0] 35)) ((((((w.alloc (.cells #[.string ⟨#[85]⟩, .string ⟨#[97]⟩] 31)).alloc (.cells #[.string ⟨#[85]⟩, .string ⟨#[98]⟩] 31)).alloc (.cells #[.int .i64 6, .bool false, .int .i64 0, .string ⟨#[]⟩, .string ⟨#[]⟩, .string ⟨#[]⟩, .slice none 0 0, .slice none 0 0] 35)).alloc (.cells #[.string ⟨#[85]⟩, .string ⟨#[98]⟩] 31)).alloc (.cells #[.string ⟨#[85]⟩, .string ⟨#[97]⟩] 31)).alloc (.cells #[.string ⟨#[85]⟩, .string ⟨#[97]⟩, .slice (some ⟨w.heap.size + 1 + 1 + 1, 0, none⟩) 1 1, .int .i64 6, .bool false, .int .i64 0, .string ⟨#[]⟩, .string ⟨#[]⟩, .string ⟨#[]⟩, .slice none 0 0, .slice none 0 0, .string ⟨#[85]⟩, .string ⟨#[98]⟩, .slice (some ⟨w.heap.size + 1 + 1 + 1 + 1, 0, none⟩) 1 1, .int .i64 6, .bool false, .int .i64 0, .string ⟨#[]⟩, .string ⟨#[]⟩, .string ⟨#[]⟩, .slice none 0 0, .slice none 0 0] 37)) from Low.alloc (Low.alloc (Low.alloc (Low.refl _) _) _) _) rfl (by simp))
  clear hL
  go_enter Tryz.func12, Tryz.ntmps12
  go_wp2_with fail
  refine HC1.out.mono ?_
  rintro e w7 ⟨v1, rfl, h7⟩
  have LA := Lib.hid (HL.out.trans h7)
  have BA7 := Lib.hid (BA.out.low h7)
  have BB7 := Lib.hid (BB.out.low h7)
  have BR7 := Lib.hid (BR.out.low h7)
  clear HC1 HL BA BB BR h7
  have a0 : ∀ X, (w7.alloc X).cell? ⟨w.heap.size, 0, none⟩ = some (.string ⟨#[85]⟩) := fun X => (BA7.out.low (Low.alloc (Low.refl w7) X)).at 0 _ rfl
  have a1 : ∀ X, (w7.alloc X).cell? ⟨w.heap.size, 1, none⟩ = some (.string ⟨#[97]⟩) := fun X => (BA7.out.low (Low.alloc (Low.refl w7) X)).at 1 _ rfl
  obtain ⟨c0, c1⟩ := BA7.out.at2
  obtain ⟨b0, b1⟩ := BB7.out.at2
  obtain ⟨x0, x1, x2, x3, x4, x5, x6, x7⟩ := BR7.out.at8
  have y0 : ∀ X, (w7.alloc X).cell? ⟨w.heap.size + 1 + 1, 0, none⟩ = some (.int .i64 6) := fun X => (BR7.out.low (Low.alloc (Low.refl w7) X)).at 0 _ rfl
  have y1 : ∀ X, (w7.alloc X).cell? ⟨w.heap.size + 1 + 1, 1, none⟩ = some (.bool false) := fun X => (BR7.out.low (Low.alloc (Low.refl w7) X)).at 1 _ rfl
  have y2 : ∀ X, (w7.alloc X).cell? ⟨w.heap.size + 1 + 1, 2, none⟩ = some (.int .i64 0) := fun X => (BR7.out.low (Low.alloc (Low.refl w7) X)).at 2 _ rfl
  have y3 : ∀ X, (w7.alloc X).cell? ⟨w.heap.size + 1 + 1, 3, none⟩ = some (.string ⟨#[]⟩) := fun X => (BR7.out.low (Low.alloc (Low.refl w7) X)).at 3 _ rfl
  have y4 : ∀ X, (w7.alloc X).cell? ⟨w.heap.size + 1 + 1, 4, none⟩ = some (.string ⟨#[]⟩) := fun X => (BR7.out.low (Low.alloc (Low.refl w7) X)).at 4 _ rfl
  have y5 : ∀ X, (w7.alloc X).cell? ⟨w.heap.size + 1 + 1, 5, none⟩ = some (.string ⟨#[]⟩) := fun X => (BR7.out.low (Low.alloc (Low.refl w7) X)).at 5 _ rfl
  have y6 : ∀ X, (w7.alloc X).cell? ⟨w.heap.size + 1 + 1, 6, none⟩ = some (.slice none 0 0) := fun X => (BR7.out.low (Low.alloc (Low.refl w7) X)).at 6 _ rfl
  have y7 : ∀ X, (w7.alloc X).cell? ⟨w.heap.size + 1 + 1, 7, none⟩ = some (.slice none 0 0) := fun X => (BR7.out.low (Low.alloc (Low.refl w7) X)).at 7 _ rfl
  have HC2 := Lib.hid (canA2_c w7)
  go_upto_region 5 with fail
  go_cut [6, 7] from 8 to 39 (fun s6 s7 wx => ∃ (b o c : Nat) (ap : Option Addr) (cp : Nat), s6 = .slice (some ⟨b, o, none⟩) 2 c ∧ s7 = .int .i64 0 ∧ Hid (Low w wx) ∧ Hid (BoxAt wx w.heap.size [.string ⟨#[85]⟩, .string ⟨#[97]⟩]) ∧ Hid (BoxAt wx (w.heap.size + 1) [.string ⟨#[85]⟩, .string ⟨#[98]⟩]) ∧ 2 ≤ c ∧ wx.cell? ⟨b, o, none⟩ = some (.string ⟨#[85]⟩) ∧ wx.cell? ⟨b, o + 1, none⟩ = some (.string ⟨#[97]⟩) ∧ wx.cell? ⟨b, o + 2, none⟩ = some (.slice ap 1 cp))
  case first =>
    go_wp2_with fail
    refine HC2.out.mono ?_
    rintro e w8 ⟨b, o, c, ap, cp, rfl, h8, hc2, e0, e1, e2⟩
    have h78 : Low w7 w8 := (Low.alloc (Low.alloc (Low.refl w7) _) _).trans h8
    have HH := Lib.hid (And.intro hc2 (And.intro e0 (And.intro e1 e2)))
    clear e0 e1 e2 a0 a1 c0 c1 b0 b1 x0 x1 x2 x3 x4 x5 x6 x7 y0 y1 y2 y3 y4 y5 y6 y7
    go_wp2_with fail
    go_meet
    case rel => exact ⟨b, o, c, ap, cp, rfl, rfl, Lib.hid (LA.out.trans h78), Lib.hid (BA7.out.low h78), Lib.hid (BB7.out.low h78), HH.out⟩
  case rest =>
  clear HC2 a0 a1 c0 c1 b0 b1 x0 x1 x2 x3 x4 x5 x6 x7 y0 y1 y2 y3 y4 y5 y6 y7 BA7 BB7 BR7 LA
  obtain ⟨b, o, c, ap, cp, rfl, rfl, LB, BA8, BB8, hc2, e0, e1, e2⟩ := hcut
  obtain ⟨w8, hw8⟩ : ∃ W, W = wc := ⟨_, rfl⟩
  subst hw8
  obtain ⟨c0, c1⟩ := BA8.out.at2
  obtain ⟨b0, b1⟩ := BB8.out.at2
  have ho : cmpUs uA uB = -1 := by kernel_rfl
  have c3 : ∀ X, Calls Tryz.prog 28 #[.agg #[.string ⟨#[85]⟩, .string ⟨#[97]⟩], .agg #[.string ⟨#[85]⟩, .string ⟨#[98]⟩]] X fun e w' => e = .returned (.int .i64 (-1)) ∧ Gr X w' := fun X => by rw [← ho]; exact eOrder_c uA uB X
  have CO := Lib.hid fun n os => Calls.grown_of (c3 (grow (w8.drewN n) os))
  have HR := Lib.hid fun W => roundA_c W
  have mixed : Tryz.prog.follows .mixedOrders = true := by kernel_rfl
  have up : ∀ {a : Addr} {u : Value}, w8.cell? a = some u → ∀ n os, (grow (w8.drewN n) os).cell? a = some u := fun h n os => (Gr.grow (Gr.refl w8) n os).cell h
  have E0 := up e0
  have E1 := up e1
  have E2 := up e2
  have C0 := up c0
  have C1 := up c1
  have B0 := up b0
  have B1 := up b1
  clear ho c3 up e0 e1 e2 c0 c1 b0 b1
  go_wp2_with fail
  refine wp_region_head (C := fun w' => ∃ p : GrownBy, w' = grow (w8.drewN p.n) p.os) 34 mixed (by kernel_rfl) ⟨⟨1, #[]⟩, by rw [grow_empty]; rfl⟩ ?_
  simp only [List.take_succ_cons, List.take_zero]
  repeat (quiet_step ((first | (with_reducible exact CO.out _ _))))
  refine wpQuiet_nil ?_
  rintro W9 ⟨⟨nq, osq⟩, hW⟩
  have L9 := Lib.hid (LB.out.trans (hW ▸ (Gr.grow (Gr.refl w8) nq osq).low : Low w8 W9))
  have BA9 := Lib.hid (BA8.out.low (hW ▸ (Gr.grow (Gr.refl w8) nq osq).low : Low w8 W9))
  clear hW E0 E1 E2 C0 C1 B0 B1 CO
  have HR9 := Lib.hid (HR.out W9)
  obtain ⟨c0, c1⟩ := BA9.out.at2
  have d0 : ∀ X, (W9.alloc X).cell? ⟨w.heap.size, 0, none⟩ = some (.string ⟨#[85]⟩) := fun X => (BA9.out.low (Low.alloc (Low.refl W9) X)).at 0 _ rfl
  have d1 : ∀ X, (W9.alloc X).cell? ⟨w.heap.size, 1, none⟩ = some (.string ⟨#[97]⟩) := fun X => (BA9.out.low (Low.alloc (Low.refl W9) X)).at 1 _ rfl
  refine wpAny_ready (fuel := 7) (rs := [34, 35]) (by kernel_rfl) (by simp) ?_
  refine AllReady.cons rfl (fun K hK => ?_) ?_
  · go_simp
    refine hK _ _ ?_
    clear hK K
    refine wpAny_ready (fuel := 6) (rs := [35]) (by kernel_rfl) (by simp) ?_
    refine AllReady.cons rfl (fun K hK => ?_) ?_
    · go_simp
      refine hK _ _ ?_
      clear hK K
      refine wpAny_ready (fuel := 5) (rs := [36]) (by kernel_rfl) (by simp) ?_
      refine AllReady.cons rfl (fun K hK => ?_) ?_
      · go_simp
        refine hK _ _ ?_
        clear hK K
        refine wpAny_ready (fuel := 4) (rs := [37]) (by kernel_rfl) (by simp) ?_
        refine AllReady.cons rfl (fun K hK => ?_) ?_
        · go_simp
          refine hK _ _ ?_
          clear hK K
          refine wpAny_ready (fuel := 3) (rs := [38]) (by kernel_rfl) (by simp) ?_
          refine AllReady.cons rfl (fun K hK => ?_) ?_
          · go_simp
            refine hK _ _ ?_
            clear hK K
            refine wpAny_ready (fuel := 2) (rs := [39]) (by kernel_rfl) (by simp) ?_
            refine AllReady.cons rfl (fun K hK => ?_) ?_
            · go_simp
              go_at_call 17
              with_reducible refine HR9.out.mono ?_
              rintro e w10 ⟨rfl, h10⟩
              have L10 := Lib.hid (L9.out.trans ((Low.alloc (Low.alloc (Low.refl W9) _) _).trans h10))
              try go_simp
              try (refine hK _ _ ?_; clear hK K)
              refine wpAny_ready (fuel := 1) (rs := [40]) (by kernel_rfl) (by simp) ?_
              refine AllReady.cons rfl (fun K hK => ?_) ?_
              · go_simp
                refine hK _ _ ?_
                clear hK K
                refine wpAny_ready (fuel := 0) (rs := [41]) (by kernel_rfl) (by simp) ?_
                refine AllReady.cons rfl (fun K hK => ?_) ?_
                · go_simp
                  refine hK _ _ ?_
                  clear hK K
                  refine wpAny_done (by kernel_rfl) ?_ _
                  go_wp2_with fail
                  go_ret
                  exact ⟨rfl, L10.out⟩
                exact AllReady.nil
              exact AllReady.nil
            exact AllReady.nil
          exact AllReady.nil
        exact AllReady.nil
      exact AllReady.nil
    exact AllReady.nil
  refine AllReady.cons rfl (fun K hK => ?_) ?_
  · go_simp
    refine hK _ _ ?_
    clear hK K
    refine wpAny_ready (fuel := 6) (rs := [34, 36]) (by kernel_rfl) (by simp) ?_
    refine AllReady.cons rfl (fun K hK => ?_) ?_
    · go_simp
      refine hK _ _ ?_
      clear hK K
      refine wpAny_ready (fuel := 5) (rs := [36]) (by kernel_rfl) (by simp) ?_
      refine AllReady.cons rfl (fun K hK => ?_) ?_
      · go_simp
        refine hK _ _ ?_
        clear hK K
        refine wpAny_ready (fuel := 4) (rs := [37]) (by kernel_rfl) (by simp) ?_
        refine AllReady.cons rfl (fun K hK => ?_) ?_
        · go_simp
          refine hK _ _ ?_
          clear hK K
          refine wpAny_ready (fuel := 3) (rs := [38]) (by kernel_rfl) (by simp) ?_
          refine AllReady.cons rfl (fun K hK => ?_) ?_
          · go_simp
            refine hK _ _ ?_
            clear hK K
            refine wpAny_ready (fuel := 2) (rs := [39]) (by kernel_rfl) (by simp) ?_
            refine AllReady.cons rfl (fun K hK => ?_) ?_
            · go_simp
              go_at_call 17
              with_reducible refine HR9.out.mono ?_
              rintro e w10 ⟨rfl, h10⟩
              have L10 := Lib.hid (L9.out.trans ((Low.alloc (Low.alloc (Low.refl W9) _) _).trans h10))
              try go_simp
              try (refine hK _ _ ?_; clear hK K)
              refine wpAny_ready (fuel := 1) (rs := [40]) (by kernel_rfl) (by simp) ?_
              refine AllReady.cons rfl (fun K hK => ?_) ?_
              · go_simp
                refine hK _ _ ?_
                clear hK K
                refine wpAny_ready (fuel := 0) (rs := [41]) (by kernel_rfl) (by simp) ?_
                refine AllReady.cons rfl (fun K hK => ?_) ?_
                · go_simp
                  refine hK _ _ ?_
                  clear hK K
                  refine wpAny_done (by kernel_rfl) ?_ _
                  go_wp2_with fail
                  go_ret
                  exact ⟨rfl, L10.out⟩
                exact AllReady.nil
              exact AllReady.nil
            exact AllReady.nil
          exact AllReady.nil
        exact AllReady.nil
      exact AllReady.nil
    refine AllReady.cons rfl (fun K hK => ?_) ?_
    · go_simp
      refine hK _ _ ?_
      clear hK K
      refine wpAny_ready (fuel := 5) (rs := [34]) (by kernel_rfl) (by simp) ?_
      refine AllReady.cons rfl (fun K hK => ?_) ?_
      · go_simp
        refine hK _ _ ?_
        clear hK K
        refine wpAny_ready (fuel := 4) (rs := [37]) (by kernel_rfl) (by simp) ?_
        refine AllReady.cons rfl (fun K hK => ?_) ?_
        · go_simp
          refine hK _ _ ?_
          clear hK K
          refine wpAny_ready (fuel := 3) (rs := [38]) (by kernel_rfl) (by simp) ?_
          refine AllReady.cons rfl (fun K hK => ?_) ?_
          · go_simp
            refine hK _ _ ?_
            clear hK K
            refine wpAny_ready (fuel := 2) (rs := [39]) (by kernel_rfl) (by simp) ?_
            refine AllReady.cons rfl (fun K hK => ?_) ?_
            · go_simp
              go_at_call 17
              with_reducible refine HR9.out.mono ?_
              rintro e w10 ⟨rfl, h10⟩
              have L10 := Lib.hid (L9.out.trans ((Low.alloc (Low.alloc (Low.refl W9) _) _).trans h10))
              try go_simp
              try (refine hK _ _ ?_; clear hK K)
              refine wpAny_ready (fuel := 1) (rs := [40]) (by kernel_rfl) (by simp) ?_
              refine AllReady.cons rfl (fun K hK => ?_) ?_
              · go_simp
                refine hK _ _ ?_
                clear hK K
                refine wpAny_ready (fuel := 0) (rs := [41]) (by kernel_rfl) (by simp) ?_
                refine AllReady.cons rfl (fun K hK => ?_) ?_
                · go_simp
                  refine hK _ _ ?_
                  clear hK K
                  refine wpAny_done (by kernel_rfl) ?_ _
                  go_wp2_with fail
                  go_ret
                  exact ⟨rfl, L10.out⟩
                exact AllReady.nil
              exact AllReady.nil
            exact AllReady.nil
          exact AllReady.nil
        exact AllReady.nil
      exact AllReady.nil
    exact AllReady.nil
  exact AllReady.nil
end Go.Proofs.YtbfaccndgjilmaaGreat
