/- Entities in memory, as what they are; what the walks of their parents want. No condition. conform.all at rows of chamberlain/api.Entity: is something so of each one? Condition: what the closure answers of each. Which values are of which types, by definition; a value of a type is of each one that that is below. No condition. Types whose rows are short; what the least type above two is like. No condition. few and size answer; few's yes says that a type is small. No condition. size answers some number; the reference's Depth is how deep a type is nested. Condition: as said. -/
import Derived.Test.YtnenjgngahipdaaGreatZRoundW
import Derived.Test.YtnenjgngahipdaaGreatZg08
import Derived.Test.YtnenjgngahipdaaGreatZg02
import Derived.Deep.DeepCutAuto
import Derived.Test.YtnenjgngahipdaaGreatZg06
import Derived.Test.YtnenjgngahipdaaGreatZg00
import Derived.Test.YtnenjgngahipdaaGreatZg01
set_option linter.unusedVariables false
set_option linter.unusedSimpArgs false
set_option linter.unnecessarySimpa false
namespace Go.Proofs.YtnenjgngahipdaaGreat
open Go.RowKit Go.Sort Go.Maps
/-- A slice of names, in blocks that may be. -/
def UsIn (A : Nat → Prop) (w : World) (r : Value) (l : List Us) : Prop :=
  ∃ ao c, r = .slice ao l.length c ∧ (l.length ≤ c ∧ c ≤ 9223372036854775807) ∧ ∀ j (hj : j < l.length), ∃ b o, ao = some ⟨b, o, none⟩ ∧ A b ∧ CellsAtv w b (o + j * 2) l[j].cs
theorem UsIn.any {A : Nat → Prop} {w : World} {r : Value} {l : List Us} (h : UsIn A w r l) : UsAt w r l := by
  obtain ⟨ao, c, rfl, hc, hx⟩ := h
  refine ⟨ao, c, rfl, hc, fun j hj => ?_⟩
  obtain ⟨b, o, rfl, _, hs⟩ := hx j hj
  exact ⟨b, o, rfl, hs⟩
theorem UsIn.to {A A' : Nat → Prop} {w w' : World} (h : ∀ b, A b → b < w.heap.size → A' b ∧ w'.heap[b]? = w.heap[b]?) {r : Value} {l : List Us} (hu : UsIn A w r l) : UsIn A' w' r l := by
  obtain ⟨ao, c, rfl, hc, hx⟩ := hu
  refine ⟨ao, c, rfl, hc, fun j hj => ?_⟩
  obtain ⟨b, o, rfl, ha, hs⟩ := hx j hj
  have hb := cell_lt (hs 0 _ rfl)
  exact ⟨b, o, rfl, (h b ha hb).1, fun k v hv => cell_tov (hs k v hv) fun k => (h b ha k).2⟩
theorem UsIn.low {A : Nat → Prop} {w w' : World} {r : Value} {l : List Us} (h : UsIn A w r l) (hl : Low w w') : UsIn A w' r l := h.to fun b ha hb => ⟨ha, hl.2.2.2 b hb⟩
theorem UsIn.mono {A A' : Nat → Prop} {w : World} {r : Value} {l : List Us} (h : UsIn A w r l) (hA : ∀ b, A b → A' b) : UsIn A' w r l := h.to fun b ha _ => ⟨hA b ha, rfl⟩
theorem UsIn.shape {A : Nat → Prop} {w : World} {ao : Option Addr} {n c : Nat} {l : List Us} (h : UsIn A w (.slice ao n c) l) : n = l.length ∧ l.length ≤ c ∧ c ≤ 9223372036854775807 := by
  obtain ⟨ao, c, hv, hc, -⟩ := h
  simp only [Value.slice.injEq] at hv
  obtain ⟨-, rfl, rfl⟩ := hv
  exact ⟨rfl, hc⟩
/-- A row of the call's own is such a slice. -/
theorem OwnR.usIn {B : Nat} {w : World} {v : Value} {l : List Us} (h : OwnU B w v l) {A : Nat → Prop} (hA : ∀ g, v.ownBlock = some g → A g) : UsIn A w v l := by
  obtain ⟨ao, cap, rfl, h1, h2, h3⟩ := h.shape
  refine ⟨ao, cap, rfl, ⟨h1, h2⟩, fun j hj => ?_⟩
  rcases h3 with h0 | ⟨g, rfl, -, -⟩
  · rw [h0] at hj; simp at hj
  · refine ⟨g, 0, rfl, hA g rfl, fun c u hu => ?_⟩
    have hc : c < 2 := by have := (List.getElem?_eq_some_iff.1 hu).1; simpa [Us.cs] using this
    rw [Nat.zero_add, OwnR.cell encU_len h j c hj hc]
    exact hu
/-- An entity, and where its rows lie. -/
structure Ee where
  e : En
  ap : Option Addr
  cp : Nat
  ai : Option Addr
  ci : Nat
  an : Option Addr
  cn : Nat
def Ee.sh (q : Ee) : Sh := ⟨q.e.u, q.ap, q.e.ps.length, q.cp, q.e.a.h, q.ai, q.e.a.l.length, q.ci, q.an, q.e.a.ns.length, q.cn⟩
def Ee.it (q : Ee) : Value := .slice q.ai q.e.a.l.length q.ci
def Ee.nm (q : Ee) : Value := .slice q.an q.e.a.ns.length q.cn
def EeOk (A : Nat → Prop) (w : World) (q : Ee) : Prop := UsIn A w q.sh.p q.e.ps ∧ Rep A w q.e.a q.it q.nm
theorem EeOk.to {A A' : Nat → Prop} {w w' : World} (h : ∀ b, A b → b < w.heap.size → A' b ∧ w'.heap[b]? = w.heap[b]?) {q : Ee} (hq : EeOk A w q) : EeOk A' w' q := ⟨hq.1.to h, Rep.to h _ hq.2⟩
theorem EeOk.low {A : Nat → Prop} {w w' : World} {q : Ee} (hq : EeOk A w q) (hl : Low w w') : EeOk A w' q := hq.to fun b ha hb => ⟨ha, hl.2.2.2 b hb⟩
/-- A slice of entities. -/
def EtAt (w : World) (r : Value) (qs : List Ee) : Prop := EsAt w r (qs.map Ee.sh) ∧ ∀ q ∈ qs, EeOk (fun _ => True) w q
theorem EtAt.low {w w' : World} {r : Value} {qs : List Ee} (h : EtAt w r qs) (hl : Low w w') : EtAt w' r qs := ⟨h.1.low hl, fun q hq => (h.2 q hq).low hl⟩
theorem EtAt.at {w : World} {r : Value} {qs : List Ee} (h : EtAt w r qs) : ∃ ao c, r = .slice ao qs.length c ∧ (qs.length ≤ c ∧ c ≤ 9223372036854775807) ∧ ∀ j (hj : j < qs.length), ∃ b o, ao = some ⟨b, o, none⟩ ∧ CellsAtv w b (o + j * 11) qs[j].sh.cs := by
  obtain ⟨ao, c, rfl, hc, hx⟩ := h.1
  refine ⟨ao, c, by rw [List.length_map], by rwa [List.length_map] at hc, fun j hj => ?_⟩
  obtain ⟨b, o, rfl, hs⟩ := hx j (by rwa [List.length_map])
  rw [List.getElem_map] at hs
  exact ⟨b, o, rfl, hs⟩
def ensOf (qs : List Ee) : List En := qs.map (·.e)
theorem find_ee (qs : List Ee) (x : Us) : ∃ o : Option Ee, (qs.map Ee.sh).find? (fun s => decide (s.u = x)) = o.map Ee.sh ∧ fstE (ensOf qs) x = o.map (·.e) ∧ ∀ q, o = some q → q ∈ qs := by
  refine ⟨qs.find? fun q => decide (q.e.u = x), ?_, ?_, fun q h => List.mem_of_find?_eq_some h⟩
  · rw [List.find?_map]; rfl
  · unfold fstE ensOf
    rw [List.find?_map]; rfl
theorem fS_names {qs : List Ee} {x : Us} : (fS (qs.map Ee.sh) x).isSome = true ↔ x ∈ namesE (ensOf qs) := by
  rw [← fst_some]
  obtain ⟨o, h1, h2, -⟩ := find_ee qs x
  unfold fS
  rw [h1, h2]
  cases o <;> simp
theorem fS_row {qs : List Ee} {w : World} {A : Nat → Prop} (hok : ∀ q ∈ qs, EeOk A w q) {x : Us} {v : Value} (h : fS (qs.map Ee.sh) x = some v) : UsAt w v (PE (ensOf qs) x) := by
  obtain ⟨o, h1, h2, h3⟩ := find_ee qs x
  unfold fS at h
  unfold PE
  rw [h2]
  rw [h1] at h
  cases o with
  | none => simp at h
  | some q =>
    simp at h
    subst h
    exact (hok q (h3 q rfl)).1.any
/-- Few entities, of few parents each. -/
def FewE (l : List En) : Prop := l.length ≤ 300 ∧ ∀ e ∈ l, e.ps.length ≤ 300
theorem PE_len {l : List En} (h : FewE l) (x : Us) : (PE l x).length ≤ 300 := by
  unfold PE
  cases e : fstE l x with
  | none => simp
  | some q => exact h.2 q (List.mem_of_find?_eq_some e)
theorem flat_lev {l : List En} (h : FewE l) : ∀ seen : List Us, (seen.flatMap (PE l)).length ≤ seen.length * 300
  | [] => by simp
  | x :: r => by
    have h1 := PE_len h x
    have h2 := flat_lev h r
    rw [List.flatMap_cons, List.length_append, List.length_cons]
    omega
theorem rowsE {qs : List Ee} {w : World} {A : Nat → Prop} (hok : ∀ q ∈ qs, EeOk A w q) (hf : FewE (ensOf qs)) : RowsAt w (fS (qs.map Ee.sh)) (PE (ensOf qs)) where
  row := fun u v h => fS_row hok h
  few := fun seen hn hs => by
    have h1 := seen_len hn hs
    have h2 := flat_lev hf seen
    have h3 := hf.1
    rw [List.length_map] at h1
    unfold ensOf at h3
    rw [List.length_map] at h3
    omega
/-- Round's word by memory is that by what the entities are. -/
theorem round_word (qs : List Ee) : (∃ a, Way (fun x y => (fS (qs.map Ee.sh) x).isSome = true ∧ y ∈ PE (ensOf qs) x ∧ (fS (qs.map Ee.sh) y).isSome = true) a a) ↔ RoundE (ensOf qs) := by
  unfold RoundE
  have e : (fun x y => (fS (qs.map Ee.sh) x).isSome = true ∧ y ∈ PE (ensOf qs) x ∧ (fS (qs.map Ee.sh) y).isSome = true) = stepE (ensOf qs) := by
    funext x y
    unfold stepE
    rw [fS_names, fS_names]
  rw [e]
theorem rround_word (qs : List Ee) : (∃ i, ∃ hi : i < (qs.map Ee.sh).length, findI (qs.map Ee.sh) (qs.map Ee.sh)[i].u = (i : Int) ∧ Way (stepS (qs.map Ee.sh) (fun i => ((ensOf qs)[i]?.map (·.ps)).getD [])) i i) ↔ RoundE (ensOf qs) := by
  rw [← round_word]
  refine (rnd_same fun i hi hf => ?_).symm
  have hi' : i < qs.length := by simpa using hi
  have hu : ∀ j (hj : j < qs.length), (qs.map Ee.sh)[j]'(by simpa using hj) = qs[j].sh := fun j hj => List.getElem_map _
  have h1 : idxS (qs.map Ee.sh) (qs.map Ee.sh)[i].u = i := by
    unfold findI at hf
    split at hf <;> omega
  unfold idxS at h1
  rw [List.findIdx_map] at h1
  have h2 : fstE (ensOf qs) (qs.map Ee.sh)[i].u = some qs[i].e := by
    unfold fstE ensOf
    rw [List.find?_map]
    have : qs.find? ((fun e : En => decide (e.u = (qs.map Ee.sh)[i].u)) ∘ (·.e)) = some qs[i] := by
      rw [List.find?_eq_some_iff_getElem]
      refine ⟨by simp [Ee.sh], i, hi', rfl, fun j hj => ?_⟩
      have := List.not_of_lt_findIdx (p := (fun s : Sh => decide (s.u = (qs.map Ee.sh)[i].u)) ∘ Ee.sh) (xs := qs) (i := j) (by rw [h1]; exact hj)
      simp at this
      simp
      exact this
    rw [this]; rfl
  unfold PE
  rw [h2]
  simp [ensOf, hi']
end Go.Proofs.YtnenjgngahipdaaGreat
namespace Go.Proofs.YtnenjgngahipdaaGreat
open Go.RowKit
set_option linter.unusedVariables false
theorem et_at {w : World} {l : List Ee} {p : Option Addr} {m c : Nat} (h : EtAt w (.slice p m c) l) {j : Nat} (hj : j < l.length) : ∃ b o, p = some ⟨b, o, none⟩ ∧ CellsAtv w b (o + j * 11) l[j].sh.cs ∧ EeOk (fun _ => True) w l[j] := by
  obtain ⟨q, cap, hq, -, hr⟩ := h.at
  simp only [Value.slice.injEq] at hq
  obtain ⟨rfl, -, -⟩ := hq
  obtain ⟨b, o, h1, h2⟩ := hr j hj
  exact ⟨b, o, h1, h2, h.2 _ (List.getElem_mem hj)⟩
theorem ent11 {w : World} {b o : Nat} {q : Ee} (h : CellsAtv w b o q.sh.cs) :
    w.cell? ⟨b, o, none⟩ = some (.string q.e.u.t) ∧ w.cell? ⟨b, o + 1, none⟩ = some (.string q.e.u.i) ∧ w.cell? ⟨b, o + 2, none⟩ = some (.slice q.ap q.e.ps.length q.cp) ∧ w.cell? ⟨b, o + 3, none⟩ = some (.int .i64 q.e.a.h.k) ∧
    w.cell? ⟨b, o + 4, none⟩ = some (.bool q.e.a.h.b) ∧ w.cell? ⟨b, o + 5, none⟩ = some (.int .i64 q.e.a.h.n) ∧ w.cell? ⟨b, o + 6, none⟩ = some (.string q.e.a.h.s) ∧ w.cell? ⟨b, o + 7, none⟩ = some (.string q.e.a.h.t) ∧
    w.cell? ⟨b, o + 8, none⟩ = some (.string q.e.a.h.i) ∧ w.cell? ⟨b, o + 9, none⟩ = some (.slice q.ai q.e.a.l.length q.ci) ∧ w.cell? ⟨b, o + 10, none⟩ = some (.slice q.an q.e.a.ns.length q.cn) := cells11 h
set_option maxHeartbeats 1600000 in
theorem negE_c (x : Ee) (q : Bool) (x0 : Nat) (y : Nat)  (w : World) (hb : w.cell? ⟨y, 0, none⟩ = some (.func (.func 48) #[] #[.pointer (some ⟨x0, 0, none⟩)]))
    (hc : ∀ W, Low w W → Calls Tryz.prog 48 #[.agg #[.string x.e.u.t, .string x.e.u.i, .slice x.ap x.e.ps.length x.cp, .int .i64 x.e.a.h.k, .bool x.e.a.h.b, .int .i64 x.e.a.h.n, .string x.e.a.h.s, .string x.e.a.h.t, .string x.e.a.h.i, .slice x.ai x.e.a.l.length x.ci, .slice x.an x.e.a.ns.length x.cn], .pointer (some ⟨x0, 0, none⟩)] W fun r W' => r = .returned (.bool q) ∧ Low W W') :
    Calls Tryz.prog 78 #[.agg #[.string x.e.u.t, .string x.e.u.i, .slice x.ap x.e.ps.length x.cp, .int .i64 x.e.a.h.k, .bool x.e.a.h.b, .int .i64 x.e.a.h.n, .string x.e.a.h.s, .string x.e.a.h.t, .string x.e.a.h.i, .slice x.ai x.e.a.l.length x.ci, .slice x.an x.e.a.ns.length x.cn], .pointer (some ⟨y, 0, none⟩)] w fun r w' => r = .returned (.bool (!q)) ∧ Low w w' := by
  have hb2 := fun X => (low_new (Low.refl w) X).keep hb
  have HC := Lib.hid hc
  clear hc
  go_enter Tryz.func78, Tryz.ntmps78
  go_wp2_with fail
  refine (HC.out _ (low_new (Low.refl w) _)).mono ?_
  rintro e w' ⟨rfl, l1⟩
  have G2 := Lib.hid ((low_new (Low.refl w) _).trans l1)
  clear l1 HC
  go_wp2_with fail
  go_ret
  exact ⟨rfl, G2.out⟩
set_option maxHeartbeats 1600000 in
theorem idxE9_c (l : List Ee) (f : Ee → Bool) (y : Nat) (w : World) (v : Value) (h : EtAt w v l)
    (hc : ∀ j (hj : j < l.length) (W : World) , Low w W → EeOk (fun _ => True) W l[j] → Calls Tryz.prog 78 #[.agg #[.string l[j].e.u.t, .string l[j].e.u.i, .slice l[j].ap l[j].e.ps.length l[j].cp, .int .i64 l[j].e.a.h.k, .bool l[j].e.a.h.b, .int .i64 l[j].e.a.h.n, .string l[j].e.a.h.s, .string l[j].e.a.h.t, .string l[j].e.a.h.i, .slice l[j].ai l[j].e.a.l.length l[j].ci, .slice l[j].an l[j].e.a.ns.length l[j].cn], .pointer (some ⟨y, 0, none⟩)] W fun r W' => r = .returned (.bool (f l[j])) ∧ Low W W') :
    Calls Tryz.prog 113 #[v, .func (.func 78) #[] #[.pointer (some ⟨y, 0, none⟩)]] w fun e w' => e = .returned (.int .i64 (firstI l f)) ∧ Low w w' := by
  obtain ⟨p, c, rfl, ⟨z1, z2⟩, -⟩ := EtAt.at h
  have HA := Lib.hid h
  have HC := Lib.hid hc
  obtain ⟨r, hr⟩ : ∃ r, r = firstI l f := ⟨_, rfl⟩
  have CS := Lib.hid (show ∀ i (hi : i < l.length), f l[i] = true → (∀ j (hj : j < l.length), j < i → f l[j] = false) → (i : Int) = r from fun i hi h1 h2 => by rw [hr, firstI_some hi h1 h2])
  have CN := Lib.hid (show (∀ j (hj : j < l.length), f l[j] = false) → -1 = r from fun h2 => by rw [hr, firstI_none h2])
  rw [← hr]
  clear h hr hc
  go_enter Tryz.func113, Tryz.ntmps113
  go_wp2_with fail
  go_loopg [5, 8] l.length (fun gk vx vi wr => ∃ i : Nat, vi = .int .i64 (i : Int) ∧ i ≤ l.length ∧ l.length - i ≤ gk ∧ Hid (Low w wr) ∧ Hid (∀ j (hj : j < l.length), j < i → f l[j] = false))
  case atStart => exact ⟨0, rfl, Nat.zero_le _, Nat.le_refl _, Lib.hid (Low.refl _), Lib.hid fun j hj h => absurd h (Nat.not_lt_zero _)⟩
  case round =>
    obtain ⟨i, rfl, hi, hg, G, K⟩ := hrel
    by_cases hlt : i < l.length
    · have zl : (i : Int) < (l.length : Int) := by omega
      obtain ⟨b, o, rfl, hcs, hrx⟩ := et_at (EtAt.low HA.out G.out) hlt
      obtain ⟨e0, e1, e2, e3, e4, e5, e6, e7, e8, e9, e10⟩ := ent11 hcs
      have HF := Lib.hid (HC.out i hlt wr  G.out hrx)
      obtain ⟨q, hq⟩ : ∃ q, q = f l[i] := ⟨_, rfl⟩
      rw [← hq] at HF
      have HQ := Lib.hid hq
      clear hq hcs hrx
      go_wp2_with fail
      refine HF.out.mono ?_
      rintro e w' ⟨rfl, l1⟩
      have G2 := Lib.hid (G.out.trans l1)
      clear l1 HF
      cases q with
      | true =>
        have HQ2 := Lib.hid (CS.out i hlt HQ.out.symm K.out)
        go_wp2_with fail
        go_ret
        exact ⟨retI HQ2.out, G2.out⟩
      | false =>
        go_wp2_with fail
        go_roundg (l.length - (i + 1))
        case measure => omega
        case rel =>
          refine ⟨i + 1, by go_num, by omega, by omega, G2, Lib.hid fun j hj hji => ?_⟩
          rcases Nat.lt_succ_iff_lt_or_eq.1 hji with h | rfl
          · exact K.out j hj h
          · exact HQ.out.symm
    · have zl : ¬ (i : Int) < (l.length : Int) := by omega
      have HQ2 := Lib.hid (CN.out fun j hj => K.out j hj (by omega))
      go_wp2_with fail
      go_ret
      exact ⟨retI HQ2.out, G.out⟩
set_option maxHeartbeats 1600000 in
theorem conE9_c (l : List Ee) (f : Ee → Bool) (y : Nat) (w : World) (v : Value) (h : EtAt w v l)
    (hc : ∀ j (hj : j < l.length) (W : World) , Low w W → EeOk (fun _ => True) W l[j] → Calls Tryz.prog 78 #[.agg #[.string l[j].e.u.t, .string l[j].e.u.i, .slice l[j].ap l[j].e.ps.length l[j].cp, .int .i64 l[j].e.a.h.k, .bool l[j].e.a.h.b, .int .i64 l[j].e.a.h.n, .string l[j].e.a.h.s, .string l[j].e.a.h.t, .string l[j].e.a.h.i, .slice l[j].ai l[j].e.a.l.length l[j].ci, .slice l[j].an l[j].e.a.ns.length l[j].cn], .pointer (some ⟨y, 0, none⟩)] W fun r W' => r = .returned (.bool (f l[j])) ∧ Low W W') :
    Calls Tryz.prog 77 #[v, .func (.func 78) #[] #[.pointer (some ⟨y, 0, none⟩)]] w fun e w' => e = .returned (.bool (l.any f)) ∧ Low w w' := by
  have HI := Lib.hid (idxE9_c l f y w v h hc)
  obtain ⟨p, c, rfl, ⟨z1, z2⟩, -⟩ := EtAt.at h
  obtain ⟨r, hr⟩ : ∃ r, r = firstI l f := ⟨_, rfl⟩
  rw [← hr] at HI
  have HR := Lib.hid (show decide (0 ≤ r) = l.any f by rw [hr]; exact firstI_any l f)
  clear h hc hr
  go_enter Tryz.func77, Tryz.ntmps77
  go_wp2_with fail
  refine HI.out.mono ?_
  rintro e w' ⟨rfl, l1⟩
  go_wp2_with fail
  go_ret
  exact ⟨retB HR.out, l1⟩
set_option maxHeartbeats 1600000 in
theorem allE_c (l : List Ee) (f : Ee → Bool) (x0 : Nat) (w : World) (v : Value) (h : EtAt w v l)
    (hc : ∀ j (hj : j < l.length) (W : World) , Low w W → EeOk (fun _ => True) W l[j] → Calls Tryz.prog 48 #[.agg #[.string l[j].e.u.t, .string l[j].e.u.i, .slice l[j].ap l[j].e.ps.length l[j].cp, .int .i64 l[j].e.a.h.k, .bool l[j].e.a.h.b, .int .i64 l[j].e.a.h.n, .string l[j].e.a.h.s, .string l[j].e.a.h.t, .string l[j].e.a.h.i, .slice l[j].ai l[j].e.a.l.length l[j].ci, .slice l[j].an l[j].e.a.ns.length l[j].cn], .pointer (some ⟨x0, 0, none⟩)] W fun r W' => r = .returned (.bool (f l[j])) ∧ Low W W') :
    Calls Tryz.prog 47 #[v, .func (.func 48) #[] #[.pointer (some ⟨x0, 0, none⟩)]] w fun e w' => e = .returned (.bool (l.all f)) ∧ Low w w' := by
  obtain ⟨U, hU⟩ : ∃ U, U = w.alloc (.cells #[.func (.func 48) #[] #[.pointer (some ⟨x0, 0, none⟩)]] 91) := ⟨_, rfl⟩
  have LU := Lib.hid (show Low w U by rw [hU]; exact low_new (Low.refl w) _)
  have hb : U.cell? ⟨w.heap.size, 0, none⟩ = some (.func (.func 48) #[] #[.pointer (some ⟨x0, 0, none⟩)]) := by rw [hU, World.cell?_alloc_mark]; rfl
  have HI := Lib.hid (conE9_c l (fun x => !f x) w.heap.size U v (EtAt.low h LU.out) fun j hj W  hl hx => negE_c l[j] (f l[j]) x0 w.heap.size  W (hl.keep hb) fun W2 hl2 => hc j hj W2  ((LU.out.trans hl).trans hl2) (EeOk.low hx hl2))
  have HN := Lib.hid (show (!(l.any fun x => !f x)) = l.all f from not_any9 l f)
  obtain ⟨p, c, rfl, ⟨z1, z2⟩, -⟩ := EtAt.at h
  have HU := Lib.hid hU
  clear h hc hU hb
  obtain ⟨q, hq⟩ : ∃ q, q = l.any fun x => !f x := ⟨_, rfl⟩
  rw [← hq] at HI HN
  clear hq
  go_enter Tryz.func47, Tryz.ntmps47
  go_upto_region 1 with fail
  rw [← HU.out]
  go_wp2_with fail
  refine HI.out.mono ?_
  rintro e w' ⟨rfl, l1⟩
  have G2 := Lib.hid (LU.out.trans l1)
  clear l1
  go_wp2_with fail
  go_ret
  exact ⟨retB HN.out, G2.out⟩
end Go.Proofs.YtnenjgngahipdaaGreat
namespace Go.Proofs.YtnenjgngahipdaaGreat
open Go.RowKit
set_option linter.unusedVariables false
/-- The first attribute with a name. -/
def gtAt : List At → ByteArray → Option At
  | [], _ => none
  | x :: l, s => if an x = s then some x else gtAt l s
/-- Is a value of a type? (n: how deep the type is, at least.) -/
def isV : Nat → V → T → Bool
  | 0, _, _ => false
  | n + 1, v, t =>
    if t.k = 1 then decide (v.h.k = 1) && v.h.b
    else if t.k = 2 then decide (v.h.k = 1) && !v.h.b
    else if t.k = 3 then decide (v.h.k = 1)
    else if t.k = 4 then decide (v.h.k = 2)
    else if t.k = 5 then decide (v.h.k = 3)
    else if t.k = 6 then decide (v.h.k = 4) && decide (v.h.t = t.n)
    else if t.k = 7 then decide (v.h.k = 5) && v.l.all fun x => isV n x t.hd
    else if t.k = 8 then decide (v.h.k = 6) && ((v.ns.zip v.l).all fun p => match gtAt t.ats p.1 with | none => false | some x => isV n p.2 (aty x)) && t.ats.all fun x => ao x || v.ns.any fun s => decide (s = an x)
    else false
theorem pairB_get {f : At → At → Bool} : ∀ {l m : List At} {s : ByteArray} {x : At}, pairB f l m = true → gtAt l s = some x → ∃ y, gtAt m s = some y ∧ f x y = true
  | [], _, _, _, _, h => by simp [gtAt] at h
  | _ :: _, [], _, _, h, _ => by simp [pairB] at h
  | a :: l, b :: m, s, x, h, h2 => by
    rw [pairB, Bool.and_eq_true, Bool.and_eq_true, decide_eq_true_iff] at h
    obtain ⟨⟨h3, h4⟩, h5⟩ := h
    rw [gtAt] at h2 ⊢
    by_cases he : an a = s
    · rw [if_pos he] at h2
      obtain rfl := Option.some.inj h2
      exact ⟨b, by rw [if_pos (h3 ▸ he)], h4⟩
    · rw [if_neg he] at h2
      rw [if_neg (h3 ▸ he)]
      exact pairB_get h5 h2
theorem pairB_back {f : At → At → Bool} : ∀ {l m : List At}, pairB f l m = true → ∀ y ∈ m, ∃ x ∈ l, an x = an y ∧ f x y = true
  | [], [], _, _, hy => by simp at hy
  | [], _ :: _, h, _, _ => by simp [pairB] at h
  | _ :: _, [], _, _, hy => by simp at hy
  | a :: l, b :: m, h, y, hy => by
    rw [pairB, Bool.and_eq_true, Bool.and_eq_true, decide_eq_true_iff] at h
    obtain ⟨⟨h3, h4⟩, h5⟩ := h
    rcases List.mem_cons.1 hy with rfl | hy
    · exact ⟨a, List.mem_cons_self, h3, h4⟩
    · obtain ⟨x, hx, h6⟩ := pairB_back h5 y hy
      exact ⟨x, List.mem_cons_of_mem _ hx, h6⟩
theorem isV_below : ∀ (n : Nat) (v : V) (t u : T), isV n v t = true → belB n t u = true → isV n v u = true
  | 0, _, _, _, h, _ => by simp [isV] at h
  | n + 1, v, t, u, h, hb => by
    rw [belB] at hb
    by_cases h0 : t.k = 0
    · rw [isV] at h; simp [h0] at h
    by_cases h1 : (t.k = 1 ∨ t.k = 2) ∧ u.k = 3
    · rw [isV] at h ⊢
      rcases h1.1 with k | k <;> simp [k, h1.2] at h ⊢ <;> exact h.1
    by_cases hk : t.k = u.k
    · rw [if_neg (by simp [h0]; intro k; exact fun e => h1 ⟨k, e⟩), if_neg (by simp [hk])] at hb
      rw [isV] at h ⊢
      rw [← hk]
      by_cases k6 : t.k = 6
      · simp only [k6] at h hb ⊢
        simp at h hb ⊢
        exact ⟨h.1, h.2.trans hb⟩
      by_cases k7 : t.k = 7
      · simp only [k7] at h hb ⊢
        simp at h hb ⊢
        exact ⟨h.1, fun x hx => isV_below n x _ _ (h.2 x hx) hb⟩
      by_cases k8 : t.k = 8
      · simp only [k8] at h hb ⊢
        simp only [if_neg (show ¬ (8 : Int) = 6 by decide), if_neg (show ¬ (8 : Int) = 7 by decide), if_neg (show ¬ (8 : Int) = 1 by decide), if_neg (show ¬ (8 : Int) = 2 by decide), if_neg (show ¬ (8 : Int) = 3 by decide), if_neg (show ¬ (8 : Int) = 4 by decide), if_neg (show ¬ (8 : Int) = 5 by decide), if_true, Bool.and_eq_true, List.all_eq_true, decide_eq_true_iff] at h hb ⊢
        obtain ⟨⟨h2, h3⟩, h4⟩ := h
        refine ⟨⟨h2, fun p hp => ?_⟩, fun y hy => ?_⟩
        · have h5 := h3 p hp
          cases hg : gtAt t.ats p.1 with
          | none => rw [hg] at h5; cases h5
          | some x =>
            rw [hg] at h5
            obtain ⟨y, h6, h7⟩ := pairB_get hb hg
            rw [h6]
            rw [Bool.and_eq_true] at h7
            exact isV_below n _ _ _ h5 h7.2
        · obtain ⟨x, hx, h6, h7⟩ := pairB_back hb y hy
          rw [Bool.and_eq_true] at h7
          have h8 := h4 x hx
          rw [Bool.or_eq_true] at h8 ⊢
          rcases h8 with h8 | h8
          · have := h7.1
            rw [h8] at this
            exact .inl (by simpa using this)
          · exact .inr (h6 ▸ h8)
      · simp [k6, k7, k8] at h ⊢
        exact h
    · rw [if_neg (by simp [h0]; intro k; exact fun e => h1 ⟨k, e⟩), if_pos (by simpa using hk)] at hb
      cases hb
end Go.Proofs.YtnenjgngahipdaaGreat
namespace Go.Proofs.YtnenjgngahipdaaGreat
/-- No deeper than so many, no row of more than a hundred. -/
def Sm : Nat → T → Prop
  | 0, _ => False
  | n + 1, t => t.l.length ≤ 100 ∧ t.ats.length ≤ 100 ∧ ∀ x ∈ t.ins, Sm n x
theorem Sm.dp : ∀ {n : Nat} {t : T}, Sm n t → Dp n t
  | 0, _, h => h
  | _ + 1, _, h => fun x hx => Sm.dp (h.2.2 x hx)
theorem Sm.succ : ∀ {n : Nat} {t : T}, Sm n t → Sm (n + 1) t
  | 0, _, h => h.elim
  | _ + 1, _, h => ⟨h.1, h.2.1, fun x hx => Sm.succ (h.2.2 x hx)⟩
theorem sm_of {m : Nat} {t : T} (g1 : t.l.length ≤ 100) (g2 : t.ats.length ≤ 100) (h1 : ∀ j (h : j < t.l.length), Sm m t.l[j]) (h2 : ∀ j (h : j < t.ats.length), Sm m (aty t.ats[j])) : Sm (m + 1) t := ⟨g1, g2, fun x hx => by
  rcases List.mem_append.1 hx with hx | hx
  · obtain ⟨j, hj, rfl⟩ := List.getElem_of_mem hx; exact h1 j hj
  · obtain ⟨y, hy, rfl⟩ := List.mem_map.1 hx
    obtain ⟨j, hj, rfl⟩ := List.getElem_of_mem hy; exact h2 j hj⟩
theorem Sm.len {n : Nat} {t : T} (h : Sm n t) : t.l.length ≤ 100 ∧ t.ats.length ≤ 100 := by
  cases n with
  | zero => exact h.elim
  | succ n => exact ⟨h.1, h.2.1⟩
theorem Sm.hd {n : Nat} {t : T} (h : Sm (n + 1) t) (hl : t.l ≠ []) : Sm n t.hd := by
  cases hx : t.l with
  | nil => exact absurd hx hl
  | cons x l => unfold T.hd; rw [hx]; exact h.2.2 x (ins_l (by rw [hx]; simp))
end Go.Proofs.YtnenjgngahipdaaGreat
namespace Go.Proofs.YtnenjgngahipdaaGreat
open Go.RowKit
def box4 (t : T) (pe : Option Addr) (ce : Nat) (pv : Option Addr) (cv : Nat) : Obj := .cells #[.int .i64 t.k, .string t.n, .slice pe t.l.length ce, .slice pv t.ats.length cv] 31
/-- What few answers. -/
def FewP (t : T) (D : Nat) (w : World) (e : Ending) (w' : World) : Prop := ∃ b : Bool, e = .returned (.bool b) ∧ (b = true → D ≤ 60 ∧ Sm (61 - D) t) ∧ Low w w'
set_option maxHeartbeats 1600000 in
theorem few_n (n : Nat) : ∀ (A : Nat → Prop) (t : T) (D : Nat) (w : World) (e v : Value), D ≤ 61 → RT A w n t e v → Calls Tryz.prog 9 #[tv t e v, .int .i64 (D : Int)] w (FewP t D w) := by
  induction n with
  | zero => intro A t D w e v _ h; exact h.elim
  | succ n ih =>
    intro A t D w e v hD hr
    obtain ⟨pe, ce, pv, cv, rfl, rfl, z1, z2, z3, z4⟩ := hr.sl
    obtain ⟨-, hl, ha⟩ := rt_succ.1 hr
    have HL := Lib.hid hl
    have HA := Lib.hid ha
    have IH := Lib.hid ih
    clear hr ih hl ha
    unfold tv
    by_cases c1 : (10 : Int) < (t.l.length : Int)
    · go_enter Tryz.func9, Tryz.ntmps9
      go_wp2_with fail
      go_ret
      exact ⟨false, rfl, by simp, low_new (Low.refl w) _⟩
    by_cases c2 : (10 : Int) < (t.ats.length : Int)
    · go_enter Tryz.func9, Tryz.ntmps9
      go_wp2_with fail
      go_ret
      exact ⟨false, rfl, by simp, low_new (Low.refl w) _⟩
    by_cases c3 : (60 : Int) < (D : Int)
    · go_enter Tryz.func9, Tryz.ntmps9
      go_wp2_with fail
      go_ret
      exact ⟨false, rfl, by simp, low_new (Low.refl w) _⟩
    have D60 : (D : Int) ≤ 60 := by omega
    go_enter Tryz.func9, Tryz.ntmps9
    go_wp2_with fail
    go_loopg [5, 6] t.l.length (fun gk vi vb wr => ∃ i : Nat, vi = .int .i64 (i : Int) ∧ i ≤ t.l.length ∧ t.l.length - i ≤ gk ∧ Hid (Low (w.alloc (box4 t pe ce pv cv)) wr) ∧ Hid (∀ j (hj : j < t.l.length), j < i → Sm (60 - D) t.l[j]))
    case atStart => exact ⟨0, rfl, Nat.zero_le _, Nat.le_refl _, Lib.hid (Low.refl _), Lib.hid fun j hj h => absurd h (Nat.not_lt_zero _)⟩
    case round =>
      obtain ⟨i, rfl, hi, hg, G, K⟩ := hrel
      have G0 := Lib.hid ((low_new (Low.refl w) _).trans G.out)
      obtain ⟨f0, f1, f2, f3⟩ := low_box G.out
      by_cases hlt : i < t.l.length
      · have zl : (i : Int) < (t.l.length : Int) := by omega
        obtain ⟨b, o, qe, de, qv, dv, rfl, -, e0, e1, e2, e3, hx⟩ := RL.at (RL.low HL.out G0.out) hlt
        have HC := Lib.hid (show Calls Tryz.prog 9 #[.agg #[.int .i64 t.l[i].k, .string t.l[i].n, .slice qe t.l[i].l.length de, .slice qv t.l[i].ats.length dv], .int .i64 ((D : Int) + 1)] wr _ from IH.out A t.l[i] (D + 1) wr _ _ (by omega) hx)
        clear hx
        go_wp2_with fail
        refine HC.out.mono ?_
        rintro e w' ⟨b, rfl, hb, l⟩
        have HB := Lib.hid hb
        have G2 := Lib.hid (G.out.trans l)
        have G3 := Lib.hid (G0.out.trans l)
        clear hb l HC
        cases b with
        | false =>
          go_wp2_with fail
          go_ret
          exact ⟨false, rfl, by simp, G3.out⟩
        | true =>
          go_wp2_with fail
          go_roundg (t.l.length - (i + 1))
          case measure => omega
          case rel =>
            refine ⟨i + 1, by go_num, by omega, by omega, G2, Lib.hid fun j hj hji => ?_⟩
            rcases Nat.lt_succ_iff_lt_or_eq.1 hji with h | rfl
            · exact K.out j hj h
            · have := (HB.out (by first | rfl | trivial)).2; rwa [show 61 - (D + 1) = 60 - D by omega] at this
      · have zl : ¬ (i : Int) < (t.l.length : Int) := by omega
        have KL := Lib.hid (show ∀ j (hj : j < t.l.length), Sm (60 - D) t.l[j] from fun j hj => K.out j hj (by omega))
        clear K
        go_wp2_with fail
        go_loopg [7, 8] t.ats.length (fun gk vi vb wr => ∃ i : Nat, vi = .int .i64 (i : Int) ∧ i ≤ t.ats.length ∧ t.ats.length - i ≤ gk ∧ Hid (Low (w.alloc (box4 t pe ce pv cv)) wr) ∧ Hid (∀ j (hj : j < t.ats.length), j < i → Sm (60 - D) (aty t.ats[j])))
        case atStart => exact ⟨0, rfl, Nat.zero_le _, Nat.le_refl _, G, Lib.hid fun j hj h => absurd h (Nat.not_lt_zero _)⟩
        case round =>
          clear f0 f1 f2 f3 G0 G
          obtain ⟨i, rfl, hi, hg, G, K⟩ := hrel
          have G0 := Lib.hid ((low_new (Low.refl w) _).trans G.out)
          obtain ⟨f0, f1, f2, f3⟩ := low_box G.out
          by_cases hlt : i < t.ats.length
          · have zl : (i : Int) < (t.ats.length : Int) := by omega
            obtain ⟨b, o, qe, de, qv, dv, rfl, -, e0, e1, e2, e3, e4, e5, -, hx⟩ := RAs.at (RAs.low HA.out G0.out) hlt
            have HC := Lib.hid (show Calls Tryz.prog 9 #[.agg #[.int .i64 (aty t.ats[i]).k, .string (aty t.ats[i]).n, .slice qe (aty t.ats[i]).l.length de, .slice qv (aty t.ats[i]).ats.length dv], .int .i64 ((D : Int) + 1)] wr _ from IH.out A (aty t.ats[i]) (D + 1) wr _ _ (by omega) hx)
            clear hx
            go_wp2_with fail
            refine HC.out.mono ?_
            rintro e w' ⟨b, rfl, hb, l⟩
            have HB := Lib.hid hb
            have G2 := Lib.hid (G.out.trans l)
            have G3 := Lib.hid (G0.out.trans l)
            clear hb l HC
            cases b with
            | false =>
              go_wp2_with fail
              go_ret
              exact ⟨false, rfl, by simp, G3.out⟩
            | true =>
              go_wp2_with fail
              go_roundg (t.ats.length - (i + 1))
              case measure => omega
              case rel =>
                refine ⟨i + 1, by go_num, by omega, by omega, G2, Lib.hid fun j hj hji => ?_⟩
                rcases Nat.lt_succ_iff_lt_or_eq.1 hji with h | rfl
                · exact K.out j hj h
                · have := (HB.out (by first | rfl | trivial)).2; rwa [show 61 - (D + 1) = 60 - D by omega] at this
          · have zl : ¬ (i : Int) < (t.ats.length : Int) := by omega
            go_wp2_with fail
            go_ret
            refine ⟨true, rfl, fun _ => ⟨by omega, ?_⟩, G0.out⟩
            rw [show 61 - D = 60 - D + 1 by omega]
            exact sm_of (by omega) (by omega) KL.out fun j hj => K.out j hj (by omega)
theorem few_c {A : Nat → Prop} {n : Nat} (t : T) (D : Nat) (w : World) (e v : Value) (hD : D ≤ 61) (h : RT A w n t e v) : Calls Tryz.prog 9 #[tv t e v, .int .i64 (D : Int)] w (FewP t D w) := few_n n A t D w e v hD h
end Go.Proofs.YtnenjgngahipdaaGreat
namespace Go.Proofs.YtnenjgngahipdaaGreat
open Go.RowKit
def SizeP (w : World) (e : Ending) (w' : World) : Prop := ∃ n : Int, e = .returned (.int .i64 n) ∧ Low w w'
set_option maxHeartbeats 1600000 in
theorem size_n (n : Nat) : ∀ (A : Nat → Prop) (t : T) (w : World) (e v : Value), RT A w n t e v → Calls Tryz.prog 10 #[tv t e v] w (SizeP w) := by
  induction n with
  | zero => intro A t w e v h; exact h.elim
  | succ n ih =>
    intro A t w e v hr
    obtain ⟨pe, ce, pv, cv, rfl, rfl, z1, z2, z3, z4⟩ := hr.sl
    obtain ⟨-, hl, ha⟩ := rt_succ.1 hr
    have HL := Lib.hid hl
    have HA := Lib.hid ha
    have IH := Lib.hid ih
    clear hr ih hl ha
    unfold tv
    go_enter Tryz.func10, Tryz.ntmps10
    go_wp2_with fail
    go_loopg [3, 4] t.l.length (fun gk vn vi wr => ∃ (i : Nat) (m : Int), vn = .int .i64 m ∧ vi = .int .i64 (i : Int) ∧ i ≤ t.l.length ∧ t.l.length - i ≤ gk ∧ Hid (Low (w.alloc (box4 t pe ce pv cv)) wr))
    case atStart => exact ⟨0, 1, rfl, rfl, Nat.zero_le _, Nat.le_refl _, Lib.hid (Low.refl _)⟩
    case round =>
      obtain ⟨i, m, rfl, rfl, hi, hg, G⟩ := hrel
      have G0 := Lib.hid ((low_new (Low.refl w) _).trans G.out)
      obtain ⟨f0, f1, f2, f3⟩ := low_box G.out
      by_cases hq : i < t.l.length ∧ m < 1000
      · obtain ⟨hlt, hm⟩ := hq
        have zl : (i : Int) < (t.l.length : Int) := by omega
        obtain ⟨b, o, qe, de, qv, dv, rfl, -, e0, e1, e2, e3, hx⟩ := RL.at (RL.low HL.out G0.out) hlt
        have HC := Lib.hid (show Calls Tryz.prog 10 #[.agg #[.int .i64 t.l[i].k, .string t.l[i].n, .slice qe t.l[i].l.length de, .slice qv t.l[i].ats.length dv]] wr _ from IH.out A t.l[i] wr _ _ hx)
        clear hx
        go_wp2_with fail
        refine HC.out.mono ?_
        rintro e w' ⟨b, rfl, l⟩
        have G2 := Lib.hid (G.out.trans l)
        clear l HC
        go_wp2_with fail
        go_roundg (t.l.length - (i + 1))
        case measure => omega
        case rel => exact ⟨i + 1, _, rfl, by go_num, by omega, by omega, G2⟩
      · have HF := Lib.hid hq
        clear hq
        have goal2 : ∀ (A : Prop), A → A := fun _ h => h
        by_cases hlt : i < t.l.length
        · have zl : (i : Int) < (t.l.length : Int) := by omega
          have hm : ¬ m < 1000 := fun h => HF.out ⟨hlt, h⟩
          go_wp2_with fail
          go_loopg [3, 5] t.ats.length (fun gk vn vi wr => ∃ (i : Nat) (m : Int), vn = .int .i64 m ∧ vi = .int .i64 (i : Int) ∧ i ≤ t.ats.length ∧ t.ats.length - i ≤ gk ∧ Hid (Low (w.alloc (box4 t pe ce pv cv)) wr))
          case atStart => exact ⟨0, m, rfl, rfl, Nat.zero_le _, Nat.le_refl _, G⟩
          case round =>
            clear f0 f1 f2 f3 G0 G HF
            obtain ⟨i, m, rfl, rfl, hi, hg, G⟩ := hrel
            have G0 := Lib.hid ((low_new (Low.refl w) _).trans G.out)
            obtain ⟨f0, f1, f2, f3⟩ := low_box G.out
            by_cases hlt : i < t.ats.length
            · have zl : (i : Int) < (t.ats.length : Int) := by omega
              by_cases hm : m < 1000
              · obtain ⟨b, o, qe, de, qv, dv, rfl, -, e0, e1, e2, e3, e4, e5, -, hx⟩ := RAs.at (RAs.low HA.out G0.out) hlt
                have HC := Lib.hid (show Calls Tryz.prog 10 #[.agg #[.int .i64 (aty t.ats[i]).k, .string (aty t.ats[i]).n, .slice qe (aty t.ats[i]).l.length de, .slice qv (aty t.ats[i]).ats.length dv]] wr _ from IH.out A (aty t.ats[i]) wr _ _ hx)
                clear hx
                go_wp2_with fail
                refine HC.out.mono ?_
                rintro e w' ⟨b, rfl, l⟩
                have G2 := Lib.hid (G.out.trans l)
                clear l HC
                go_wp2_with fail
                go_roundg (t.ats.length - (i + 1))
                case measure => omega
                case rel => exact ⟨i + 1, _, rfl, by go_num, by omega, by omega, G2⟩
              · go_wp2_with fail
                go_ret
                exact ⟨m, rfl, G0.out⟩
            · have zl : ¬ (i : Int) < (t.ats.length : Int) := by omega
              go_wp2_with fail
              go_ret
              exact ⟨m, rfl, G0.out⟩
        · have zl : ¬ (i : Int) < (t.l.length : Int) := by omega
          go_wp2_with fail
          go_loopg [3, 5] t.ats.length (fun gk vn vi wr => ∃ (i : Nat) (m : Int), vn = .int .i64 m ∧ vi = .int .i64 (i : Int) ∧ i ≤ t.ats.length ∧ t.ats.length - i ≤ gk ∧ Hid (Low (w.alloc (box4 t pe ce pv cv)) wr))
          case atStart => exact ⟨0, m, rfl, rfl, Nat.zero_le _, Nat.le_refl _, G⟩
          case round =>
            clear f0 f1 f2 f3 G0 G HF
            obtain ⟨i, m, rfl, rfl, hi, hg, G⟩ := hrel
            have G0 := Lib.hid ((low_new (Low.refl w) _).trans G.out)
            obtain ⟨f0, f1, f2, f3⟩ := low_box G.out
            by_cases hlt : i < t.ats.length
            · have zl : (i : Int) < (t.ats.length : Int) := by omega
              by_cases hm : m < 1000
              · obtain ⟨b, o, qe, de, qv, dv, rfl, -, e0, e1, e2, e3, e4, e5, -, hx⟩ := RAs.at (RAs.low HA.out G0.out) hlt
                have HC := Lib.hid (show Calls Tryz.prog 10 #[.agg #[.int .i64 (aty t.ats[i]).k, .string (aty t.ats[i]).n, .slice qe (aty t.ats[i]).l.length de, .slice qv (aty t.ats[i]).ats.length dv]] wr _ from IH.out A (aty t.ats[i]) wr _ _ hx)
                clear hx
                go_wp2_with fail
                refine HC.out.mono ?_
                rintro e w' ⟨b, rfl, l⟩
                have G2 := Lib.hid (G.out.trans l)
                clear l HC
                go_wp2_with fail
                go_roundg (t.ats.length - (i + 1))
                case measure => omega
                case rel => exact ⟨i + 1, _, rfl, by go_num, by omega, by omega, G2⟩
              · go_wp2_with fail
                go_ret
                exact ⟨m, rfl, G0.out⟩
            · have zl : ¬ (i : Int) < (t.ats.length : Int) := by omega
              go_wp2_with fail
              go_ret
              exact ⟨m, rfl, G0.out⟩
theorem mxL_take {α : Type} (f : α → Nat) {l : List α} {i : Nat} (h : i < l.length) : mxL ((l.take (i + 1)).map f) = max (mxL ((l.take i).map f)) (f l[i]) := by
  rw [List.take_succ_eq_append_getElem h, List.map_append, mxL_append]; simp [mxL]
set_option maxHeartbeats 1600000 in
theorem depth_n (n : Nat) (hn : n ≤ 1000000) : ∀ (A : Nat → Prop) (t : T) (w : World) (e v : Value), RT A w n t e v → Calls Tryz.prog 27 #[tv t e v] w (fun e w' => e = .returned (.int .i64 (dpt n t : Int)) ∧ Low w w') := by
  induction n with
  | zero => intro A t w e v h; exact h.elim
  | succ n ih =>
    intro A t w e v hr
    obtain ⟨pe, ce, pv, cv, rfl, rfl, z1, z2, z3, z4⟩ := hr.sl
    obtain ⟨-, hl, ha⟩ := rt_succ.1 hr
    have HL := Lib.hid hl
    have HA := Lib.hid ha
    have IH := Lib.hid (ih (by omega))
    have HB := Lib.hid fun x => dpt_le n x
    obtain ⟨R, hR⟩ : ∃ R, R = dpt (n + 1) t := ⟨_, rfl⟩
    have HR := Lib.hid (show R = max (mxL (t.l.map (dpt n))) (mxL (t.ats.map fun x => dpt n (aty x))) + 1 by rw [hR, dpt, T.ins, List.map_append, mxL_append, List.map_map]; rfl)
    have hRb : R ≤ 1000001 := by have := dpt_le (n + 1) t; omega
    rw [← hR]
    clear hr ih hl ha hR
    unfold tv
    go_enter Tryz.func27, Tryz.ntmps27
    go_wp2_with fail
    go_loopg [3, 4, 5] t.l.length (fun gk vd vi vx wr => ∃ i : Nat, vd = .int .i64 (mxL ((t.l.take i).map (dpt n)) : Int) ∧ vi = .int .i64 (i : Int) ∧ i ≤ t.l.length ∧ t.l.length - i ≤ gk ∧ Hid (Low (w.alloc (box4 t pe ce pv cv)) wr))
    case atStart => exact ⟨0, rfl, rfl, Nat.zero_le _, Nat.le_refl _, Lib.hid (Low.refl _)⟩
    case round =>
      obtain ⟨i, rfl, rfl, hi, hg, G⟩ := hrel
      have G0 := Lib.hid ((low_new (Low.refl w) _).trans G.out)
      obtain ⟨f0, f1, f2, f3⟩ := low_box G.out
      by_cases hlt : i < t.l.length
      · have zl : (i : Int) < (t.l.length : Int) := by omega
        obtain ⟨b, o, qe, de, qv, dv, rfl, -, e0, e1, e2, e3, hx⟩ := RL.at (RL.low HL.out G0.out) hlt
        have HC := Lib.hid (show Calls Tryz.prog 27 #[.agg #[.int .i64 t.l[i].k, .string t.l[i].n, .slice qe t.l[i].l.length de, .slice qv t.l[i].ats.length dv]] wr _ from IH.out A t.l[i] wr _ _ hx)
        have HT := Lib.hid (mxL_take (dpt n) hlt)
        generalize mxL ((t.l.take i).map (dpt n)) = q at *
        generalize dpt n t.l[i] = c at *
        clear hx
        go_wp2_with fail
        refine HC.out.mono ?_
        rintro e w' ⟨rfl, l⟩
        have G2 := Lib.hid (G.out.trans l)
        clear l HC
        by_cases hqc : q < c
        · have z2 : (q : Int) < (c : Int) := by omega
          go_wp2_with fail
          go_roundg (t.l.length - (i + 1))
          case measure => omega
          case rel => exact ⟨i + 1, by rw [HT.out]; congr 1; omega, by go_num, by omega, by omega, G2⟩
        · have z2 : ¬ (q : Int) < (c : Int) := by omega
          go_wp2_with fail
          go_roundg (t.l.length - (i + 1))
          case measure => omega
          case rel => exact ⟨i + 1, by rw [HT.out]; congr 1; omega, by go_num, by omega, by omega, G2⟩
      · have zl : ¬ (i : Int) < (t.l.length : Int) := by omega
        have hq : t.l.take i = t.l := List.take_of_length_le (by omega)
        rw [hq]
        obtain ⟨p, hp⟩ : ∃ p, p = mxL (t.l.map (dpt n)) := ⟨_, rfl⟩
        rw [← hp]
        have HP := Lib.hid hp
        clear hq hp
        go_wp2_with fail
        go_loopg [3, 6, 7] t.ats.length (fun gk vd vi vx wr => ∃ i : Nat, vd = .int .i64 ((max p (mxL ((t.ats.take i).map fun x => dpt n (aty x))) : Nat) : Int) ∧ vi = .int .i64 (i : Int) ∧ i ≤ t.ats.length ∧ t.ats.length - i ≤ gk ∧ Hid (Low (w.alloc (box4 t pe ce pv cv)) wr))
        case atStart => exact ⟨0, by simp [mxL], rfl, Nat.zero_le _, Nat.le_refl _, G⟩
        case round =>
          clear f0 f1 f2 f3 G0 G
          obtain ⟨i, rfl, rfl, hi, hg, G⟩ := hrel
          have G0 := Lib.hid ((low_new (Low.refl w) _).trans G.out)
          obtain ⟨f0, f1, f2, f3⟩ := low_box G.out
          by_cases hlt : i < t.ats.length
          · have zl : (i : Int) < (t.ats.length : Int) := by omega
            obtain ⟨b, o, qe, de, qv, dv, rfl, -, e0, e1, e2, e3, e4, e5, -, hx⟩ := RAs.at (RAs.low HA.out G0.out) hlt
            have HC := Lib.hid (show Calls Tryz.prog 27 #[.agg #[.int .i64 (aty t.ats[i]).k, .string (aty t.ats[i]).n, .slice qe (aty t.ats[i]).l.length de, .slice qv (aty t.ats[i]).ats.length dv]] wr _ from IH.out A (aty t.ats[i]) wr _ _ hx)
            have HT := Lib.hid (mxL_take (fun x => dpt n (aty x)) hlt)
            generalize mxL ((t.ats.take i).map fun x => dpt n (aty x)) = q0 at *
            generalize hc : dpt n (aty t.ats[i]) = c at *
            obtain ⟨q, hq⟩ : ∃ q, q = max p q0 := ⟨_, rfl⟩
            rw [← hq]
            have HQ := Lib.hid hq
            have HCC := Lib.hid hc
            clear hx hq hc
            go_wp2_with fail
            refine HC.out.mono ?_
            rintro e w' ⟨rfl, l⟩
            have G2 := Lib.hid (G.out.trans l)
            clear l HC
            by_cases hqc : q < c
            · have z2 : (q : Int) < (c : Int) := by omega
              go_wp2_with fail
              go_roundg (t.ats.length - (i + 1))
              case measure => omega
              case rel => exact ⟨i + 1, by rw [HT.out]; congr 1; have := HQ.out; omega, by go_num, by omega, by omega, G2⟩
            · have z2 : ¬ (q : Int) < (c : Int) := by omega
              go_wp2_with fail
              go_roundg (t.ats.length - (i + 1))
              case measure => omega
              case rel => exact ⟨i + 1, by rw [HT.out]; congr 1; have := HQ.out; omega, by go_num, by omega, by omega, G2⟩
          · have zl : ¬ (i : Int) < (t.ats.length : Int) := by omega
            have hq : t.ats.take i = t.ats := List.take_of_length_le (by omega)
            rw [hq]
            have hR := HR.out
            rw [← HP.out] at hR
            obtain ⟨q, hq2⟩ : ∃ q, q = max p (mxL (t.ats.map fun x => dpt n (aty x))) := ⟨_, rfl⟩
            rw [← hq2] at hR ⊢
            have HQ := Lib.hid (show (q : Int) + 1 = (R : Int) by omega)
            have hq6 : (q : Int) ≤ 1000001 := by omega
            have hq0 : (0 : Int) ≤ (q : Int) := by omega
            clear hq hq2 hR
            go_wp2_with fail
            go_ret
            exact ⟨retI HQ.out, G0.out⟩
end Go.Proofs.YtnenjgngahipdaaGreat
