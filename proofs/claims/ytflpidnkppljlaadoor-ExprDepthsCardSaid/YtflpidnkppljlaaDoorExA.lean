/- How deep an expression is nested: of whatever tree of kids. Condition: no deeper than a million. An expression among a law's arguments: kids that lie in memory. No condition. -/
import Derived.Test.YtflpidnkppljlaaDoorExM
import Derived.Handy
import Derived.Lib.Hide
import Derived.WalkLawsBesides
import Derived.WalkSpells
import Derived.Deep.LoopGhost
import Derived.Deep.Slices
import Derived.ChangeArms
import Derived.DataReads
set_option linter.unusedVariables false
set_option linter.unnecessarySimpa false
set_option linter.unusedSimpArgs false
namespace Go.Proofs.YtflpidnkppljlaaDoor
open Go.RowKit
/-- Kids alone. -/
inductive Ro where
  | mk (ks : List Ro) : Ro
def Ro.ks : Ro → List Ro | .mk ks => ks
mutual
def rdep : Ro → Nat
  | .mk ks => rdepL ks + 1
def rdepL : List Ro → Nat
  | [] => 0
  | x :: r => max (rdep x) (rdepL r)
end
theorem rdep_v (x : Ro) : rdep x = rdepL x.ks + 1 := by cases x; rw [rdep]; rfl
theorem rdep_mem {x : Ro} {l : List Ro} (h : x ∈ l) : rdep x ≤ rdepL l := by
  induction l with
  | nil => simp at h
  | cons y l ih =>
    rw [rdepL]
    rcases List.mem_cons.1 h with rfl | h
    · exact Nat.le_max_left _ _
    · exact Nat.le_trans (ih h) (Nat.le_max_right _ _)
theorem rdepL_app (l m : List Ro) : rdepL (l ++ m) = max (rdepL l) (rdepL m) := by
  induction l with
  | nil => simp [rdepL]
  | cons x l ih => rw [List.cons_append, rdepL, rdepL, ih]; omega
theorem rdepL_take {l : List Ro} {i : Nat} (h : i < l.length) : rdepL (l.take (i + 1)) = max (rdepL (l.take i)) (rdep l[i]) := by
  rw [List.take_succ_eq_append_getElem h, rdepL_app]
  simp [rdepL]
theorem rdepL_le {l : List Ro} (i : Nat) : rdepL (l.take i) ≤ rdepL l := by
  have h := rdepL_app (l.take i) (l.drop i)
  rw [List.take_append_drop] at h
  omega
/-- What an expression has but its kids. -/
structure Hx where
  op : Int
  k : Int
  b : Bool
  n : Int
  s : ByteArray
  t : ByteArray
  i : ByteArray
  ia : Option Addr
  il : Nat
  ic : Nat
  ma : Option Addr
  ml : Nat
  mc : Nat
  nm : ByteArray
  na : Option Addr
  nl : Nat
  nc : Nat
mutual
/-- Where the kids lie. -/
def KAt (w : World) : Ro → Option Addr → Nat → Nat → Prop
  | .mk ks, ka, n, kc => n = ks.length ∧ (n ≤ kc ∧ kc ≤ 9223372036854775807) ∧ (ks = [] ∨ ∃ g o, ka = some ⟨g, o, none⟩ ∧ KRow w g o ks)
def KRow (w : World) (g : Nat) : Nat → List Ro → Prop
  | _, [] => True
  | o, x :: r => (∃ (h : Hx) (ka : Option Addr) (n kc : Nat), CellsE w g o [.int .i64 h.op, .int .i64 h.k, .bool h.b, .int .i64 h.n, .string h.s, .string h.t, .string h.i, .slice h.ia h.il h.ic, .slice h.ma h.ml h.mc, .string h.nm, .slice ka n kc, .slice h.na h.nl h.nc] ∧ KAt w x ka n kc) ∧ KRow w g (o + 12) r
end
theorem kAt_v {w : World} {x : Ro} {ka : Option Addr} {n kc : Nat} : KAt w x ka n kc ↔ n = x.ks.length ∧ (n ≤ kc ∧ kc ≤ 9223372036854775807) ∧ (x.ks = [] ∨ ∃ g o, ka = some ⟨g, o, none⟩ ∧ KRow w g o x.ks) := by
  cases x; rw [KAt]; rfl
theorem kRow_at {w : World} {g : Nat} : ∀ {l : List Ro} {o : Nat}, KRow w g o l → ∀ j (hj : j < l.length), ∃ (h : Hx) (ka : Option Addr) (n kc : Nat), CellsE w g (o + j * 12) [.int .i64 h.op, .int .i64 h.k, .bool h.b, .int .i64 h.n, .string h.s, .string h.t, .string h.i, .slice h.ia h.il h.ic, .slice h.ma h.ml h.mc, .string h.nm, .slice ka n kc, .slice h.na h.nl h.nc] ∧ KAt w l[j] ka n kc
  | [], _, _, j, hj => absurd hj (Nat.not_lt_zero _)
  | x :: l, o, h, 0, _ => by rw [KRow] at h; simpa using h.1
  | x :: l, o, h, j + 1, hj => by
    rw [KRow] at h
    obtain ⟨h', ka, n, kc, hc, hr⟩ := kRow_at h.2 j (by simpa using hj)
    exact ⟨h', ka, n, kc, by rwa [show o + (j + 1) * 12 = o + 12 + j * 12 by omega], hr⟩
mutual
theorem KAt.low {w w' : World} (h : Low w w') : ∀ (x : Ro) {ka : Option Addr} {n kc : Nat}, KAt w x ka n kc → KAt w' x ka n kc
  | .mk ks, ka, n, kc, hr => by
    rw [KAt] at hr ⊢
    obtain ⟨h1, h2, hr⟩ := hr
    refine ⟨h1, h2, ?_⟩
    rcases hr with h0 | ⟨g, o, hg, hf⟩
    · exact .inl h0
    · exact .inr ⟨g, o, hg, KRow.low h g ks hf⟩
theorem KRow.low {w w' : World} (h : Low w w') (g : Nat) : ∀ (l : List Ro) {o : Nat}, KRow w g o l → KRow w' g o l
  | [], _, _ => by rw [KRow]; trivial
  | x :: l, o, hf => by
    rw [KRow] at hf ⊢
    obtain ⟨⟨h', ka, n, kc, hc, hr⟩, hf⟩ := hf
    exact ⟨⟨h', ka, n, kc, fun j v hv => h.keep (hc j v hv), KAt.low h x hr⟩, KRow.low h g l hf⟩
end
mutual
def roE : Ex → Ro
  | .mk _ _ _ ks _ => .mk (roL ks)
def roL : List Ex → List Ro
  | [] => []
  | x :: r => roE x :: roL r
end
theorem roL_len (l : List Ex) : (roL l).length = l.length := by
  induction l with
  | nil => rfl
  | cons x l ih => rw [roL, List.length_cons, List.length_cons, ih]
mutual
theorem ro_dep : ∀ x : Ex, rdep (roE x) = exDep x
  | .mk op v nm ks ns => by rw [roE, rdep, exDep, ro_depL ks]
theorem ro_depL : ∀ l : List Ex, rdepL (roL l) = exDepL l
  | [] => rfl
  | x :: l => by rw [roL, rdepL, exDepL, ro_dep x, ro_depL l]
end
mutual
theorem kAt_of {A : Nat → Prop} {w : World} : ∀ (x : Ex) {p : Pl}, XAt A w x p → KAt w (roE x) p.ka x.ks.length p.kc
  | .mk op v nm ks ns, p, hr => by
    rw [XAt] at hr
    obtain ⟨hn, hl, hr⟩ := hr
    rw [roE, KAt]
    refine ⟨(roL_len ks).symm, hl, ?_⟩
    rcases hr with h0 | ⟨g, hg, ha, hf⟩
    · exact .inl (by subst h0; rfl)
    · exact .inr ⟨g, 0, hg, kRow_of ks hf⟩
theorem kRow_of {A : Nat → Prop} {w : World} {g : Nat} : ∀ (l : List Ex) {o : Nat}, XRow A w g o l → KRow w g o (roL l)
  | [], _, _ => by rw [roL, KRow]; trivial
  | x :: l, o, hf => by
    rw [XRow] at hf
    obtain ⟨⟨p, hc, hr⟩, hf⟩ := hf
    rw [roL, KRow]
    exact ⟨⟨⟨x.op, x.v.k, x.v.b, x.v.n, ⟨x.v.s.toArray⟩, ⟨x.v.t.toArray⟩, ⟨x.v.i.toArray⟩, none, 0, 0, none, 0, 0, ⟨x.nm.toArray⟩, p.na, x.ns.length, p.nc⟩, _, _, _, hc, kAt_of x hr⟩, kRow_of l hf⟩
end
def DepC8 (F : Nat) (x : Ro) : Prop := ∀ (w : World) (h : Hx) (ka : Option Addr) (n kc : Nat), KAt w x ka n kc → Calls Tryd.prog F #[.agg #[.int .i64 h.op, .int .i64 h.k, .bool h.b, .int .i64 h.n, .string h.s, .string h.t, .string h.i, .slice h.ia h.il h.ic, .slice h.ma h.ml h.mc, .string h.nm, .slice ka n kc, .slice h.na h.nl h.nc]] w fun e w' => e = .returned (.int .i64 (rdep x : Int)) ∧ Low w w'
theorem retI8 {a b : Int} (h : a = b) : Ending.returned (.int .i64 a) = Ending.returned (.int .i64 b) := by rw [h]
set_option maxHeartbeats 3200000 in
theorem depth_n8 (N : Nat) (hN : N ≤ 1000000) : ∀ x : Ro, rdep x ≤ N → DepC8 7 x := by
  induction N with
  | zero => intro x h; rw [rdep_v] at h; omega
  | succ N ih =>
    intro x hd w h ka n kc hr
    obtain ⟨rfl, ⟨hlc, hcm⟩, hrow⟩ := kAt_v.1 hr
    have ih' : ∀ y ∈ x.ks, DepC8 7 y := fun y hy => ih (by omega) y (by have := rdep_mem hy; rw [rdep_v] at hd; omega)
    have hb : ∀ i, rdepL (x.ks.take i) ≤ 1000000 := fun i => by have := rdepL_le (l := x.ks) i; rw [rdep_v] at hd; omega
    rw [rdep_v x]
    generalize x.ks = l at *
    have HROW := Lib.hid hrow
    have HI := Lib.hid ih'
    have HB := Lib.hid hb
    clear hr ih ih' hb hd hrow
    go_enter Tryd.func7, Tryd.ntmps7
    go_wp2_with fail
    go_loopg [3, 9] l.length (fun gk vd vi wr => ∃ i : Nat, vd = .int .i64 (rdepL (l.take i) : Int) ∧ vi = .int .i64 (i : Int) ∧ i ≤ l.length ∧ l.length - i ≤ gk ∧ Hid (Low w wr))
    case atStart => exact ⟨0, rfl, rfl, Nat.zero_le _, Nat.le_refl _, Lib.hid (Low.refl w |> fun h => h.trans (low_new (Low.refl w) _))⟩
    case round =>
      obtain ⟨i, rfl, rfl, hi, hg, G⟩ := hrel
      by_cases hlt : i < l.length
      · have z1 : (i : Int) < (l.length : Int) := by omega
        obtain ⟨g, o, rfl, hf⟩ : ∃ g o, ka = some ⟨g, o, none⟩ ∧ KRow w g o l := by
          rcases HROW.out with h0 | h0
          · subst h0; simp at hlt
          · exact h0
        obtain ⟨h', ka', n', kc', hc, hk⟩ := kRow_at (KRow.low G.out g l hf) i hlt
        have e0 := hc 0 _ rfl
        have e1 := hc 1 _ rfl
        have e2 := hc 2 _ rfl
        have e3 := hc 3 _ rfl
        have e4 := hc 4 _ rfl
        have e5 := hc 5 _ rfl
        have e6 := hc 6 _ rfl
        have e7 := hc 7 _ rfl
        have e8 := hc 8 _ rfl
        have e9 := hc 9 _ rfl
        have e10 := hc 10 _ rfl
        have e11 := hc 11 _ rfl
        rw [Nat.add_zero] at e0
        have HC := Lib.hid fun X => HI.out l[i] (List.getElem_mem hlt) (wr.alloc X) h' ka' n' kc' (KAt.low (low_new (Low.refl wr) X) _ hk)
        have HT := Lib.hid (rdepL_take hlt)
        have hq1 := HB.out i
        have hq2 := HB.out (i + 1)
        rw [rdepL_take hlt] at hq2
        generalize rdepL (l.take i) = q at *
        generalize rdep l[i] = c at *
        clear hc hk hf
        go_wp2_with fail
        refine (HC.out _).mono ?_
        rintro e w2 ⟨rfl, l2⟩
        have G2 := Lib.hid ((low_new G.out _).trans l2)
        clear l2 HC e0 e1 e2 e3 e4 e5 e6 e7 e8 e9 e10 e11
        go_wp2_with fail
        all_goals
          go_roundg (l.length - (i + 1))
          case measure => omega
          case rel => exact ⟨i + 1, by rw [HT.out]; congr 1; omega, by go_num, by omega, by omega, G2⟩
      · have z1 : ¬ (i : Int) < (l.length : Int) := by omega
        have hq : l.take i = l := List.take_of_length_le (by omega)
        have hb := HB.out l.length
        rw [List.take_length] at hb
        rw [hq]
        clear hq
        obtain ⟨q, hq⟩ : ∃ q, q = rdepL l := ⟨_, rfl⟩
        rw [← hq] at hb ⊢
        have HQ := Lib.hid hq
        clear hq
        go_wp2_with fail
        go_returns
        exact ⟨retI8 (by have := HQ.out; omega), G.out⟩
theorem depth_c8 (x : Ro) (h : rdep x ≤ 1000000) : DepC8 7 x := depth_n8 (rdep x) h x (Nat.le_refl _)
end Go.Proofs.YtflpidnkppljlaaDoor
namespace Go.Proofs.YtflpidnkppljlaaDoor
open Go.RowKit Go.ChangeShapes Go.WideShapes Go.Deep
variable {H : Type} {enc : TypeId × Value → H} {w : World} {spare : Nat → Bool} {held : Bool}
theorem cofE : Tryd.prog.cellsOf 30 = 12 := by kernel_rfl
theorem cofV : Tryd.prog.cellsOf 27 = 8 := by kernel_rfl
theorem cofI : Tryd.prog.cellsOf 3 = 1 := by kernel_rfl
theorem cofB : Tryd.prog.cellsOf 4 = 1 := by kernel_rfl
theorem cofI64 : Tryd.prog.cellsOf 2 = 1 := by kernel_rfl
theorem cofS : Tryd.prog.cellsOf 9 = 1 := by kernel_rfl
theorem cofU : Tryd.prog.cellsOf 23 = 2 := by kernel_rfl
theorem cofVs : Tryd.prog.cellsOf 24 = 1 := by kernel_rfl
theorem cofSs : Tryd.prog.cellsOf 25 = 1 := by kernel_rfl
theorem cofEs : Tryd.prog.cellsOf 28 = 1 := by kernel_rfl
theorem addr_plainE {a : Addr} {v : Value} (h : w.cell? (a.add 0) = some v) : ∃ b o, a = ⟨b, o, none⟩ := by
  have e : a.add 0 = a := by simp [Addr.add]
  rw [e] at h
  obtain ⟨b, o, s⟩ := a
  cases s with
  | none => exact ⟨b, o, rfl⟩
  | some s => unfold World.cell? at h; split at h <;> simp at h
set_option maxRecDepth 100000 in
theorem trod_lit {base fuel : Nat} {cs : List Value} {x : DataW H × List MemPlace} (h : DataW.trod enc Tryd.prog w base spare held fuel 27 cs = some x) : ∃ (k : Int) (b : Bool) (n : Int) (s t i : ByteArray) (ia : Option Addr) (il ic : Nat) (ma : Option Addr) (ml mc : Nat), cs = [.int .i64 k, .bool b, .int .i64 n, .string s, .string t, .string i, .slice ia il ic, .slice ma ml mc] := by
  obtain ⟨xs, n, rfl, -, hlen, hxl, hf⟩ := DataW.trod_struct Tryd.underlying27 h
  rw [cofV] at hlen
  have hx7 : xs.length = 7 := hxl
  have get : ∀ i, i < 7 → ∃ y, xs[i]? = some y := fun i hi => ⟨xs[i]'(by omega), List.getElem?_eq_getElem (by omega)⟩
  match cs, hlen with
  | [c0, c1, c2, c3, c4, c5, c6, c7], _ =>
      obtain ⟨y0, g0⟩ := get 0 (by decide)
      obtain ⟨y1, g1⟩ := get 1 (by decide)
      obtain ⟨y2, g2⟩ := get 2 (by decide)
      obtain ⟨y3, g3⟩ := get 3 (by decide)
      obtain ⟨y4, g4⟩ := get 4 (by decide)
      obtain ⟨y5, g5⟩ := get 5 (by decide)
      obtain ⟨y6, g6⟩ := get 6 (by decide)
      have f0 : DataW.trod enc Tryd.prog w base spare held n 3 (([c0, c1, c2, c3, c4, c5, c6, c7].drop 0).take (Tryd.prog.cellsOf 3)) = some y0 := (hf 0 _ rfl).trans g0
      have f1 : DataW.trod enc Tryd.prog w base spare held n 4 (([c0, c1, c2, c3, c4, c5, c6, c7].drop 1).take (Tryd.prog.cellsOf 4)) = some y1 := (hf 1 _ rfl).trans g1
      have f2 : DataW.trod enc Tryd.prog w base spare held n 2 (([c0, c1, c2, c3, c4, c5, c6, c7].drop 2).take (Tryd.prog.cellsOf 2)) = some y2 := (hf 2 _ rfl).trans g2
      have f3 : DataW.trod enc Tryd.prog w base spare held n 9 (([c0, c1, c2, c3, c4, c5, c6, c7].drop 3).take (Tryd.prog.cellsOf 9)) = some y3 := (hf 3 _ rfl).trans g3
      have f4 : DataW.trod enc Tryd.prog w base spare held n 23 (([c0, c1, c2, c3, c4, c5, c6, c7].drop 4).take (Tryd.prog.cellsOf 23)) = some y4 := (hf 4 _ rfl).trans g4
      have f5 : DataW.trod enc Tryd.prog w base spare held n 24 (([c0, c1, c2, c3, c4, c5, c6, c7].drop 6).take (Tryd.prog.cellsOf 24)) = some y5 := (hf 5 _ rfl).trans g5
      have f6 : DataW.trod enc Tryd.prog w base spare held n 25 (([c0, c1, c2, c3, c4, c5, c6, c7].drop 7).take (Tryd.prog.cellsOf 25)) = some y6 := (hf 6 _ rfl).trans g6
      rw [cofI] at f0
      rw [cofB] at f1
      rw [cofI64] at f2
      rw [cofS] at f3
      rw [cofU] at f4
      rw [cofVs] at f5
      rw [cofSs] at f6
      obtain ⟨k, e0, -, -⟩ := DataW.trod_int Tryd.underlying3 f0
      obtain ⟨b, e1, -⟩ := DataW.trod_bool Tryd.underlying4 f1
      obtain ⟨m, e2, -, -⟩ := DataW.trod_int Tryd.underlying2 f2
      obtain ⟨s, e3, -, hs⟩ := DataW.trod_string Tryd.underlying9 f3
      obtain ⟨us, un, -, -, -, hul, huf⟩ := DataW.trod_struct Tryd.underlying23 f4
      have hu2 : us.length = 2 := hul
      have u0 : DataW.trod enc Tryd.prog w base spare held un 9 ((([c0, c1, c2, c3, c4, c5, c6, c7].drop 4).take 2).drop 0 |>.take (Tryd.prog.cellsOf 9)) = some _ := (huf 0 _ rfl).trans (List.getElem?_eq_getElem (by omega))
      have u1 : DataW.trod enc Tryd.prog w base spare held un 9 ((([c0, c1, c2, c3, c4, c5, c6, c7].drop 4).take 2).drop 1 |>.take (Tryd.prog.cellsOf 9)) = some _ := (huf 1 _ rfl).trans (List.getElem?_eq_getElem (by omega))
      rw [cofS] at u0 u1
      obtain ⟨t, e4, -, ht⟩ := DataW.trod_string Tryd.underlying9 u0
      obtain ⟨i, e5, -, hi⟩ := DataW.trod_string Tryd.underlying9 u1
      have e6 : ∃ ia il ic, c6 = .slice ia il ic := by
        rcases DataW.trod_slice Tryd.underlying24 f5 with ⟨e6, -⟩ | ⟨a, len, cap, elems, rest, n2, hn2, e6, -⟩
        · simp at e6; exact ⟨_, _, _, e6⟩
        · simp at e6; exact ⟨_, _, _, e6⟩
      have e7 : ∃ ia il ic, c7 = .slice ia il ic := by
        rcases DataW.trod_slice Tryd.underlying25 f6 with ⟨e6, -⟩ | ⟨a, len, cap, elems, rest, n2, hn2, e6, -⟩
        · simp at e6; exact ⟨_, _, _, e6⟩
        · simp at e6; exact ⟨_, _, _, e6⟩
      obtain ⟨ia, il, ic, rfl⟩ := e6
      obtain ⟨ma, ml, mc, rfl⟩ := e7
      simp at e0 e1 e2 e3 e4 e5
      subst e0 e1 e2 e3 e4 e5
      exact ⟨_, _, _, _, _, _, _, _, _, _, _, _, rfl⟩
instance : Inhabited Ro := ⟨.mk []⟩
instance : Inhabited Hx := ⟨⟨0, 0, false, 0, ⟨#[]⟩, ⟨#[]⟩, ⟨#[]⟩, none, 0, 0, none, 0, 0, ⟨#[]⟩, none, 0, 0⟩⟩
theorem kRow_of' {w : World} {g : Nat} : ∀ {l : List Ro} {o : Nat}, (∀ j (hj : j < l.length), ∃ (h : Hx) (ka : Option Addr) (n kc : Nat), CellsE w g (o + j * 12) [.int .i64 h.op, .int .i64 h.k, .bool h.b, .int .i64 h.n, .string h.s, .string h.t, .string h.i, .slice h.ia h.il h.ic, .slice h.ma h.ml h.mc, .string h.nm, .slice ka n kc, .slice h.na h.nl h.nc] ∧ KAt w l[j] ka n kc) → KRow w g o l
  | [], _, _ => by rw [KRow]; trivial
  | x :: l, o, h => by
    rw [KRow]
    refine ⟨?_, kRow_of' fun j hj => ?_⟩
    · have := h 0 (by simp); simpa using this
    · have := h (j + 1) (by simpa using hj)
      rw [show o + 12 + j * 12 = o + (j + 1) * 12 by omega]
      simpa using this
theorem choose_ltE {α : Type} [Inhabited α] {n : Nat} {P : Nat → α → Prop} (h : ∀ j, j < n → ∃ a, P j a) : ∃ f : Nat → α, ∀ j, j < n → P j (f j) := by
  classical
  refine ⟨fun j => if hj : j < n then Classical.choose (h j hj) else default, fun j hj => ?_⟩
  simp only [dif_pos hj]
  exact Classical.choose_spec (h j hj)
set_option maxRecDepth 100000 in
theorem trod_expr {base : Nat} : ∀ (fuel : Nat) {cs : List Value} {x : DataW H × List MemPlace}, DataW.trod enc Tryd.prog w base spare held fuel 30 cs = some x → ∃ (x : Ro) (h : Hx) (ka : Option Addr) (n kc : Nat), cs = [.int .i64 h.op, .int .i64 h.k, .bool h.b, .int .i64 h.n, .string h.s, .string h.t, .string h.i, .slice h.ia h.il h.ic, .slice h.ma h.ml h.mc, .string h.nm, .slice ka n kc, .slice h.na h.nl h.nc] ∧ KAt w x ka n kc := by
  intro fuel
  induction fuel using Nat.strongRecOn with
  | _ fuel ih =>
    intro cs x h
    obtain ⟨xs, n, rfl, -, hlen, hxl, hf⟩ := DataW.trod_struct Tryd.underlying30 h
    rw [cofE] at hlen
    have hx5 : xs.length = 5 := hxl
    have get : ∀ i, i < 5 → ∃ y, xs[i]? = some y := fun i hi => ⟨xs[i]'(by omega), List.getElem?_eq_getElem (by omega)⟩
    match cs, hlen with
    | [c0, c1, c2, c3, c4, c5, c6, c7, c8, c9, c10, c11], _ =>
      obtain ⟨y0, g0⟩ := get 0 (by decide)
      obtain ⟨y1, g1⟩ := get 1 (by decide)
      obtain ⟨y2, g2⟩ := get 2 (by decide)
      obtain ⟨y3, g3⟩ := get 3 (by decide)
      obtain ⟨y4, g4⟩ := get 4 (by decide)
      have f0 : DataW.trod enc Tryd.prog w base spare held n 3 (([c0, c1, c2, c3, c4, c5, c6, c7, c8, c9, c10, c11].drop 0).take (Tryd.prog.cellsOf 3)) = some y0 := (hf 0 _ rfl).trans g0
      have f1 : DataW.trod enc Tryd.prog w base spare held n 27 (([c0, c1, c2, c3, c4, c5, c6, c7, c8, c9, c10, c11].drop 1).take (Tryd.prog.cellsOf 27)) = some y1 := (hf 1 _ rfl).trans g1
      have f2 : DataW.trod enc Tryd.prog w base spare held n 9 (([c0, c1, c2, c3, c4, c5, c6, c7, c8, c9, c10, c11].drop 9).take (Tryd.prog.cellsOf 9)) = some y2 := (hf 2 _ rfl).trans g2
      have f3 : DataW.trod enc Tryd.prog w base spare held n 28 (([c0, c1, c2, c3, c4, c5, c6, c7, c8, c9, c10, c11].drop 10).take (Tryd.prog.cellsOf 28)) = some y3 := (hf 3 _ rfl).trans g3
      have f4 : DataW.trod enc Tryd.prog w base spare held n 25 (([c0, c1, c2, c3, c4, c5, c6, c7, c8, c9, c10, c11].drop 11).take (Tryd.prog.cellsOf 25)) = some y4 := (hf 4 _ rfl).trans g4
      rw [cofI] at f0
      rw [cofV] at f1
      rw [cofS] at f2
      rw [cofEs] at f3
      rw [cofSs] at f4
      obtain ⟨op, e0, -, -⟩ := DataW.trod_int Tryd.underlying3 f0
      obtain ⟨k, b, m, s, t, i, ia, il, ic, ma, ml, mc, e1⟩ := trod_lit f1
      obtain ⟨nm, e2, -, hs⟩ := DataW.trod_string Tryd.underlying9 f2
      have e4 : ∃ na nl nc, c11 = .slice na nl nc := by
        rcases DataW.trod_slice Tryd.underlying25 f4 with ⟨e6, -⟩ | ⟨a, len, cap, elems, rest, n2, hn2, e6, -⟩
        · simp at e6; exact ⟨_, _, _, e6⟩
        · simp at e6; exact ⟨_, _, _, e6⟩
      obtain ⟨na, nl, nc, rfl⟩ := e4
      simp at e0 e1 e2
      obtain ⟨rfl, rfl, rfl, rfl, rfl, rfl, rfl, rfl⟩ := e1
      subst e0 e2
      rcases DataW.trod_slice Tryd.underlying28 f3 with ⟨e6, -⟩ | ⟨a, len, cap, elems, rest, n2, hn2, e6, -, -, hlc, hcm, hel, hall, -, -⟩
      · simp at e6
        subst e6
        exact ⟨.mk [], ⟨op, k, b, m, s, t, i, ia, il, ic, ma, ml, mc, nm, na, nl, nc⟩, none, 0, 0, rfl, kAt_v.2 ⟨rfl, ⟨by simp, by simp⟩, .inl rfl⟩⟩
      · simp at e6
        subst e6
        rw [cofE] at hall
        have hx : ∀ j, j < len → ∃ z : Ro × Hx × Option Addr × Nat × Nat, (∀ c u, ([.int .i64 z.2.1.op, .int .i64 z.2.1.k, .bool z.2.1.b, .int .i64 z.2.1.n, .string z.2.1.s, .string z.2.1.t, .string z.2.1.i, .slice z.2.1.ia z.2.1.il z.2.1.ic, .slice z.2.1.ma z.2.1.ml z.2.1.mc, .string z.2.1.nm, .slice z.2.2.1 z.2.2.2.1 z.2.2.2.2, .slice z.2.1.na z.2.1.nl z.2.1.nc] : List Value)[c]? = some u → w.cell? (a.add (j * 12 + c)) = some u) ∧ KAt w z.1 z.2.2.1 z.2.2.2.1 z.2.2.2.2 := fun j hj => by
          have h1 := hall j hj
          rw [List.getElem?_eq_getElem (by omega)] at h1
          obtain ⟨c, h2, h3⟩ := Option.bind_eq_some_iff.1 h1
          obtain ⟨x, h, ka, n, kc, rfl, hr⟩ := ih n2 (by omega) h3
          obtain ⟨-, -, hat⟩ := World.cells?_some h2
          refine ⟨(x, h, ka, n, kc), fun c u hu => ?_, hr⟩
          have h8 : c < 12 := by have := (List.getElem?_eq_some_iff.1 hu).1; simpa using this
          have := hat c h8
          rw [add_add] at this
          rw [this]; exact hu
        haveI : Inhabited (Ro × Hx × Option Addr × Nat × Nat) := ⟨(default, default, none, 0, 0)⟩
        obtain ⟨f, hfz⟩ := choose_ltE hx
        refine ⟨.mk ((List.range len).map fun j => (f j).1), ⟨op, k, b, m, s, t, i, ia, il, ic, ma, ml, mc, nm, na, nl, nc⟩, some a, len, cap, rfl, kAt_v.2 ⟨by simp [Ro.ks], ⟨hlc, by unfold maxLen at hcm; exact hcm⟩, ?_⟩⟩
        rcases Nat.eq_zero_or_pos len with h0 | h0
        · exact .inl (by rw [h0]; rfl)
        · obtain ⟨bb, oo, rfl⟩ := addr_plainE ((hfz 0 h0).1 0 _ rfl)
          refine .inr ⟨bb, oo, rfl, kRow_of' fun j hj => ?_⟩
          have hj' : j < len := by simpa [Ro.ks] using hj
          have hg : (Ro.mk ((List.range len).map fun j => (f j).1)).ks[j] = (f j).1 := by simp [Ro.ks]
          rw [hg]
          refine ⟨(f j).2.1, (f j).2.2.1, (f j).2.2.2.1, (f j).2.2.2.2, fun c u hu => ?_, (hfz j hj').2⟩
          have := (hfz j hj').1 c u hu
          rw [Addr.add_lit] at this
          rw [Nat.add_assoc]; exact this
set_option maxRecDepth 100000 in
theorem open_expr {r : Reach} {base : Nat} {v : Value} {d : DataW H} {p : List MemPlace} (hv : Value.okWide Tryd.prog w r base 30 v) (h : DataW.Trod enc Tryd.prog w 0 spare held 30 v d p) : ∃ (x : Ro) (h : Hx) (ka : Option Addr) (n kc : Nat), v = .agg #[.int .i64 h.op, .int .i64 h.k, .bool h.b, .int .i64 h.n, .string h.s, .string h.t, .string h.i, .slice h.ia h.il h.ic, .slice h.ma h.ml h.mc, .string h.nm, .slice ka n kc, .slice h.na h.nl h.nc] ∧ KAt w x ka n kc := by
  obtain ⟨cs, rfl, -⟩ := okWide_struct Tryd.underlying30 hv
  obtain ⟨fuel, hf⟩ := h
  obtain ⟨x, h, ka, n, kc, he, hr⟩ := trod_expr fuel hf
  refine ⟨x, h, ka, n, kc, ?_, hr⟩
  have : cs = #[.int .i64 h.op, .int .i64 h.k, .bool h.b, .int .i64 h.n, .string h.s, .string h.t, .string h.i, .slice h.ia h.il h.ic, .slice h.ma h.ml h.mc, .string h.nm, .slice ka n kc, .slice h.na h.nl h.nc] := by
    have e2 : cs = ([.int .i64 h.op, .int .i64 h.k, .bool h.b, .int .i64 h.n, .string h.s, .string h.t, .string h.i, .slice h.ia h.il h.ic, .slice h.ma h.ml h.mc, .string h.nm, .slice ka n kc, .slice h.na h.nl h.nc] : List Value).toArray := by rw [← he]; simp [Value.cells]
    rw [e2]
  rw [this]
end Go.Proofs.YtflpidnkppljlaaDoor
