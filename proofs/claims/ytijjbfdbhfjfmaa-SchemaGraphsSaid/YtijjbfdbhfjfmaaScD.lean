/- schema.Check's two maps, made in whatever order. No condition. -/
import Derived.Test.YtijjbfdbhfjfmaaScC
namespace Go.Proofs.Ytijjbfdbhfjfmaa
open Go.RowKit
set_option linter.unusedVariables false
def ops12 : Array Oper :=
  #[{ dst := some 5, op := Op.load 25 (Operand.tmp 1), type := 25, pos := "schema.go:27", after := #[], guard := none },
    { dst := some 6, op := Op.call { callee := Callee.value (Operand.func 23), args := #[Operand.tmp 5], argTypes := #[25] }, type := 59, pos := "schema.go:27", after := #[{ on := 0, ground := Ground.data }], guard := none },
    { dst := some 7, op := Op.load 25 (Operand.tmp 1), type := 25, pos := "schema.go:27", after := #[], guard := none },
    { dst := some 8, op := Op.call { callee := Callee.value (Operand.func 24), args := #[Operand.tmp 7], argTypes := #[25] }, type := 59, pos := "schema.go:27", after := #[{ on := 2, ground := Ground.data }, { on := 1, ground := Ground.chain }], guard := none },
    { dst := some 3, op := Op.alloc 59, type := 0, pos := "schema.go:27", after := #[], guard := none },
    { dst := some 4, op := Op.alloc 59, type := 0, pos := "schema.go:27", after := #[], guard := none },
    { dst := none, op := Op.store 59 (Operand.tmp 3) (Operand.tmp 6), type := 0, pos := "schema.go:27",
      after := #[{ on := 4, ground := Ground.data }, { on := 1, ground := Ground.data }, { on := 3, ground := Ground.chain }, { on := 0, ground := Ground.phase }, { on := 1, ground := Ground.phase }, { on := 2, ground := Ground.textOnly Departure.lateStores }, { on := 3, ground := Ground.textOnly Departure.lateStoresUnsure }, { on := 4, ground := Ground.phase }, { on := 5, ground := Ground.phase }],
      guard := none },
    { dst := none, op := Op.store 59 (Operand.tmp 4) (Operand.tmp 8), type := 0, pos := "schema.go:27",
      after := #[{ on := 5, ground := Ground.data }, { on := 3, ground := Ground.data }, { on := 6, ground := Ground.chain }, { on := 0, ground := Ground.phase }, { on := 1, ground := Ground.phase }, { on := 2, ground := Ground.phase }, { on := 3, ground := Ground.phase }, { on := 4, ground := Ground.phase }, { on := 5, ground := Ground.phase }, { on := 6, ground := Ground.phase }],
      guard := none }]
def ag2 (p p' : Option Addr) (l c l' c' : Nat) : Value := .agg #[.slice p l c, .slice p' l' c']
def fr12 (p p' : Option Addr) (l c l' c' : Nat) (sx : Nat) (s3 s4 s5 s6 s7 s8 : Value) : Act :=
  { tmps := #[.agg #[.slice p l c, .slice p' l' c'], .pointer (some ⟨sx, 0, none⟩), .int .i64 0, s3, s4, s5, s6, s7, s8, undef, undef, undef, undef, undef, undef, undef, undef, undef, undef, undef, undef, undef, undef, undef, undef, undef, undef, undef, undef, undef, undef, undef, undef, undef, undef, undef], defers := [] }
/-- What the region may ask. -/
structure C12 (U : World) (p p' : Option Addr) (l c l' c' : Nat) (sx : Nat) (tg ag : Gra) : Prop where
  c0 : U.cell? ⟨sx, 0, none⟩ = some (.slice p l c)
  c1 : U.cell? ⟨sx, 1, none⟩ = some (.slice p' l' c')
  it : ∀ V, Low U V → Calls Try.prog 23 #[.agg #[.slice p l c, .slice p' l' c']] V (InsP tg V)
  ia : ∀ V, Low U V → Calls Try.prog 24 #[.agg #[.slice p l c, .slice p' l' c']] V (InsP ag V)
/-- What lies behind it. -/
structure F12 (U : World) (tg ag : Gra) (x0 x1 b1 b2 : Nat) (w : World) : Prop where
  low : Low U w
  e0 : w.cell? ⟨x0, 0, none⟩ = some (.map (some b1))
  e1 : w.cell? ⟨x1, 0, none⟩ = some (.map (some b2))
  i1 : ∃ n, InsAt w b1 n tg
  i2 : ∃ n, InsAt w b2 n ag
theorem InsAt.setc {w : World} {b n x : Nat} {g : Gra} {v : Value} (h : InsAt w b n g) (hx : w.cell? ⟨x, 0, none⟩ = some (.map none)) : InsAt (w.setCell ⟨x, 0, none⟩ v) b n g := by
  obtain ⟨f, h1, h2, h3⟩ := h
  refine ⟨f, h1.block (Below.heap_setCell w ⟨x, 0, none⟩ v b ?_), h2, fun y u hu => ?_⟩
  · intro e
    obtain ⟨D, hD⟩ := h1
    obtain ⟨es, clock, hb, _⟩ := hD.owns
    simp only at e
    rw [e] at hb
    simp [World.cell?, hb] at hx
  · obtain ⟨p, cap, rfl, hc, hr⟩ := h3 y u hu
    refine ⟨p, cap, rfl, hc, fun j hj => ?_⟩
    obtain ⟨bb, o, e, rfl, k1, k2⟩ := hr j hj
    refine ⟨bb, o, e, rfl, fun c v hv => ?_, trivial⟩
    have k3 := k1 c v hv
    rw [World.cell?_setCell_other _ _ _ _ ?_]
    · exact k3
    · intro e2
      rw [e2] at hx
      rw [hx] at k3
      simp only [Option.some.injEq] at k3
      subst k3
      cases c with
      | zero => simp [encNm] at hv
      | succ c => simp [encNm] at hv
abbrev Fin12 (Q : Exit → Act → World → Prop) (U : World) (p p' : Option Addr) (l c l' c' sx : Nat) (tg ag : Gra) : Prop :=
  ∀ (x0 x1 b1 b2 : Nat) (w : World), F12 U tg ag x0 x1 b1 b2 w → Q .normal (fr12 p p' l c l' c' sx (.pointer (some ⟨x0, 0, none⟩)) (.pointer (some ⟨x1, 0, none⟩)) (.agg #[.slice p l c, .slice p' l' c']) (.map (some b1)) (.agg #[.slice p l c, .slice p' l' c']) (.map (some b2))) w
section
variable {Q : Exit → Act → World → Prop} {U w : World} {p p' : Option Addr} {l c l' c' sx x0 x1 b1 b2 n1 n2 : Nat} {tg ag : Gra}
theorem s12_11111111 (hQ : Fin12 Q U p p' l c l' c' sx tg ag) (h : F12 U tg ag x0 x1 b1 b2 w) : wpAny Try.prog .any ops12 Q 0 #[true, true, true, true, true, true, true, true] (fr12 p p' l c l' c' sx (.pointer (some ⟨x0, 0, none⟩)) (.pointer (some ⟨x1, 0, none⟩)) (.agg #[.slice p l c, .slice p' l' c']) (.map (some b1)) (.agg #[.slice p l c, .slice p' l' c']) (.map (some b2))) w := wpAny_done (by kernel_rfl) (hQ x0 x1 b1 b2 w h) _
theorem s12_11111110 (C : C12 U p p' l c l' c' sx tg ag) (hQ : Fin12 Q U p p' l c l' c' sx tg ag) (hl : Low U w) (hx : BoxAt w x0 [.map (some b1)]) (ux : U.heap.size ≤ x0) (hy : BoxAt w x1 [.map none]) (uy : U.heap.size ≤ x1) (hn : x0 ≠ x1) (hi : InsAt w b1 n1 tg) (ha : InsAt w b2 n2 ag) : wpAny Try.prog .any ops12 Q 1 #[true, true, true, true, true, true, true, false] (fr12 p p' l c l' c' sx (.pointer (some ⟨x0, 0, none⟩)) (.pointer (some ⟨x1, 0, none⟩)) (.agg #[.slice p l c, .slice p' l' c']) (.map (some b1)) (.agg #[.slice p l c, .slice p' l' c']) (.map (some b2))) w := by
  refine wpAny_ready (fuel := 0) (rs := [7]) (by kernel_rfl) (by simp) ?_
  refine AllReady.cons rfl (fun K hK => ?_) (AllReady.nil)
  · have g0 := hy.open' 0
    have g1 := hy.at 0 _ rfl
    unfold fr12 ops12
    go_simp
    refine hK _ _ ?_
    exact s12_11111111 hQ ⟨low_all hl uy (kept_setCell _ _ _ _), (hx.kept (kept_setCell _ _ _ _) (by simp; exact hn)).at 0 _ rfl, (hy.set 0 _).at 0 _ rfl, ⟨_, hi.setc (hy.at 0 _ rfl)⟩, ⟨_, ha.setc (hy.at 0 _ rfl)⟩⟩
theorem s12_11111100 (C : C12 U p p' l c l' c' sx tg ag) (hQ : Fin12 Q U p p' l c l' c' sx tg ag) (hl : Low U w) (hx : BoxAt w x0 [.map none]) (ux : U.heap.size ≤ x0) (hy : BoxAt w x1 [.map none]) (uy : U.heap.size ≤ x1) (hn : x0 ≠ x1) (hi : InsAt w b1 n1 tg) (ha : InsAt w b2 n2 ag) : wpAny Try.prog .any ops12 Q 2 #[true, true, true, true, true, true, false, false] (fr12 p p' l c l' c' sx (.pointer (some ⟨x0, 0, none⟩)) (.pointer (some ⟨x1, 0, none⟩)) (.agg #[.slice p l c, .slice p' l' c']) (.map (some b1)) (.agg #[.slice p l c, .slice p' l' c']) (.map (some b2))) w := by
  refine wpAny_ready (fuel := 1) (rs := [6]) (by kernel_rfl) (by simp) ?_
  refine AllReady.cons rfl (fun K hK => ?_) (AllReady.nil)
  · have g0 := hx.open' 0
    have g1 := hx.at 0 _ rfl
    unfold fr12 ops12
    go_simp
    refine hK _ _ ?_
    exact s12_11111110 C hQ (low_all hl ux (kept_setCell _ _ _ _)) (hx.set 0 _) ux (hy.kept (kept_setCell _ _ _ _) (by simp; exact fun e => hn e.symm)) uy hn (hi.setc (hx.at 0 _ rfl)) (ha.setc (hx.at 0 _ rfl))
theorem s12_11101100 (C : C12 U p p' l c l' c' sx tg ag) (hQ : Fin12 Q U p p' l c l' c' sx tg ag) (hl : Low U w) (hx : BoxAt w x0 [.map none]) (ux : U.heap.size ≤ x0) (hy : BoxAt w x1 [.map none]) (uy : U.heap.size ≤ x1) (hn : x0 ≠ x1) (hi : InsAt w b1 n1 tg) : wpAny Try.prog .any ops12 Q 3 #[true, true, true, false, true, true, false, false] (fr12 p p' l c l' c' sx (.pointer (some ⟨x0, 0, none⟩)) (.pointer (some ⟨x1, 0, none⟩)) (.agg #[.slice p l c, .slice p' l' c']) (.map (some b1)) (.agg #[.slice p l c, .slice p' l' c']) undef) w := by
  refine wpAny_ready (fuel := 2) (rs := [3]) (by kernel_rfl) (by simp) ?_
  refine AllReady.cons rfl (fun K hK => ?_) (AllReady.nil)
  · unfold fr12 ops12
    go_simp
    refine (C.ia w hl).mono ?_
    rintro e w2 ⟨b2, rfl, hb, ha, l2⟩
    go_simp
    refine hK _ _ ?_
    exact s12_11111100 C hQ (hl.trans l2) (hx.low l2) ux (hy.low l2) uy hn (hi.low l2) ha
theorem s12_11110100 (C : C12 U p p' l c l' c' sx tg ag) (hQ : Fin12 Q U p p' l c l' c' sx tg ag) (hl : Low U w) (hy : BoxAt w x1 [.map none]) (uy : U.heap.size ≤ x1) (hi : InsAt w b1 n1 tg) (ha : InsAt w b2 n2 ag) : wpAny Try.prog .any ops12 Q 3 #[true, true, true, true, false, true, false, false] (fr12 p p' l c l' c' sx undef (.pointer (some ⟨x1, 0, none⟩)) (.agg #[.slice p l c, .slice p' l' c']) (.map (some b1)) (.agg #[.slice p l c, .slice p' l' c']) (.map (some b2))) w := by
  refine wpAny_ready (fuel := 2) (rs := [4]) (by kernel_rfl) (by simp) ?_
  refine AllReady.cons rfl (fun K hK => ?_) (AllReady.nil)
  · unfold fr12 ops12
    go_simp
    refine hK _ _ ?_
    exact s12_11111100 C hQ (low_new hl _) (BoxAt.made rfl rfl rfl) hl.size (hy.low (low_new (Low.refl w) _)) uy (fun e => Nat.lt_irrefl _ (e ▸ hy.lt)) (hi.low (low_new (Low.refl w) _)) (ha.low (low_new (Low.refl w) _))
theorem s12_11111000 (C : C12 U p p' l c l' c' sx tg ag) (hQ : Fin12 Q U p p' l c l' c' sx tg ag) (hl : Low U w) (hx : BoxAt w x0 [.map none]) (ux : U.heap.size ≤ x0) (hi : InsAt w b1 n1 tg) (ha : InsAt w b2 n2 ag) : wpAny Try.prog .any ops12 Q 3 #[true, true, true, true, true, false, false, false] (fr12 p p' l c l' c' sx (.pointer (some ⟨x0, 0, none⟩)) undef (.agg #[.slice p l c, .slice p' l' c']) (.map (some b1)) (.agg #[.slice p l c, .slice p' l' c']) (.map (some b2))) w := by
  refine wpAny_ready (fuel := 2) (rs := [5]) (by kernel_rfl) (by simp) ?_
  refine AllReady.cons rfl (fun K hK => ?_) (AllReady.nil)
  · unfold fr12 ops12
    go_simp
    refine hK _ _ ?_
    exact s12_11111100 C hQ (low_new hl _) (hx.low (low_new (Low.refl w) _)) ux (BoxAt.made rfl rfl rfl) hl.size (fun e => Nat.lt_irrefl _ (e ▸ hx.lt)) (hi.low (low_new (Low.refl w) _)) (ha.low (low_new (Low.refl w) _))
theorem s12_10101100 (C : C12 U p p' l c l' c' sx tg ag) (hQ : Fin12 Q U p p' l c l' c' sx tg ag) (hl : Low U w) (hx : BoxAt w x0 [.map none]) (ux : U.heap.size ≤ x0) (hy : BoxAt w x1 [.map none]) (uy : U.heap.size ≤ x1) (hn : x0 ≠ x1) : wpAny Try.prog .any ops12 Q 4 #[true, false, true, false, true, true, false, false] (fr12 p p' l c l' c' sx (.pointer (some ⟨x0, 0, none⟩)) (.pointer (some ⟨x1, 0, none⟩)) (.agg #[.slice p l c, .slice p' l' c']) undef (.agg #[.slice p l c, .slice p' l' c']) undef) w := by
  refine wpAny_ready (fuel := 3) (rs := [1]) (by kernel_rfl) (by simp) ?_
  refine AllReady.cons rfl (fun K hK => ?_) (AllReady.nil)
  · unfold fr12 ops12
    go_simp
    refine (C.it w hl).mono ?_
    rintro e w2 ⟨b1, rfl, hb, hi, l2⟩
    go_simp
    refine hK _ _ ?_
    exact s12_11101100 C hQ (hl.trans l2) (hx.low l2) ux (hy.low l2) uy hn hi
theorem s12_11001100 (C : C12 U p p' l c l' c' sx tg ag) (hQ : Fin12 Q U p p' l c l' c' sx tg ag) (hl : Low U w) (hx : BoxAt w x0 [.map none]) (ux : U.heap.size ≤ x0) (hy : BoxAt w x1 [.map none]) (uy : U.heap.size ≤ x1) (hn : x0 ≠ x1) (hi : InsAt w b1 n1 tg) : wpAny Try.prog .any ops12 Q 4 #[true, true, false, false, true, true, false, false] (fr12 p p' l c l' c' sx (.pointer (some ⟨x0, 0, none⟩)) (.pointer (some ⟨x1, 0, none⟩)) (.agg #[.slice p l c, .slice p' l' c']) (.map (some b1)) undef undef) w := by
  refine wpAny_ready (fuel := 3) (rs := [2]) (by kernel_rfl) (by simp) ?_
  refine AllReady.cons rfl (fun K hK => ?_) (AllReady.nil)
  · have g0 := hl.keep C.c0
    have g1 := hl.keep C.c1
    unfold fr12 ops12
    go_simp
    refine hK _ _ ?_
    exact s12_11101100 C hQ hl hx ux hy uy hn hi
theorem s12_11100100 (C : C12 U p p' l c l' c' sx tg ag) (hQ : Fin12 Q U p p' l c l' c' sx tg ag) (hl : Low U w) (hy : BoxAt w x1 [.map none]) (uy : U.heap.size ≤ x1) (hi : InsAt w b1 n1 tg) : wpAny Try.prog .any ops12 Q 4 #[true, true, true, false, false, true, false, false] (fr12 p p' l c l' c' sx undef (.pointer (some ⟨x1, 0, none⟩)) (.agg #[.slice p l c, .slice p' l' c']) (.map (some b1)) (.agg #[.slice p l c, .slice p' l' c']) undef) w := by
  refine wpAny_ready (fuel := 3) (rs := [3, 4]) (by kernel_rfl) (by simp) ?_
  refine AllReady.cons rfl (fun K hK => ?_) ?_
  · unfold fr12 ops12
    go_simp
    refine (C.ia w hl).mono ?_
    rintro e w2 ⟨b2, rfl, hb, ha, l2⟩
    go_simp
    refine hK _ _ ?_
    exact s12_11110100 C hQ (hl.trans l2) (hy.low l2) uy (hi.low l2) ha
  refine AllReady.cons rfl (fun K hK => ?_) (AllReady.nil)
  · unfold fr12 ops12
    go_simp
    refine hK _ _ ?_
    exact s12_11101100 C hQ (low_new hl _) (BoxAt.made rfl rfl rfl) hl.size (hy.low (low_new (Low.refl w) _)) uy (fun e => Nat.lt_irrefl _ (e ▸ hy.lt)) (hi.low (low_new (Low.refl w) _))
theorem s12_11101000 (C : C12 U p p' l c l' c' sx tg ag) (hQ : Fin12 Q U p p' l c l' c' sx tg ag) (hl : Low U w) (hx : BoxAt w x0 [.map none]) (ux : U.heap.size ≤ x0) (hi : InsAt w b1 n1 tg) : wpAny Try.prog .any ops12 Q 4 #[true, true, true, false, true, false, false, false] (fr12 p p' l c l' c' sx (.pointer (some ⟨x0, 0, none⟩)) undef (.agg #[.slice p l c, .slice p' l' c']) (.map (some b1)) (.agg #[.slice p l c, .slice p' l' c']) undef) w := by
  refine wpAny_ready (fuel := 3) (rs := [3, 5]) (by kernel_rfl) (by simp) ?_
  refine AllReady.cons rfl (fun K hK => ?_) ?_
  · unfold fr12 ops12
    go_simp
    refine (C.ia w hl).mono ?_
    rintro e w2 ⟨b2, rfl, hb, ha, l2⟩
    go_simp
    refine hK _ _ ?_
    exact s12_11111000 C hQ (hl.trans l2) (hx.low l2) ux (hi.low l2) ha
  refine AllReady.cons rfl (fun K hK => ?_) (AllReady.nil)
  · unfold fr12 ops12
    go_simp
    refine hK _ _ ?_
    exact s12_11101100 C hQ (low_new hl _) (hx.low (low_new (Low.refl w) _)) ux (BoxAt.made rfl rfl rfl) hl.size (fun e => Nat.lt_irrefl _ (e ▸ hx.lt)) (hi.low (low_new (Low.refl w) _))
theorem s12_11110000 (C : C12 U p p' l c l' c' sx tg ag) (hQ : Fin12 Q U p p' l c l' c' sx tg ag) (hl : Low U w) (hi : InsAt w b1 n1 tg) (ha : InsAt w b2 n2 ag) : wpAny Try.prog .any ops12 Q 4 #[true, true, true, true, false, false, false, false] (fr12 p p' l c l' c' sx undef undef (.agg #[.slice p l c, .slice p' l' c']) (.map (some b1)) (.agg #[.slice p l c, .slice p' l' c']) (.map (some b2))) w := by
  refine wpAny_ready (fuel := 3) (rs := [4, 5]) (by kernel_rfl) (by simp) ?_
  refine AllReady.cons rfl (fun K hK => ?_) ?_
  · unfold fr12 ops12
    go_simp
    refine hK _ _ ?_
    exact s12_11111000 C hQ (low_new hl _) (BoxAt.made rfl rfl rfl) hl.size (hi.low (low_new (Low.refl w) _)) (ha.low (low_new (Low.refl w) _))
  refine AllReady.cons rfl (fun K hK => ?_) (AllReady.nil)
  · unfold fr12 ops12
    go_simp
    refine hK _ _ ?_
    exact s12_11110100 C hQ (low_new hl _) (BoxAt.made rfl rfl rfl) hl.size (hi.low (low_new (Low.refl w) _)) (ha.low (low_new (Low.refl w) _))
theorem s12_00101100 (C : C12 U p p' l c l' c' sx tg ag) (hQ : Fin12 Q U p p' l c l' c' sx tg ag) (hl : Low U w) (hx : BoxAt w x0 [.map none]) (ux : U.heap.size ≤ x0) (hy : BoxAt w x1 [.map none]) (uy : U.heap.size ≤ x1) (hn : x0 ≠ x1) : wpAny Try.prog .any ops12 Q 5 #[false, false, true, false, true, true, false, false] (fr12 p p' l c l' c' sx (.pointer (some ⟨x0, 0, none⟩)) (.pointer (some ⟨x1, 0, none⟩)) undef undef (.agg #[.slice p l c, .slice p' l' c']) undef) w := by
  refine wpAny_ready (fuel := 4) (rs := [0]) (by kernel_rfl) (by simp) ?_
  refine AllReady.cons rfl (fun K hK => ?_) (AllReady.nil)
  · have g0 := hl.keep C.c0
    have g1 := hl.keep C.c1
    unfold fr12 ops12
    go_simp
    refine hK _ _ ?_
    exact s12_10101100 C hQ hl hx ux hy uy hn
theorem s12_10001100 (C : C12 U p p' l c l' c' sx tg ag) (hQ : Fin12 Q U p p' l c l' c' sx tg ag) (hl : Low U w) (hx : BoxAt w x0 [.map none]) (ux : U.heap.size ≤ x0) (hy : BoxAt w x1 [.map none]) (uy : U.heap.size ≤ x1) (hn : x0 ≠ x1) : wpAny Try.prog .any ops12 Q 5 #[true, false, false, false, true, true, false, false] (fr12 p p' l c l' c' sx (.pointer (some ⟨x0, 0, none⟩)) (.pointer (some ⟨x1, 0, none⟩)) (.agg #[.slice p l c, .slice p' l' c']) undef undef undef) w := by
  refine wpAny_ready (fuel := 4) (rs := [1, 2]) (by kernel_rfl) (by simp) ?_
  refine AllReady.cons rfl (fun K hK => ?_) ?_
  · unfold fr12 ops12
    go_simp
    refine (C.it w hl).mono ?_
    rintro e w2 ⟨b1, rfl, hb, hi, l2⟩
    go_simp
    refine hK _ _ ?_
    exact s12_11001100 C hQ (hl.trans l2) (hx.low l2) ux (hy.low l2) uy hn hi
  refine AllReady.cons rfl (fun K hK => ?_) (AllReady.nil)
  · have g0 := hl.keep C.c0
    have g1 := hl.keep C.c1
    unfold fr12 ops12
    go_simp
    refine hK _ _ ?_
    exact s12_10101100 C hQ hl hx ux hy uy hn
theorem s12_10100100 (C : C12 U p p' l c l' c' sx tg ag) (hQ : Fin12 Q U p p' l c l' c' sx tg ag) (hl : Low U w) (hy : BoxAt w x1 [.map none]) (uy : U.heap.size ≤ x1) : wpAny Try.prog .any ops12 Q 5 #[true, false, true, false, false, true, false, false] (fr12 p p' l c l' c' sx undef (.pointer (some ⟨x1, 0, none⟩)) (.agg #[.slice p l c, .slice p' l' c']) undef (.agg #[.slice p l c, .slice p' l' c']) undef) w := by
  refine wpAny_ready (fuel := 4) (rs := [1, 4]) (by kernel_rfl) (by simp) ?_
  refine AllReady.cons rfl (fun K hK => ?_) ?_
  · unfold fr12 ops12
    go_simp
    refine (C.it w hl).mono ?_
    rintro e w2 ⟨b1, rfl, hb, hi, l2⟩
    go_simp
    refine hK _ _ ?_
    exact s12_11100100 C hQ (hl.trans l2) (hy.low l2) uy hi
  refine AllReady.cons rfl (fun K hK => ?_) (AllReady.nil)
  · unfold fr12 ops12
    go_simp
    refine hK _ _ ?_
    exact s12_10101100 C hQ (low_new hl _) (BoxAt.made rfl rfl rfl) hl.size (hy.low (low_new (Low.refl w) _)) uy (fun e => Nat.lt_irrefl _ (e ▸ hy.lt))
theorem s12_10101000 (C : C12 U p p' l c l' c' sx tg ag) (hQ : Fin12 Q U p p' l c l' c' sx tg ag) (hl : Low U w) (hx : BoxAt w x0 [.map none]) (ux : U.heap.size ≤ x0) : wpAny Try.prog .any ops12 Q 5 #[true, false, true, false, true, false, false, false] (fr12 p p' l c l' c' sx (.pointer (some ⟨x0, 0, none⟩)) undef (.agg #[.slice p l c, .slice p' l' c']) undef (.agg #[.slice p l c, .slice p' l' c']) undef) w := by
  refine wpAny_ready (fuel := 4) (rs := [1, 5]) (by kernel_rfl) (by simp) ?_
  refine AllReady.cons rfl (fun K hK => ?_) ?_
  · unfold fr12 ops12
    go_simp
    refine (C.it w hl).mono ?_
    rintro e w2 ⟨b1, rfl, hb, hi, l2⟩
    go_simp
    refine hK _ _ ?_
    exact s12_11101000 C hQ (hl.trans l2) (hx.low l2) ux hi
  refine AllReady.cons rfl (fun K hK => ?_) (AllReady.nil)
  · unfold fr12 ops12
    go_simp
    refine hK _ _ ?_
    exact s12_10101100 C hQ (low_new hl _) (hx.low (low_new (Low.refl w) _)) ux (BoxAt.made rfl rfl rfl) hl.size (fun e => Nat.lt_irrefl _ (e ▸ hx.lt))
theorem s12_11000100 (C : C12 U p p' l c l' c' sx tg ag) (hQ : Fin12 Q U p p' l c l' c' sx tg ag) (hl : Low U w) (hy : BoxAt w x1 [.map none]) (uy : U.heap.size ≤ x1) (hi : InsAt w b1 n1 tg) : wpAny Try.prog .any ops12 Q 5 #[true, true, false, false, false, true, false, false] (fr12 p p' l c l' c' sx undef (.pointer (some ⟨x1, 0, none⟩)) (.agg #[.slice p l c, .slice p' l' c']) (.map (some b1)) undef undef) w := by
  refine wpAny_ready (fuel := 4) (rs := [2, 4]) (by kernel_rfl) (by simp) ?_
  refine AllReady.cons rfl (fun K hK => ?_) ?_
  · have g0 := hl.keep C.c0
    have g1 := hl.keep C.c1
    unfold fr12 ops12
    go_simp
    refine hK _ _ ?_
    exact s12_11100100 C hQ hl hy uy hi
  refine AllReady.cons rfl (fun K hK => ?_) (AllReady.nil)
  · unfold fr12 ops12
    go_simp
    refine hK _ _ ?_
    exact s12_11001100 C hQ (low_new hl _) (BoxAt.made rfl rfl rfl) hl.size (hy.low (low_new (Low.refl w) _)) uy (fun e => Nat.lt_irrefl _ (e ▸ hy.lt)) (hi.low (low_new (Low.refl w) _))
theorem s12_11001000 (C : C12 U p p' l c l' c' sx tg ag) (hQ : Fin12 Q U p p' l c l' c' sx tg ag) (hl : Low U w) (hx : BoxAt w x0 [.map none]) (ux : U.heap.size ≤ x0) (hi : InsAt w b1 n1 tg) : wpAny Try.prog .any ops12 Q 5 #[true, true, false, false, true, false, false, false] (fr12 p p' l c l' c' sx (.pointer (some ⟨x0, 0, none⟩)) undef (.agg #[.slice p l c, .slice p' l' c']) (.map (some b1)) undef undef) w := by
  refine wpAny_ready (fuel := 4) (rs := [2, 5]) (by kernel_rfl) (by simp) ?_
  refine AllReady.cons rfl (fun K hK => ?_) ?_
  · have g0 := hl.keep C.c0
    have g1 := hl.keep C.c1
    unfold fr12 ops12
    go_simp
    refine hK _ _ ?_
    exact s12_11101000 C hQ hl hx ux hi
  refine AllReady.cons rfl (fun K hK => ?_) (AllReady.nil)
  · unfold fr12 ops12
    go_simp
    refine hK _ _ ?_
    exact s12_11001100 C hQ (low_new hl _) (hx.low (low_new (Low.refl w) _)) ux (BoxAt.made rfl rfl rfl) hl.size (fun e => Nat.lt_irrefl _ (e ▸ hx.lt)) (hi.low (low_new (Low.refl w) _))
theorem s12_11100000 (C : C12 U p p' l c l' c' sx tg ag) (hQ : Fin12 Q U p p' l c l' c' sx tg ag) (hl : Low U w) (hi : InsAt w b1 n1 tg) : wpAny Try.prog .any ops12 Q 5 #[true, true, true, false, false, false, false, false] (fr12 p p' l c l' c' sx undef undef (.agg #[.slice p l c, .slice p' l' c']) (.map (some b1)) (.agg #[.slice p l c, .slice p' l' c']) undef) w := by
  refine wpAny_ready (fuel := 4) (rs := [3, 4, 5]) (by kernel_rfl) (by simp) ?_
  refine AllReady.cons rfl (fun K hK => ?_) ?_
  · unfold fr12 ops12
    go_simp
    refine (C.ia w hl).mono ?_
    rintro e w2 ⟨b2, rfl, hb, ha, l2⟩
    go_simp
    refine hK _ _ ?_
    exact s12_11110000 C hQ (hl.trans l2) (hi.low l2) ha
  refine AllReady.cons rfl (fun K hK => ?_) ?_
  · unfold fr12 ops12
    go_simp
    refine hK _ _ ?_
    exact s12_11101000 C hQ (low_new hl _) (BoxAt.made rfl rfl rfl) hl.size (hi.low (low_new (Low.refl w) _))
  refine AllReady.cons rfl (fun K hK => ?_) (AllReady.nil)
  · unfold fr12 ops12
    go_simp
    refine hK _ _ ?_
    exact s12_11100100 C hQ (low_new hl _) (BoxAt.made rfl rfl rfl) hl.size (hi.low (low_new (Low.refl w) _))
theorem s12_00001100 (C : C12 U p p' l c l' c' sx tg ag) (hQ : Fin12 Q U p p' l c l' c' sx tg ag) (hl : Low U w) (hx : BoxAt w x0 [.map none]) (ux : U.heap.size ≤ x0) (hy : BoxAt w x1 [.map none]) (uy : U.heap.size ≤ x1) (hn : x0 ≠ x1) : wpAny Try.prog .any ops12 Q 6 #[false, false, false, false, true, true, false, false] (fr12 p p' l c l' c' sx (.pointer (some ⟨x0, 0, none⟩)) (.pointer (some ⟨x1, 0, none⟩)) undef undef undef undef) w := by
  refine wpAny_ready (fuel := 5) (rs := [0, 2]) (by kernel_rfl) (by simp) ?_
  refine AllReady.cons rfl (fun K hK => ?_) ?_
  · have g0 := hl.keep C.c0
    have g1 := hl.keep C.c1
    unfold fr12 ops12
    go_simp
    refine hK _ _ ?_
    exact s12_10001100 C hQ hl hx ux hy uy hn
  refine AllReady.cons rfl (fun K hK => ?_) (AllReady.nil)
  · have g0 := hl.keep C.c0
    have g1 := hl.keep C.c1
    unfold fr12 ops12
    go_simp
    refine hK _ _ ?_
    exact s12_00101100 C hQ hl hx ux hy uy hn
theorem s12_00100100 (C : C12 U p p' l c l' c' sx tg ag) (hQ : Fin12 Q U p p' l c l' c' sx tg ag) (hl : Low U w) (hy : BoxAt w x1 [.map none]) (uy : U.heap.size ≤ x1) : wpAny Try.prog .any ops12 Q 6 #[false, false, true, false, false, true, false, false] (fr12 p p' l c l' c' sx undef (.pointer (some ⟨x1, 0, none⟩)) undef undef (.agg #[.slice p l c, .slice p' l' c']) undef) w := by
  refine wpAny_ready (fuel := 5) (rs := [0, 4]) (by kernel_rfl) (by simp) ?_
  refine AllReady.cons rfl (fun K hK => ?_) ?_
  · have g0 := hl.keep C.c0
    have g1 := hl.keep C.c1
    unfold fr12 ops12
    go_simp
    refine hK _ _ ?_
    exact s12_10100100 C hQ hl hy uy
  refine AllReady.cons rfl (fun K hK => ?_) (AllReady.nil)
  · unfold fr12 ops12
    go_simp
    refine hK _ _ ?_
    exact s12_00101100 C hQ (low_new hl _) (BoxAt.made rfl rfl rfl) hl.size (hy.low (low_new (Low.refl w) _)) uy (fun e => Nat.lt_irrefl _ (e ▸ hy.lt))
theorem s12_00101000 (C : C12 U p p' l c l' c' sx tg ag) (hQ : Fin12 Q U p p' l c l' c' sx tg ag) (hl : Low U w) (hx : BoxAt w x0 [.map none]) (ux : U.heap.size ≤ x0) : wpAny Try.prog .any ops12 Q 6 #[false, false, true, false, true, false, false, false] (fr12 p p' l c l' c' sx (.pointer (some ⟨x0, 0, none⟩)) undef undef undef (.agg #[.slice p l c, .slice p' l' c']) undef) w := by
  refine wpAny_ready (fuel := 5) (rs := [0, 5]) (by kernel_rfl) (by simp) ?_
  refine AllReady.cons rfl (fun K hK => ?_) ?_
  · have g0 := hl.keep C.c0
    have g1 := hl.keep C.c1
    unfold fr12 ops12
    go_simp
    refine hK _ _ ?_
    exact s12_10101000 C hQ hl hx ux
  refine AllReady.cons rfl (fun K hK => ?_) (AllReady.nil)
  · unfold fr12 ops12
    go_simp
    refine hK _ _ ?_
    exact s12_00101100 C hQ (low_new hl _) (hx.low (low_new (Low.refl w) _)) ux (BoxAt.made rfl rfl rfl) hl.size (fun e => Nat.lt_irrefl _ (e ▸ hx.lt))
theorem s12_10000100 (C : C12 U p p' l c l' c' sx tg ag) (hQ : Fin12 Q U p p' l c l' c' sx tg ag) (hl : Low U w) (hy : BoxAt w x1 [.map none]) (uy : U.heap.size ≤ x1) : wpAny Try.prog .any ops12 Q 6 #[true, false, false, false, false, true, false, false] (fr12 p p' l c l' c' sx undef (.pointer (some ⟨x1, 0, none⟩)) (.agg #[.slice p l c, .slice p' l' c']) undef undef undef) w := by
  refine wpAny_ready (fuel := 5) (rs := [1, 2, 4]) (by kernel_rfl) (by simp) ?_
  refine AllReady.cons rfl (fun K hK => ?_) ?_
  · unfold fr12 ops12
    go_simp
    refine (C.it w hl).mono ?_
    rintro e w2 ⟨b1, rfl, hb, hi, l2⟩
    go_simp
    refine hK _ _ ?_
    exact s12_11000100 C hQ (hl.trans l2) (hy.low l2) uy hi
  refine AllReady.cons rfl (fun K hK => ?_) ?_
  · have g0 := hl.keep C.c0
    have g1 := hl.keep C.c1
    unfold fr12 ops12
    go_simp
    refine hK _ _ ?_
    exact s12_10100100 C hQ hl hy uy
  refine AllReady.cons rfl (fun K hK => ?_) (AllReady.nil)
  · unfold fr12 ops12
    go_simp
    refine hK _ _ ?_
    exact s12_10001100 C hQ (low_new hl _) (BoxAt.made rfl rfl rfl) hl.size (hy.low (low_new (Low.refl w) _)) uy (fun e => Nat.lt_irrefl _ (e ▸ hy.lt))
theorem s12_10001000 (C : C12 U p p' l c l' c' sx tg ag) (hQ : Fin12 Q U p p' l c l' c' sx tg ag) (hl : Low U w) (hx : BoxAt w x0 [.map none]) (ux : U.heap.size ≤ x0) : wpAny Try.prog .any ops12 Q 6 #[true, false, false, false, true, false, false, false] (fr12 p p' l c l' c' sx (.pointer (some ⟨x0, 0, none⟩)) undef (.agg #[.slice p l c, .slice p' l' c']) undef undef undef) w := by
  refine wpAny_ready (fuel := 5) (rs := [1, 2, 5]) (by kernel_rfl) (by simp) ?_
  refine AllReady.cons rfl (fun K hK => ?_) ?_
  · unfold fr12 ops12
    go_simp
    refine (C.it w hl).mono ?_
    rintro e w2 ⟨b1, rfl, hb, hi, l2⟩
    go_simp
    refine hK _ _ ?_
    exact s12_11001000 C hQ (hl.trans l2) (hx.low l2) ux hi
  refine AllReady.cons rfl (fun K hK => ?_) ?_
  · have g0 := hl.keep C.c0
    have g1 := hl.keep C.c1
    unfold fr12 ops12
    go_simp
    refine hK _ _ ?_
    exact s12_10101000 C hQ hl hx ux
  refine AllReady.cons rfl (fun K hK => ?_) (AllReady.nil)
  · unfold fr12 ops12
    go_simp
    refine hK _ _ ?_
    exact s12_10001100 C hQ (low_new hl _) (hx.low (low_new (Low.refl w) _)) ux (BoxAt.made rfl rfl rfl) hl.size (fun e => Nat.lt_irrefl _ (e ▸ hx.lt))
theorem s12_10100000 (C : C12 U p p' l c l' c' sx tg ag) (hQ : Fin12 Q U p p' l c l' c' sx tg ag) (hl : Low U w) : wpAny Try.prog .any ops12 Q 6 #[true, false, true, false, false, false, false, false] (fr12 p p' l c l' c' sx undef undef (.agg #[.slice p l c, .slice p' l' c']) undef (.agg #[.slice p l c, .slice p' l' c']) undef) w := by
  refine wpAny_ready (fuel := 5) (rs := [1, 4, 5]) (by kernel_rfl) (by simp) ?_
  refine AllReady.cons rfl (fun K hK => ?_) ?_
  · unfold fr12 ops12
    go_simp
    refine (C.it w hl).mono ?_
    rintro e w2 ⟨b1, rfl, hb, hi, l2⟩
    go_simp
    refine hK _ _ ?_
    exact s12_11100000 C hQ (hl.trans l2) hi
  refine AllReady.cons rfl (fun K hK => ?_) ?_
  · unfold fr12 ops12
    go_simp
    refine hK _ _ ?_
    exact s12_10101000 C hQ (low_new hl _) (BoxAt.made rfl rfl rfl) hl.size
  refine AllReady.cons rfl (fun K hK => ?_) (AllReady.nil)
  · unfold fr12 ops12
    go_simp
    refine hK _ _ ?_
    exact s12_10100100 C hQ (low_new hl _) (BoxAt.made rfl rfl rfl) hl.size
theorem s12_11000000 (C : C12 U p p' l c l' c' sx tg ag) (hQ : Fin12 Q U p p' l c l' c' sx tg ag) (hl : Low U w) (hi : InsAt w b1 n1 tg) : wpAny Try.prog .any ops12 Q 6 #[true, true, false, false, false, false, false, false] (fr12 p p' l c l' c' sx undef undef (.agg #[.slice p l c, .slice p' l' c']) (.map (some b1)) undef undef) w := by
  refine wpAny_ready (fuel := 5) (rs := [2, 4, 5]) (by kernel_rfl) (by simp) ?_
  refine AllReady.cons rfl (fun K hK => ?_) ?_
  · have g0 := hl.keep C.c0
    have g1 := hl.keep C.c1
    unfold fr12 ops12
    go_simp
    refine hK _ _ ?_
    exact s12_11100000 C hQ hl hi
  refine AllReady.cons rfl (fun K hK => ?_) ?_
  · unfold fr12 ops12
    go_simp
    refine hK _ _ ?_
    exact s12_11001000 C hQ (low_new hl _) (BoxAt.made rfl rfl rfl) hl.size (hi.low (low_new (Low.refl w) _))
  refine AllReady.cons rfl (fun K hK => ?_) (AllReady.nil)
  · unfold fr12 ops12
    go_simp
    refine hK _ _ ?_
    exact s12_11000100 C hQ (low_new hl _) (BoxAt.made rfl rfl rfl) hl.size (hi.low (low_new (Low.refl w) _))
theorem s12_00000100 (C : C12 U p p' l c l' c' sx tg ag) (hQ : Fin12 Q U p p' l c l' c' sx tg ag) (hl : Low U w) (hy : BoxAt w x1 [.map none]) (uy : U.heap.size ≤ x1) : wpAny Try.prog .any ops12 Q 7 #[false, false, false, false, false, true, false, false] (fr12 p p' l c l' c' sx undef (.pointer (some ⟨x1, 0, none⟩)) undef undef undef undef) w := by
  refine wpAny_ready (fuel := 6) (rs := [0, 2, 4]) (by kernel_rfl) (by simp) ?_
  refine AllReady.cons rfl (fun K hK => ?_) ?_
  · have g0 := hl.keep C.c0
    have g1 := hl.keep C.c1
    unfold fr12 ops12
    go_simp
    refine hK _ _ ?_
    exact s12_10000100 C hQ hl hy uy
  refine AllReady.cons rfl (fun K hK => ?_) ?_
  · have g0 := hl.keep C.c0
    have g1 := hl.keep C.c1
    unfold fr12 ops12
    go_simp
    refine hK _ _ ?_
    exact s12_00100100 C hQ hl hy uy
  refine AllReady.cons rfl (fun K hK => ?_) (AllReady.nil)
  · unfold fr12 ops12
    go_simp
    refine hK _ _ ?_
    exact s12_00001100 C hQ (low_new hl _) (BoxAt.made rfl rfl rfl) hl.size (hy.low (low_new (Low.refl w) _)) uy (fun e => Nat.lt_irrefl _ (e ▸ hy.lt))
theorem s12_00001000 (C : C12 U p p' l c l' c' sx tg ag) (hQ : Fin12 Q U p p' l c l' c' sx tg ag) (hl : Low U w) (hx : BoxAt w x0 [.map none]) (ux : U.heap.size ≤ x0) : wpAny Try.prog .any ops12 Q 7 #[false, false, false, false, true, false, false, false] (fr12 p p' l c l' c' sx (.pointer (some ⟨x0, 0, none⟩)) undef undef undef undef undef) w := by
  refine wpAny_ready (fuel := 6) (rs := [0, 2, 5]) (by kernel_rfl) (by simp) ?_
  refine AllReady.cons rfl (fun K hK => ?_) ?_
  · have g0 := hl.keep C.c0
    have g1 := hl.keep C.c1
    unfold fr12 ops12
    go_simp
    refine hK _ _ ?_
    exact s12_10001000 C hQ hl hx ux
  refine AllReady.cons rfl (fun K hK => ?_) ?_
  · have g0 := hl.keep C.c0
    have g1 := hl.keep C.c1
    unfold fr12 ops12
    go_simp
    refine hK _ _ ?_
    exact s12_00101000 C hQ hl hx ux
  refine AllReady.cons rfl (fun K hK => ?_) (AllReady.nil)
  · unfold fr12 ops12
    go_simp
    refine hK _ _ ?_
    exact s12_00001100 C hQ (low_new hl _) (hx.low (low_new (Low.refl w) _)) ux (BoxAt.made rfl rfl rfl) hl.size (fun e => Nat.lt_irrefl _ (e ▸ hx.lt))
theorem s12_00100000 (C : C12 U p p' l c l' c' sx tg ag) (hQ : Fin12 Q U p p' l c l' c' sx tg ag) (hl : Low U w) : wpAny Try.prog .any ops12 Q 7 #[false, false, true, false, false, false, false, false] (fr12 p p' l c l' c' sx undef undef undef undef (.agg #[.slice p l c, .slice p' l' c']) undef) w := by
  refine wpAny_ready (fuel := 6) (rs := [0, 4, 5]) (by kernel_rfl) (by simp) ?_
  refine AllReady.cons rfl (fun K hK => ?_) ?_
  · have g0 := hl.keep C.c0
    have g1 := hl.keep C.c1
    unfold fr12 ops12
    go_simp
    refine hK _ _ ?_
    exact s12_10100000 C hQ hl
  refine AllReady.cons rfl (fun K hK => ?_) ?_
  · unfold fr12 ops12
    go_simp
    refine hK _ _ ?_
    exact s12_00101000 C hQ (low_new hl _) (BoxAt.made rfl rfl rfl) hl.size
  refine AllReady.cons rfl (fun K hK => ?_) (AllReady.nil)
  · unfold fr12 ops12
    go_simp
    refine hK _ _ ?_
    exact s12_00100100 C hQ (low_new hl _) (BoxAt.made rfl rfl rfl) hl.size
theorem s12_10000000 (C : C12 U p p' l c l' c' sx tg ag) (hQ : Fin12 Q U p p' l c l' c' sx tg ag) (hl : Low U w) : wpAny Try.prog .any ops12 Q 7 #[true, false, false, false, false, false, false, false] (fr12 p p' l c l' c' sx undef undef (.agg #[.slice p l c, .slice p' l' c']) undef undef undef) w := by
  refine wpAny_ready (fuel := 6) (rs := [1, 2, 4, 5]) (by kernel_rfl) (by simp) ?_
  refine AllReady.cons rfl (fun K hK => ?_) ?_
  · unfold fr12 ops12
    go_simp
    refine (C.it w hl).mono ?_
    rintro e w2 ⟨b1, rfl, hb, hi, l2⟩
    go_simp
    refine hK _ _ ?_
    exact s12_11000000 C hQ (hl.trans l2) hi
  refine AllReady.cons rfl (fun K hK => ?_) ?_
  · have g0 := hl.keep C.c0
    have g1 := hl.keep C.c1
    unfold fr12 ops12
    go_simp
    refine hK _ _ ?_
    exact s12_10100000 C hQ hl
  refine AllReady.cons rfl (fun K hK => ?_) ?_
  · unfold fr12 ops12
    go_simp
    refine hK _ _ ?_
    exact s12_10001000 C hQ (low_new hl _) (BoxAt.made rfl rfl rfl) hl.size
  refine AllReady.cons rfl (fun K hK => ?_) (AllReady.nil)
  · unfold fr12 ops12
    go_simp
    refine hK _ _ ?_
    exact s12_10000100 C hQ (low_new hl _) (BoxAt.made rfl rfl rfl) hl.size
theorem s12_00000000 (C : C12 U p p' l c l' c' sx tg ag) (hQ : Fin12 Q U p p' l c l' c' sx tg ag) (hl : Low U w) : wpAny Try.prog .any ops12 Q 8 #[false, false, false, false, false, false, false, false] (fr12 p p' l c l' c' sx undef undef undef undef undef undef) w := by
  refine wpAny_ready (fuel := 7) (rs := [0, 2, 4, 5]) (by kernel_rfl) (by simp) ?_
  refine AllReady.cons rfl (fun K hK => ?_) ?_
  · have g0 := hl.keep C.c0
    have g1 := hl.keep C.c1
    unfold fr12 ops12
    go_simp
    refine hK _ _ ?_
    exact s12_10000000 C hQ hl
  refine AllReady.cons rfl (fun K hK => ?_) ?_
  · have g0 := hl.keep C.c0
    have g1 := hl.keep C.c1
    unfold fr12 ops12
    go_simp
    refine hK _ _ ?_
    exact s12_00100000 C hQ hl
  refine AllReady.cons rfl (fun K hK => ?_) ?_
  · unfold fr12 ops12
    go_simp
    refine hK _ _ ?_
    exact s12_00001000 C hQ (low_new hl _) (BoxAt.made rfl rfl rfl) hl.size
  refine AllReady.cons rfl (fun K hK => ?_) (AllReady.nil)
  · unfold fr12 ops12
    go_simp
    refine hK _ _ ?_
    exact s12_00000100 C hQ (low_new hl _) (BoxAt.made rfl rfl rfl) hl.size
end
end Go.Proofs.Ytijjbfdbhfjfmaa
