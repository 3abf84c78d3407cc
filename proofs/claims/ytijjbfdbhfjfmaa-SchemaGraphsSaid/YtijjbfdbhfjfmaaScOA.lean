/- Rows of attributes, a byte, rows of bytes among a law's arguments. No condition. -/
import Derived.Test.YtijjbfdbhfjfmaaScO
namespace Go.Proofs.Ytijjbfdbhfjfmaa
open Go.RowKit Go.ChangeShapes Go.WideShapes Go.Deep
set_option linter.unusedVariables false
variable {H : Type} {enc : TypeId × Value → H} {w : World} {spare : Nat → Bool} {held : Bool} {base : Nat}
set_option maxRecDepth 100000 in
theorem open_as {r : Reach} {v : Value} {d : DataW H} {p : List MemPlace} (hv : Value.okWide Try.prog w r base 31 v) (h : DataW.Trod enc Try.prog w 0 spare held 31 v d p) : ∃ (n : Nat) (l : List At), RAs (fun _ => True) w n l v := by
  obtain ⟨ao, n, c, rfl⟩ := okWide_slice Try.underlying31 hv
  obtain ⟨fuel, hf⟩ := h
  obtain ⟨l, it, he, hr⟩ := trod_as hf
  have : Value.slice ao n c = it := (List.cons.inj he).1
  rw [this]
  exact ⟨fuel, l, hr⟩
/-! ### Bytes -/
theorem cof8 : Try.prog.cellsOf 5 = 1 := by kernel_rfl
theorem cofL8 : Try.prog.cellsOf 50 = 1 := by kernel_rfl
theorem bounds_y {n : Int} (h : (Lit.int IntKind.u8 n).wf = true) : 0 ≤ n ∧ n ≤ 255 := by
  have h1 : IntKind.u8.min = 0 := rfl
  have h2 : IntKind.u8.max = 255 := rfl
  simp [Lit.wf] at h
  omega
def encB8 (x : Fin 256) (_ : Unit) : List Value := [.int .u8 (x.val : Int)]
def BsAt (w : World) (l : List (Fin 256)) (v : Value) : Prop := RowB w 1 encB8 (fun _ _ _ => True) l v
def encYs (_ : List (Fin 256)) (e : Value) : List Value := [e]
def YsAt (w : World) (l : List (List (Fin 256))) (v : Value) : Prop := RowB w 1 encYs (fun w x e => BsAt w x e) l v
theorem BsAt.low {w w' : World} {l : List (Fin 256)} {v : Value} (h : BsAt w l v) (hl : Low w w') : BsAt w' l v := RowB.low h hl fun _ _ _ => trivial
theorem YsAt.low {w w' : World} {l : List (List (Fin 256))} {v : Value} (h : YsAt w l v) (hl : Low w w') : YsAt w' l v := RowB.low h hl fun _ _ k => k.low hl
theorem BsAt.at {w : World} {l : List (Fin 256)} {p : Option Addr} {m c : Nat} (h : BsAt w l (.slice p m c)) {j : Nat} (hj : j < l.length) : ∃ b o, p = some ⟨b, o, none⟩ ∧ w.cell? ⟨b, o + j, none⟩ = some (.int .u8 (l[j].val : Int)) := by
  obtain ⟨b, o, e, rfl, h1, h2⟩ := RowB.at h hj
  refine ⟨b, o, rfl, ?_⟩
  have := h1 0 _ rfl
  rwa [Nat.mul_one, Nat.add_zero] at this
theorem YsAt.at {w : World} {l : List (List (Fin 256))} {p : Option Addr} {m c : Nat} (h : YsAt w l (.slice p m c)) {j : Nat} (hj : j < l.length) : ∃ b o q d, p = some ⟨b, o, none⟩ ∧ w.cell? ⟨b, o + j, none⟩ = some (.slice q l[j].length d) ∧ BsAt w l[j] (.slice q l[j].length d) ∧ l[j].length ≤ d ∧ d ≤ 9223372036854775807 := by
  obtain ⟨b, o, e, rfl, h1, h2⟩ := RowB.at h hj
  obtain ⟨q, d, rfl, z1, z2⟩ := RowB.sl h2
  have := h1 0 _ rfl
  rw [Nat.mul_one, Nat.add_zero] at this
  exact ⟨b, o, q, d, rfl, this, h2, z1, z2⟩
instance : Inhabited (Fin 256) := ⟨0⟩
set_option maxRecDepth 100000 in
theorem trod_bs {fuel : Nat} {cs : List Value} {x : DataW H × List MemPlace} (h : DataW.trod enc Try.prog w base spare held fuel 50 cs = some x) : ∃ (l : List (Fin 256)) (it : Value), cs = [it] ∧ BsAt w l it :=
  rowB_of Try.underlying50 cof8 encB8 (fun _ _ _ => True) (fun _ _ => rfl) (fun _ _ => ⟨_, rfl⟩) (fun m hm cs x hx => by
    obtain ⟨k, rfl, -, hw⟩ := DataW.trod_int Try.underlying5 hx
    obtain ⟨h1, h2⟩ := bounds_y hw
    exact ⟨⟨k.toNat, by omega⟩, (), by unfold encB8; simp; omega, trivial⟩) h
set_option maxRecDepth 100000 in
theorem open_yy {r : Reach} {v : Value} {d : DataW H} {p : List MemPlace} (hv : Value.okWide Try.prog w r base 49 v) (h : DataW.Trod enc Try.prog w 0 spare held 49 v d p) : ∃ l : List (List (Fin 256)), YsAt w l v := by
  obtain ⟨ao, n, c, rfl⟩ := okWide_slice Try.underlying49 hv
  obtain ⟨fuel, hf⟩ := h
  obtain ⟨l, it, he, hr⟩ := rowB_of (α := List (Fin 256)) (β := Value) Try.underlying49 cofL8 encYs (fun w x e => BsAt w x e) (fun _ _ => rfl) (fun _ _ => ⟨_, rfl⟩) (fun m hm cs x hx => by
    obtain ⟨l, it, h1, h2⟩ := trod_bs hx
    exact ⟨l, it, h1, h2⟩) hf
  have : Value.slice ao n c = it := (List.cons.inj he).1
  rw [this]
  exact ⟨l, hr⟩
end Go.Proofs.Ytijjbfdbhfjfmaa
