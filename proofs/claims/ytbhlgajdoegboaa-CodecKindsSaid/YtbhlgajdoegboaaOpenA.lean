/- Arrays of four bytes among a law's arguments. No condition. -/
import Derived.Test.YtbhlgajdoegboaaDecQ
namespace Go.Proofs.Ytbhlgajdoegboaa
open Go.RowKit Go.ChangeShapes Go.WideShapes Go.Deep
variable {H : Type} {enc : TypeId × Value → H} {w : World} {spare : Nat → Bool} {held : Bool}
theorem cof_a4 : Try.prog.cellsOf 47 = 4 := by kernel_rfl
theorem byte_trod {base fuel : Nat} {c : Value} {x : DataW H × List MemPlace} (h : DataW.trod enc Try.prog w base spare held fuel 5 [c] = some x) : ∃ q : UInt8, c = .int .u8 q.toNat := by
  obtain ⟨s, hs, -, hw⟩ := DataW.trod_int Try.underlying5 h
  obtain ⟨q, hq⟩ := byte_of hw
  simp only [List.cons.injEq, and_true] at hs
  exact ⟨q, by rw [hs, hq]⟩
set_option maxRecDepth 100000 in
theorem open_arr4 {r : Reach} {base : Nat} {v : Value} {d : DataW H} {p : List MemPlace} (hv : Value.okWide Try.prog w r base 47 v) (h : DataW.Trod enc Try.prog w 0 spare held 47 v d p) : ∃ n0 n1 n2 n3 : UInt8, v = .agg #[.int .u8 n0.toNat, .int .u8 n1.toNat, .int .u8 n2.toNat, .int .u8 n3.toNat] := by
  have hv2 := hv
  simp only [Value.okWide, Try.underlying47] at hv2
  obtain ⟨cs, rfl, hsz, -⟩ := hv2
  rw [cof_a4] at hsz
  obtain ⟨c0, c1, c2, c3, rfl⟩ : ∃ c0 c1 c2 c3, cs = #[c0, c1, c2, c3] := by
    obtain ⟨l⟩ := cs
    match l, hsz with
    | [a, b, c, d], _ => exact ⟨a, b, c, d, rfl⟩
  obtain ⟨fuel, hf⟩ := h
  obtain ⟨y0, y1, y2, y3, n, -, h0, h1, h2, h3⟩ := trod_array4 Try.underlying47 cof_u8 hf
  obtain ⟨n0, rfl⟩ := byte_trod h0
  obtain ⟨n1, rfl⟩ := byte_trod h1
  obtain ⟨n2, rfl⟩ := byte_trod h2
  obtain ⟨n3, rfl⟩ := byte_trod h3
  exact ⟨n0, n1, n2, n3, rfl⟩
end Go.Proofs.Ytbhlgajdoegboaa
