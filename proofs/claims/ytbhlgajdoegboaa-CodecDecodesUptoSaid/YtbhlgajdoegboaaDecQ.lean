/- Both Decodes answer the same. Bytes among a law's arguments. No condition. -/
import Derived.Test.YtbhlgajdoegboaaGetD
import Derived.Test.YtbhlgajdoegboaaRdW
import Derived.Laws.IdiomArrays
namespace Go.Proofs.Ytbhlgajdoegboaa
open Go.RowKit
open Classical in
/-- What bytes are. -/
noncomputable def decV (l : List UInt8) : V × Int := if h : ∃ c, Must c ∧ l = lay c then (Classical.choose h, 0) else (V0, 10)
theorem decP_to {l : List UInt8} {w : World} {e : Ending} {w' : World} (h : DecP l w e w') : CanPost (decV l).1 (decV l).2 w e w' := by
  obtain ⟨hl, ⟨x, ai, ci, an, cn, ⟨h1, h2, h3⟩, he, hr⟩ | ⟨h1, he⟩⟩ := h
  · have hex : ∃ c, Must c ∧ l = lay c := ⟨x, h1, h2⟩
    have hc := Classical.choose_spec hex
    have hx : x = Classical.choose hex := h3 _ hc.1 hc.2
    unfold decV
    rw [dif_pos hex, ← hx]
    exact ⟨ai, ci, an, cn, he, hr, hl⟩
  · unfold decV
    rw [dif_neg h1]
    exact ⟨none, 0, none, 0, he, rep_flat _ _ _ ⟨Nat.zero_le _, Nat.zero_le _, Nat.zero_le _⟩, hl⟩
theorem dec_q (l : List UInt8) (hlen : l.length ≤ 65536) (n : Nat) (hn : l.length = n) (w : World) (ao : Option Addr) (cap : Nat) (h : BytesAt w.heap.size w l ao cap) : Calls Try.prog 14 #[.slice ao n cap] w (CanPost (decV l).1 (decV l).2 w) :=
  (dec_c l hlen n hn w ao cap h).mono fun _ _ => decP_to
theorem rdec_q (l : List UInt8) (hlen : l.length ≤ 65536) (n : Nat) (hn : l.length = n) (w : World) (ao : Option Addr) (cap : Nat) (h : BytesAt w.heap.size w l ao cap) : Calls Try.prog 15 #[.slice ao n cap] w (CanPost (decV l).1 (decV l).2 w) :=
  (rdec_c l hlen n hn w ao cap h).mono fun _ _ => decP_to
theorem b8_any (W : World) (c0 c1 c2 c3 c4 c5 c6 c7 : Value) (nb : Nat) (hnb : W.heap.size = nb) : B8 (W.alloc (.cells #[c0, c1, c2, c3, c4, c5, c6, c7] 29)) nb c0 c1 c2 c3 c4 c5 c6 c7 := by
  subst hnb
  obtain ⟨h1, h2⟩ := kept_new (rb := W.heap.size + 1) (KeptBut.refl (W.alloc (.cells #[c0, c1, c2, c3, c4, c5, c6, c7] 29)) _) (by omega)
  exact ⟨h1, by simp, h2⟩
def encB (c : UInt8) : List Value := [byV c]
theorem flat_encB (l : List UInt8) : l.flatMap encB = l.map byV := by
  induction l with
  | nil => rfl
  | cons c l ih => rw [List.flatMap_cons, ih]; rfl
theorem own_row {B : Nat} {w : World} {v : Value} {l : List UInt8} (h : OwnR 5 1 encB B w v l) : Own B w v l := by
  unfold OwnR at h
  rw [flat_encB] at h
  exact h
theorem row_own {B : Nat} {w : World} {v : Value} {l : List UInt8} (h : Own B w v l) : OwnR 5 1 encB B w v l := by
  unfold OwnR
  rw [flat_encB]
  exact h
theorem Own.bytes {B : Nat} {w : World} {ao : Option Addr} {n cap : Nat} {l : List UInt8} (h : Own B w (.slice ao n cap) l) : BytesAt w.heap.size w l ao cap := own_bytes h
theorem BytesAt.src {B : Nat} {w : World} {l : List UInt8} {ao : Option Addr} {cap : Nat} (h : BytesAt B w l ao cap) : l = [] ∨ ∃ ad, ao = some ad ∧ ∀ j u, (l.flatMap encB)[j]? = some u → w.cell? (ad.add j) = some u := by
  rcases h.2 with h0 | ⟨b, o, rfl, -, hc⟩
  · exact .inl h0
  · refine .inr ⟨_, rfl, fun j u hu => ?_⟩
    rw [flat_encB, List.getElem?_map] at hu
    rcases Nat.lt_or_ge j l.length with hj | hj
    · rw [List.getElem?_eq_getElem hj] at hu
      simp only [Option.map_some, Option.some.injEq] at hu
      rw [Addr.add_lit, hc j hj, hu]
    · rw [List.getElem?_eq_none hj] at hu
      simp at hu
set_option maxRecDepth 100000 in
theorem own_five (w : World) (B : Nat) (hB : B ≤ w.heap.size) (k n0 n1 n2 n3 : UInt8) : Own B (w.alloc (.cells #[.int .u8 k.toNat, .int .u8 n0.toNat, .int .u8 n1.toNat, .int .u8 n2.toNat, .int .u8 n3.toNat] 5)) (.slice (some ⟨w.heap.size, 0, none⟩) 5 5) [k, n0, n1, n2, n3] := by
  unfold Own
  refine ⟨by simp, .inr ⟨w.heap.size, 5, _, rfl, hB, heap_alloc_new w _, by simp, ?_, by simp, by simp [byV]⟩⟩
  unfold maxLen
  exact of_decide_eq_true (by kernel_rfl)
section
open Go.ChangeShapes Go.WideShapes Go.Deep
variable {H : Type} {enc : TypeId × Value → H} {w : World} {spare : Nat → Bool} {held : Bool}
theorem cof_u8 : Try.prog.cellsOf 5 = 1 := by kernel_rfl
set_option maxRecDepth 100000 in
theorem byte_of {a : Int} (h : (Lit.int .u8 a).wf = true) : ∃ c : UInt8, a = (c.toNat : Int) := by
  have hb := bounds_u8 h
  obtain ⟨m, hm⟩ : ∃ m : Nat, a = (m : Int) := ⟨a.toNat, by omega⟩
  have hm2 : m < 256 := by omega
  refine ⟨UInt8.ofNat m, ?_⟩
  rw [UInt8.toNat_ofNat', Nat.mod_eq_of_lt hm2, hm]
set_option maxRecDepth 100000 in
theorem open_bytesR {r : Reach} {base : Nat} {v : Value} {d : DataW H} {p : List MemPlace} (hv : Value.okWide Try.prog w r base 38 v) (h : DataW.Trod enc Try.prog w 0 spare held 38 v d p) : ∃ (l : List UInt8) (ao : Option Addr) (cap : Nat), v = .slice ao l.length cap ∧ BytesAt w.heap.size w l ao cap := by
  obtain ⟨ao, n, c, rfl⟩ := okWide_slice Try.underlying38 hv
  obtain ⟨fuel, hf⟩ := h
  rcases DataW.trod_slice Try.underlying38 hf with ⟨e6, -⟩ | ⟨a, len, cap, elems, rest, n2, hn2, e6, -, -, hlc, hcm, hel, hall, -, -⟩
  · rw [one_slice e6]
    exact ⟨[], none, 0, rfl, ⟨by simp, by simp⟩, .inl rfl⟩
  · rw [one_slice e6]
    rw [cof_u8] at hall
    have hx : ∀ i, i < len → ∃ s : UInt8, w.cell? (a.add i) = some (byV s) := fun i hi => by
      have h1 := hall i hi
      rw [List.getElem?_eq_getElem (by omega)] at h1
      obtain ⟨c, h2, h3⟩ := Option.bind_eq_some_iff.1 h1
      obtain ⟨s, rfl, -, hs⟩ := DataW.trod_int Try.underlying5 h3
      obtain ⟨-, -, hat⟩ := World.cells?_some h2
      have := hat 0 (by decide)
      rw [add_add, Nat.mul_one, Nat.add_zero] at this
      obtain ⟨q, rfl⟩ := byte_of hs
      exact ⟨q, this⟩
    haveI : Inhabited UInt8 := ⟨0⟩
    obtain ⟨f, hf⟩ := choose_lt hx
    have hlen : ((List.range len).map f).length = len := by simp
    refine ⟨(List.range len).map f, some a, cap, by rw [hlen], ⟨by rw [hlen]; exact hlc, by unfold maxLen at hcm; omega⟩, ?_⟩
    rcases Nat.eq_zero_or_pos len with h0 | h0
    · exact .inl (by rw [h0]; rfl)
    · obtain ⟨b, o, rfl⟩ := addr_plain (hf 0 h0)
      refine .inr ⟨b, o, rfl, ?_, fun j hj => ?_⟩
      · have := cell_lt (hf 0 h0)
        rw [Addr.add_lit] at this
        exact this
      · have hj' : j < len := by simpa using hj
        have := hf j hj'
        rw [Addr.add_lit] at this
        rw [this]
        simp
end
end Go.Proofs.Ytbhlgajdoegboaa
