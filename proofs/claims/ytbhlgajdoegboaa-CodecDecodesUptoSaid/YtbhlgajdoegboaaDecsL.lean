/- CodecDecodes: any bytes, and a value's with some turned, or cut off, are the value that the document says, or refused. Condition: the arguments' size. -/
import Derived.Test.YtbhlgajdoegboaaDecQ
import Derived.Test.YtbhlgajdoegboaaOpenR
namespace Go.Proofs.Ytbhlgajdoegboaa
open Go.RowKit Go.Sort
section
open Go.ChangeShapes Go.WideShapes Go.Deep
variable {H : Type} {enc : TypeId × Value → H} {w : World} {spare : Nat → Bool} {held : Bool}
set_option maxRecDepth 100000 in
theorem open_intsR {r : Reach} {base : Nat} {v : Value} {d : DataW H} {p : List MemPlace} (hv : Value.okWide Try.prog w r base 37 v) (h : DataW.Trod enc Try.prog w 0 spare held 37 v d p) : ∃ zs : List Int, Nu w zs v := by
  obtain ⟨ao, n, c, rfl⟩ := okWide_slice Try.underlying37 hv
  obtain ⟨fuel, hf⟩ := h
  rcases DataW.trod_slice Try.underlying37 hf with ⟨e6, -⟩ | ⟨a, len, cap, elems, rest, n2, hn2, e6, -, -, hlc, hcm, hel, hall, -, -⟩
  · rw [one_slice e6]
    exact ⟨[], none, 0, rfl, by simp, by simp, .inl rfl⟩
  · rw [one_slice e6]
    rw [cof3] at hall
    have hx : ∀ i, i < len → ∃ s : Int, w.cell? (a.add i) = some (.int .i64 s) ∧ -9223372036854775808 ≤ s ∧ s ≤ 9223372036854775807 := fun i hi => by
      have h1 := hall i hi
      rw [List.getElem?_eq_getElem (by omega)] at h1
      obtain ⟨c, h2, h3⟩ := Option.bind_eq_some_iff.1 h1
      obtain ⟨s, rfl, -, hs⟩ := DataW.trod_int Try.underlying3 h3
      obtain ⟨-, -, hat⟩ := World.cells?_some h2
      have := hat 0 (by decide)
      rw [add_add, Nat.mul_one, Nat.add_zero] at this
      have hb := bounds_i64 hs
      exact ⟨s, this, hb.1, hb.2⟩
    haveI : Inhabited Int := ⟨0⟩
    obtain ⟨f, hf⟩ := choose_lt hx
    refine ⟨(List.range len).map f, some a, cap, by simp, by simp; unfold maxLen at hcm; omega, fun x hx => ?_, ?_⟩
    · obtain ⟨i, hi, rfl⟩ := List.mem_map.1 hx
      exact (hf i (List.mem_range.1 hi)).2
    · rcases Nat.eq_zero_or_pos len with h0 | h0
      · exact .inl (by rw [h0]; rfl)
      · obtain ⟨b, o, rfl⟩ := addr_plain (hf 0 h0).1
        refine .inr ⟨b, o, rfl, fun j hj => ?_⟩
        have hj' : j < len := by simpa using hj
        have := (hf j hj').1
        rw [Addr.add_lit] at this
        rw [this]
        simp
end
theorem i64_and65535 (n : Int) : bits .and .i64 n 65535 = n % 65536 := by
  have h63 : (BitVec.ofInt 64 65535).toNat = 2 ^ 16 - 1 := by decide
  have key : (BitVec.ofInt 64 n &&& BitVec.ofInt 64 65535).toNat = (n % ((2 ^ 64 : Nat) : Int)).toNat % 2 ^ 16 := by
    rw [BitVec.toNat_and, BitVec.toNat_ofInt, h63, Nat.and_two_pow_sub_one_eq_mod]
  show IntKind.i64.wrap ((BitVec.ofInt 64 n &&& BitVec.ofInt 64 65535).toNat : Nat) = n % 65536
  rw [key, IntKind.wrap_i64]
  omega
theorem i64_and255 (n : Int) : bits .and .i64 n 255 = n % 256 := by
  have h63 : (BitVec.ofInt 64 255).toNat = 2 ^ 8 - 1 := by decide
  have key : (BitVec.ofInt 64 n &&& BitVec.ofInt 64 255).toNat = (n % ((2 ^ 64 : Nat) : Int)).toNat % 2 ^ 8 := by
    rw [BitVec.toNat_and, BitVec.toNat_ofInt, h63, Nat.and_two_pow_sub_one_eq_mod]
  show IntKind.i64.wrap ((BitVec.ofInt 64 n &&& BitVec.ofInt 64 255).toNat : Nat) = n % 256
  rw [key, IntKind.wrap_i64]
  omega
theorem i64_and3 (n : Int) : bits .and .i64 n 3 = n % 4 := by
  have h63 : (BitVec.ofInt 64 3).toNat = 2 ^ 2 - 1 := by decide
  have key : (BitVec.ofInt 64 n &&& BitVec.ofInt 64 3).toNat = (n % ((2 ^ 64 : Nat) : Int)).toNat % 2 ^ 2 := by
    rw [BitVec.toNat_and, BitVec.toNat_ofInt, h63, Nat.and_two_pow_sub_one_eq_mod]
  show IntKind.i64.wrap ((BitVec.ofInt 64 n &&& BitVec.ofInt 64 3).toNat : Nat) = n % 4
  rw [key, IntKind.wrap_i64]
  omega
theorem BytesAt.mono {B B' : Nat} {w : World} {l : List UInt8} {ao : Option Addr} {cap : Nat} (h : BytesAt B w l ao cap) (hb : B ≤ B') : BytesAt B' w l ao cap := ⟨h.1, h.2.imp id fun ⟨b, o, h1, h2, h3⟩ => ⟨b, o, h1, Nat.lt_of_lt_of_le h2 hb, h3⟩⟩
/-- One byte of a row is turned. -/
theorem own_set {B g n cap j : Nat} {w : World} {l : List UInt8} {q : Int} {c : UInt8} (h : Own B w (.slice (some ⟨g, 0, none⟩) n cap) l) (hn : l.length = n) (hq : q = (c.toNat : Int)) : Own B (w.setCell ⟨g, j, none⟩ (.int .u8 q)) (.slice (some ⟨g, 0, none⟩) n cap) (l.set j c) ∧ KeptBut w (w.setCell ⟨g, j, none⟩ (.int .u8 q)) (some g) := by
  subst hn
  subst hq
  refine ⟨?_, kept_setCell _ _ _ _⟩
  have h2 := (World.ownsRow.stored h j (byV c)).1
  unfold Own
  rw [List.length_set, List.map_set]
  exact h2
theorem own_some {B n cap : Nat} {w : World} {ao : Option Addr} {l : List UInt8} (h : Own B w (.slice ao n cap) l) (hn : l.length = n) (h0 : 0 < n) : ∃ g, ao = some ⟨g, 0, none⟩ ∧ B ≤ g ∧ g < w.heap.size := by
  obtain ⟨ao2, cap2, hv, -, -, h2⟩ := OwnR.shape (row_own h)
  simp only [Value.slice.injEq] at hv
  obtain ⟨rfl, -, rfl⟩ := hv
  rcases h2 with h2 | ⟨g, h2, h3, h4⟩
  · rw [h2] at hn; simp at hn; omega
  · exact ⟨g, h2, h3, h4⟩
theorem own_at {B g n cap j : Nat} {w : World} {l : List UInt8} (h : Own B w (.slice (some ⟨g, 0, none⟩) n cap) l) (hn : l.length = n) (hj : j < n) : (∃ u, w.cell? ⟨g, j, none⟩ = some u) ∧ w.frozen? ⟨g, j, none⟩ = false := by
  subst hn
  have q := World.ownsRow.cells h (g := g) rfl j (byV l[j]) (by rw [List.getElem?_map, List.getElem?_eq_getElem hj]; rfl)
  rw [Addr.add_lit, Nat.zero_add] at q
  exact ⟨⟨_, q⟩, OwnR.frozen (row_own h) j⟩
theorem bytes_take {B : Nat} {w : World} {l : List UInt8} {ao : Option Addr} {cap k : Nat} (h : BytesAt B w l ao cap) (hk : k ≤ l.length) : BytesAt B w (l.take k) ao cap := by
  refine ⟨⟨by rw [List.length_take]; have := h.1.1; omega, h.1.2⟩, ?_⟩
  rcases h.2 with h0 | ⟨b, o, h0, h1, h2⟩
  · exact .inl (by rw [h0]; simp)
  · exact .inr ⟨b, o, h0, h1, fun j hj => by rw [List.getElem_take]; exact h2 j _⟩
theorem encD_len (v : V) : (encD v).2.length ≤ 65536 := by
  by_cases h0 : (canD v).1 = 0
  · by_cases h1 : 65536 < (lay (canD v).2).length
    · rw [encD_long h0 h1]; simp
    · rw [encD_ok h0 h1]; simp; omega
  · rw [encD_bad h0]; simp
set_option maxHeartbeats 4000000 in
set_option maxRecDepth 100000 in
theorem codecDecodes_v (v : V) (ts : List Int) (cut : Int) (raw : List UInt8) (w : World) (v0 v1 : Value) (hr : R w v v0 v1) (hvb : vb v ≤ 1099511627776) (t0 : Value) (ht : Nu w ts t0) (rao : Option Addr) (rcap : Nat) (hraw : BytesAt w.heap.size w raw rao rcap) :
    Calls Try.prog 4 #[av v.h v0 v1, t0, .int .i64 cut, .slice rao raw.length rcap] w fun e w' => e = .returned (.bool true) ∧ Low w w' := by
  obtain ⟨ai1, ci1, an1, cn1, rfl, rfl⟩ := r_slices hr
  obtain ⟨tao, tcap, rfl, ht1, ht2, ht3⟩ := ht
  have HT3 := Lib.hid ht3
  have HR := Lib.hid hr
  have HB := Lib.hid hvb
  have HRAW := Lib.hid hraw
  have FV := Lib.hid (fun W (h : Low w W) => few_c (dep v) v (fun _ => True) 0 W _ _ (Nat.le_refl _) (hr.low h) (by omega) (by omega))
  have SV := Lib.hid (fun W (h : Low w W) => size_c (dep v) v (fun _ => True) W _ _ (Nat.le_refl _) (hr.low h))
  have L0 := Lib.hid (Low.alloc (Low.refl w) (.cells #[.int .i64 v.h.k, .bool v.h.b, .int .i64 v.h.n, .string v.h.s, .string v.h.t, .string v.h.i, .slice ai1 v.l.length ci1, .slice an1 v.ns.length cn1] 29))
  have BV := Lib.hid (b8_any w (.int .i64 v.h.k) (.bool v.h.b) (.int .i64 v.h.n) (.string v.h.s) (.string v.h.t) (.string v.h.i) (.slice ai1 v.l.length ci1) (.slice an1 v.ns.length cn1) _ rfl)
  unfold av at FV SV ⊢
  obtain ⟨m, hm⟩ : ∃ m, m = raw.length := ⟨_, rfl⟩
  rw [← hm]
  have HM := Lib.hid hm
  obtain ⟨tl, htl⟩ : ∃ m, m = ts.length := ⟨_, rfl⟩
  rw [← htl]
  have HTL := Lib.hid htl
  clear hr hvb ht2 ht3 hraw hm htl
  go_enter Try.func4, Try.ntmps4
  go_wp2_with (first
    | (go_at_call 11; refine (awake4_c _).mono ?_; rintro e w1 ⟨rfl, L1⟩; have LW := Lib.hid L1; obtain ⟨⟨a0, a1, a2, a3, a4, a5, a6, a7⟩, -, -⟩ := BV.out.low (LW.out); clear L1))
  refine (FV.out w1 (L0.out.trans LW.out)).mono ?_
  rintro e w2 ⟨b1, rfl, hb1, g1⟩
  have LX := Lib.hid (LW.out.trans g1.low)
  have HF1 := Lib.hid hb1
  clear hb1 g1 LW
  clear a0 a1 a2 a3 a4 a5 a6 a7
  obtain ⟨⟨a0, a1, a2, a3, a4, a5, a6, a7⟩, -, -⟩ := BV.out.low (LX.out)
  cases b1 with
  | false =>
    go_wp2_with fail
    go_ret
    exact ⟨rfl, L0.out.trans LX.out⟩
  | true =>
    obtain ⟨hsm1, hdp1⟩ := HF1.out rfl
    have HS1 := Lib.hid hsm1
    have HD1 := Lib.hid (show dep v ≤ 1000000 by omega)
    clear hsm1 hdp1 FV
    go_wp2_with fail
    refine (SV.out w2 (L0.out.trans LX.out)).mono ?_
    rintro e w3 ⟨n1, rfl, g⟩
    have LW := Lib.hid (LX.out.trans g.low)
    clear g LX
    clear a0 a1 a2 a3 a4 a5 a6 a7
    obtain ⟨⟨a0, a1, a2, a3, a4, a5, a6, a7⟩, -, -⟩ := BV.out.low (LW.out)
    by_cases hn1 : (500 : Int) < n1
    · go_wp2_with fail
      go_ret
      exact ⟨rfl, L0.out.trans LW.out⟩
    by_cases hm1 : (1000 : Int) < (m : Int)
    · go_wp2_with fail
      go_ret
      exact ⟨rfl, L0.out.trans LW.out⟩
    obtain ⟨x, hx⟩ : ∃ x, x = (decV raw).1 := ⟨_, rfl⟩
    obtain ⟨er, her⟩ : ∃ er, er = (decV raw).2 := ⟨_, rfl⟩
    have DC := Lib.hid (fun W (h : Low w W) => dec_q raw (by have := HM.out; omega) m HM.out.symm W rao rcap ((HRAW.out.to h.2.2.2).mono h.size))
    have DR := Lib.hid (fun W (h : Low w W) => rdec_q raw (by have := HM.out; omega) m HM.out.symm W rao rcap ((HRAW.out.to h.2.2.2).mono h.size))
    unfold CanPost at DC DR
    rw [← hx, ← her] at DC DR
    have EN := Lib.hid (fun W (h : Low w W) => rEnc_c v W _ _ (HR.out.low h) HS1.out HD1.out HB.out)
    unfold av EncPost at EN
    obtain ⟨bs, hbs⟩ : ∃ bs, bs = (encD v).2 := ⟨_, rfl⟩
    obtain ⟨er2, her2⟩ : ∃ er, er = (encD v).1 := ⟨_, rfl⟩
    rw [← hbs, ← her2] at EN
    obtain ⟨bn, hbn⟩ : ∃ bn, bn = bs.length := ⟨_, rfl⟩
    rw [← hbn] at EN
    have HBN := Lib.hid hbn
    have HBL := Lib.hid (show bn ≤ 65536 by rw [hbn, hbs]; exact encD_len v)
    clear hx her hbs her2 hbn SV
    rcases Nat.eq_zero_or_pos bn with hb0 | hb0
    · subst hb0
      go_wp2_with (first
        | (go_at_call 14; refine (DC.out w3 (L0.out.trans LW.out)).mono ?_; rintro e w4 ⟨ai3, ci3, an3, cn3, rfl, hr3, L3⟩; have R3 := Lib.hid (hr3.any.low (Low.alloc (Low.refl w4) (.cells #[.int .i64 x.h.k, .bool x.h.b, .int .i64 x.h.n, .string x.h.s, .string x.h.t, .string x.h.i, .slice ai3 x.l.length ci3, .slice an3 x.ns.length cn3] 29))); have LY := Lib.hid (LW.out.trans (L3.trans (Low.alloc (Low.refl w4) (.cells #[.int .i64 x.h.k, .bool x.h.b, .int .i64 x.h.n, .string x.h.s, .string x.h.t, .string x.h.i, .slice ai3 x.l.length ci3, .slice an3 x.ns.length cn3] 29)))); have B3k := Lib.hid (b8_any w4 (.int .i64 x.h.k) (.bool x.h.b) (.int .i64 x.h.n) (.string x.h.s) (.string x.h.t) (.string x.h.i) (.slice ai3 x.l.length ci3) (.slice an3 x.ns.length cn3) _ rfl); clear hr3 L3)
        | (go_at_call 15; refine (DR.out _ (L0.out.trans LY.out)).mono ?_; rintro e w5 ⟨ai4, ci4, an4, cn4, rfl, hr4, L4⟩; have LZ := Lib.hid (L4.trans (Low.alloc (Low.refl w5) (.cells #[.int .i64 x.h.k, .bool x.h.b, .int .i64 x.h.n, .string x.h.s, .string x.h.t, .string x.h.i, .slice ai4 x.l.length ci4, .slice an4 x.ns.length cn4] 29))); have R4 := hr4.any.low (Low.alloc (Low.refl w5) (.cells #[.int .i64 x.h.k, .bool x.h.b, .int .i64 x.h.n, .string x.h.s, .string x.h.t, .string x.h.i, .slice ai4 x.l.length ci4, .slice an4 x.ns.length cn4] 29)); have WC0 := whole_c x x (w5.alloc (.cells #[.int .i64 x.h.k, .bool x.h.b, .int .i64 x.h.n, .string x.h.s, .string x.h.t, .string x.h.i, .slice ai4 x.l.length ci4, .slice an4 x.ns.length cn4] 29)) _ _ _ _ (R3.out.low LZ.out) R4; rw [← eqB_true rfl] at WC0; unfold av at WC0; have WC := Lib.hid WC0; obtain ⟨⟨c0, c1, c2, c3, c4, c5, c6, c7⟩, -, -⟩ := B3k.out.low LZ.out; clear hr4 L4 R4 WC0)
        | (go_at_call 16; refine WC.out.mono ?_; rintro e w6 ⟨rfl, g5⟩; have LU := Lib.hid (LY.out.trans (LZ.out.trans g5.low)); clear a0 a1 a2 a3 a4 a5 a6 a7; obtain ⟨⟨a0, a1, a2, a3, a4, a5, a6, a7⟩, -, -⟩ := BV.out.low (LU.out); clear g5)
        | (go_at_call 17; refine (EN.out w6 (L0.out.trans LU.out)).mono ?_; rintro e w7 ⟨cao, ccap, rfl, OC, L7⟩; have HO := Lib.hid OC; have LT := Lib.hid (LU.out.trans L7); clear OC L7))
      go_ret
      exact ⟨rfl, L0.out.trans LT.out⟩
    have hbz : ((bn : Int) == 0) = false := by simp; omega
    go_wp2_with (first
      | (go_at_call 14; refine (DC.out w3 (L0.out.trans LW.out)).mono ?_; rintro e w4 ⟨ai3, ci3, an3, cn3, rfl, hr3, L3⟩; have R3 := Lib.hid (hr3.any.low (Low.alloc (Low.refl w4) (.cells #[.int .i64 x.h.k, .bool x.h.b, .int .i64 x.h.n, .string x.h.s, .string x.h.t, .string x.h.i, .slice ai3 x.l.length ci3, .slice an3 x.ns.length cn3] 29))); have LY := Lib.hid (LW.out.trans (L3.trans (Low.alloc (Low.refl w4) (.cells #[.int .i64 x.h.k, .bool x.h.b, .int .i64 x.h.n, .string x.h.s, .string x.h.t, .string x.h.i, .slice ai3 x.l.length ci3, .slice an3 x.ns.length cn3] 29)))); have B3k := Lib.hid (b8_any w4 (.int .i64 x.h.k) (.bool x.h.b) (.int .i64 x.h.n) (.string x.h.s) (.string x.h.t) (.string x.h.i) (.slice ai3 x.l.length ci3) (.slice an3 x.ns.length cn3) _ rfl); clear hr3 L3)
      | (go_at_call 15; refine (DR.out _ (L0.out.trans LY.out)).mono ?_; rintro e w5 ⟨ai4, ci4, an4, cn4, rfl, hr4, L4⟩; have LZ := Lib.hid (L4.trans (Low.alloc (Low.refl w5) (.cells #[.int .i64 x.h.k, .bool x.h.b, .int .i64 x.h.n, .string x.h.s, .string x.h.t, .string x.h.i, .slice ai4 x.l.length ci4, .slice an4 x.ns.length cn4] 29))); have R4 := hr4.any.low (Low.alloc (Low.refl w5) (.cells #[.int .i64 x.h.k, .bool x.h.b, .int .i64 x.h.n, .string x.h.s, .string x.h.t, .string x.h.i, .slice ai4 x.l.length ci4, .slice an4 x.ns.length cn4] 29)); have WC0 := whole_c x x (w5.alloc (.cells #[.int .i64 x.h.k, .bool x.h.b, .int .i64 x.h.n, .string x.h.s, .string x.h.t, .string x.h.i, .slice ai4 x.l.length ci4, .slice an4 x.ns.length cn4] 29)) _ _ _ _ (R3.out.low LZ.out) R4; rw [← eqB_true rfl] at WC0; unfold av at WC0; have WC := Lib.hid WC0; obtain ⟨⟨c0, c1, c2, c3, c4, c5, c6, c7⟩, -, -⟩ := B3k.out.low LZ.out; clear hr4 L4 R4 WC0)
      | (go_at_call 16; refine WC.out.mono ?_; rintro e w6 ⟨rfl, g5⟩; have LU := Lib.hid (LY.out.trans (LZ.out.trans g5.low)); clear a0 a1 a2 a3 a4 a5 a6 a7; obtain ⟨⟨a0, a1, a2, a3, a4, a5, a6, a7⟩, -, -⟩ := BV.out.low (LU.out); clear g5)
      | (go_at_call 17; refine (EN.out w6 (L0.out.trans LU.out)).mono ?_; rintro e w7 ⟨cao, ccap, rfl, OC, L7⟩; obtain ⟨g, rfl, hg1, hg2⟩ := own_some OC HBN.out.symm hb0; have HO := Lib.hid OC; have LT := Lib.hid (LU.out.trans L7); clear OC L7))
    go_loopg [18] 8 (fun gk vi wr => ∃ (i : Nat) (l : List UInt8), vi = .int .i64 (i : Int) ∧ i ≤ 7 ∧ 8 - i ≤ gk ∧ Hid (Own w6.heap.size wr (.slice (some ⟨g, 0, none⟩) bn ccap) l) ∧ Hid (l.length = bn) ∧ Hid (KeptBut w7 wr (some g)))
    case atStart => exact ⟨0, bs, rfl, by omega, by omega, HO, Lib.hid HBN.out.symm, Lib.hid (KeptBut.refl _ _)⟩
    case round =>
      obtain ⟨i, l, rfl, hi, hg, HO2, HLB, KB⟩ := hrel
      by_cases h12 : (i : Int) + 1 < (tl : Int) ∧ (i : Int) < 6
      · obtain ⟨h1, h2⟩ := h12
        have hin : i + 1 < ts.length := by have := HTL.out; omega
        rcases HT3.out with h0 | ⟨b, o, rfl, htc⟩
        · rw [h0] at hin; simp at hin
        have TC : ∀ j (hj : j < ts.length), wr.cell? ⟨b, o + j, none⟩ = some (.int .i64 ts[j]) := fun j hj => by
          have q1 := htc j hj
          have q2 := cell_lt q1
          refine KB.out.cellAt ((L0.out.trans LT.out).keep q1) ?_
          have q3 := (L0.out.trans LU.out).size
          simp only at q2
          simp; omega
        obtain ⟨ea, hea⟩ : ∃ ea, ea = ts[i] := ⟨_, rfl⟩
        obtain ⟨ec, hec⟩ : ∃ ec, ec = ts[i + 1] := ⟨_, rfl⟩
        have t1 := TC i (by omega)
        have t2 := TC (i + 1) hin
        rw [← hea] at t1
        rw [← hec] at t2
        obtain ⟨A, hA⟩ : ∃ A : Int, A = ea % 65536 := ⟨_, rfl⟩
        obtain ⟨D, hD⟩ : ∃ D : Int, D = ec % 256 := ⟨_, rfl⟩
        have q1 := i64_and65535 ea
        have q2 := i64_and255 ec
        rw [← hA] at q1
        rw [← hD] at q2
        have hA0 : 0 ≤ A := by omega
        have hA9 : A < 65536 := by omega
        have hD0 : 0 ≤ D := by omega
        have hD9 : D < 256 := by omega
        have hbn0 : (0 : Int) < (bn : Int) := by omega
        have hbnz : ¬ bn = 0 := by omega
        obtain ⟨J, hJ⟩ : ∃ J : Nat, A % (bn : Int) = (J : Int) := ⟨(A % (bn : Int)).toNat, by have := Int.emod_nonneg A (show (bn : Int) ≠ 0 by omega); omega⟩
        have hJ9 : (J : Int) < (bn : Int) := by rw [← hJ]; exact Int.emod_lt_of_pos A hbn0
        have hJt : A.tmod (bn : Int) = (J : Int) := by rw [Int.tmod_eq_emod_of_nonneg hA0]; exact hJ
        obtain ⟨⟨uj, cj⟩, fj⟩ := own_at HO2.out HLB.out (show J < bn by omega)
        have qd : IntKind.u8.wrap D = D := by rw [IntKind.wrap_u8]; omega
        have hin1 : (i : Int) < (tl : Int) := by omega
        have hin2 : (i : Int) + 1 < (tl : Int) := h1
        have HD := Lib.hid (show D = ((UInt8.ofNat D.toNat).toNat : Int) by rw [UInt8.toNat_ofNat']; omega)
        have HJ := Lib.hid hJ
        clear hA hD hea hec htc TC
        go_wp2_with fail
        go_region
        all_goals
          go_wp2_with fail
          go_roundg (8 - (i + 2))
          case measure => omega
          case rel =>
            obtain ⟨s1, s2⟩ := own_set (j := J) HO2.out HLB.out HD.out
            refine ⟨i + 2, l.set J (UInt8.ofNat D.toNat), by go_num, by omega, by omega, ?_, Lib.hid (by rw [List.length_set]; exact HLB.out), ?_⟩
            · exact Lib.hid s1
            · exact Lib.hid (KB.out.trans s2)
      · have LFW := Lib.hid ((L0.out.trans LT.out).kept KB.out fun x hx => by have q3 := (L0.out.trans LU.out).size; simp only [Option.some.injEq] at hx; omega)
        have hbc : bn ≤ ccap := by
          obtain ⟨ao2, cap2, hv, hle, -, -⟩ := OwnR.shape (row_own HO2.out)
          simp only [Value.slice.injEq] at hv
          have := HLB.out
          omega
        obtain ⟨E3, hE3⟩ : ∃ E3 : Int, E3 = cut % 4 := ⟨_, rfl⟩
        have q3 := i64_and3 cut
        rw [← hE3] at q3
        clear hE3
        by_cases h13 : (i : Int) + 1 < (tl : Int)
        all_goals
          first
            | (have h26 : ¬ (i : Int) < 6 := (fun h => h12 ⟨h13, h⟩))
            | skip
          by_cases hE : E3 = 1
          · subst hE
            obtain ⟨A, hA⟩ : ∃ A : Int, A = (cut / 4) % 65536 := ⟨_, rfl⟩
            have q4 := i64_and65535 (cut / 4)
            rw [← hA] at q4
            have hA0 : 0 ≤ A := by omega
            have hbn0 : (0 : Int) < (bn : Int) := by omega
            have hbnz : ¬ bn = 0 := by omega
            obtain ⟨J, hJ⟩ : ∃ J : Nat, A % (bn : Int) = (J : Int) := ⟨(A % (bn : Int)).toNat, by have := Int.emod_nonneg A (show (bn : Int) ≠ 0 by omega); omega⟩
            have hJ9 : (J : Int) < (bn : Int) := by rw [← hJ]; exact Int.emod_lt_of_pos A hbn0
            have hJt : A.tmod (bn : Int) = (J : Int) := by rw [Int.tmod_eq_emod_of_nonneg hA0]; exact hJ
            have hJb : J < bn := by omega
            have hJc : (J : Int) ≤ (ccap : Int) := by omega
            clear hA
            obtain ⟨l2, hl2⟩ : ∃ l2, l2 = l.take J := ⟨_, rfl⟩
            have HNN : Hid (l2.length = J) := Lib.hid (by rw [hl2]; rw [List.length_take, HLB.out]; omega)
            have BA : Hid (BytesAt wr.heap.size wr l2 (some ⟨g, 0, none⟩) ccap) := Lib.hid (by rw [hl2]; exact bytes_take (own_bytes HO2.out) (by rw [HLB.out]; omega))
            have HLE : Hid (J ≤ 65536) := Lib.hid (by have := HBL.out; omega)
            obtain ⟨y, hy⟩ : ∃ y, y = (decV l2).1 := ⟨_, rfl⟩
            obtain ⟨eq2, heq2⟩ : ∃ er, er = (decV l2).2 := ⟨_, rfl⟩
            have DC2 := Lib.hid (fun W (h : Low wr W) => dec_q l2 (by rw [HNN.out]; exact HLE.out) J HNN.out W _ _ ((BA.out.to h.2.2.2).mono h.size))
            have DR2 := Lib.hid (fun W (h : Low wr W) => rdec_q l2 (by rw [HNN.out]; exact HLE.out) J HNN.out W _ _ ((BA.out.to h.2.2.2).mono h.size))
            unfold CanPost at DC2 DR2
            rw [← hy, ← heq2] at DC2 DR2
            clear hl2 hy heq2
            go_wp2_with (first
              | (go_at_call 14; refine (DC2.out wr (Low.refl _)).mono ?_; rintro e w8 ⟨ai5, ci5, an5, cn5, rfl, hr5, L5⟩; have R5 := Lib.hid (hr5.any.low (Low.alloc (Low.refl w8) (.cells #[.int .i64 y.h.k, .bool y.h.b, .int .i64 y.h.n, .string y.h.s, .string y.h.t, .string y.h.i, .slice ai5 y.l.length ci5, .slice an5 y.ns.length cn5] 29))); have LA := Lib.hid (L5.trans (Low.alloc (Low.refl w8) (.cells #[.int .i64 y.h.k, .bool y.h.b, .int .i64 y.h.n, .string y.h.s, .string y.h.t, .string y.h.i, .slice ai5 y.l.length ci5, .slice an5 y.ns.length cn5] 29))); have B5k := Lib.hid (b8_any w8 (.int .i64 y.h.k) (.bool y.h.b) (.int .i64 y.h.n) (.string y.h.s) (.string y.h.t) (.string y.h.i) (.slice ai5 y.l.length ci5) (.slice an5 y.ns.length cn5) _ rfl); clear hr5 L5)
              | (go_at_call 15; refine (DR2.out _ LA.out).mono ?_; rintro e w9 ⟨ai6, ci6, an6, cn6, rfl, hr6, L6⟩; have LB := Lib.hid (L6.trans (Low.alloc (Low.refl w9) (.cells #[.int .i64 y.h.k, .bool y.h.b, .int .i64 y.h.n, .string y.h.s, .string y.h.t, .string y.h.i, .slice ai6 y.l.length ci6, .slice an6 y.ns.length cn6] 29))); have R6 := hr6.any.low (Low.alloc (Low.refl w9) (.cells #[.int .i64 y.h.k, .bool y.h.b, .int .i64 y.h.n, .string y.h.s, .string y.h.t, .string y.h.i, .slice ai6 y.l.length ci6, .slice an6 y.ns.length cn6] 29)); have WD0 := whole_c y y (w9.alloc (.cells #[.int .i64 y.h.k, .bool y.h.b, .int .i64 y.h.n, .string y.h.s, .string y.h.t, .string y.h.i, .slice ai6 y.l.length ci6, .slice an6 y.ns.length cn6] 29)) _ _ _ _ (R5.out.low LB.out) R6; rw [← eqB_true rfl] at WD0; unfold av at WD0; have WD := Lib.hid WD0; obtain ⟨⟨c0, c1, c2, c3, c4, c5, c6, c7⟩, -, -⟩ := B5k.out.low LB.out; clear hr6 L6 R6 WD0)
              | (go_at_call 16; refine WD.out.mono ?_; rintro e wa ⟨rfl, ga⟩; have LC := Lib.hid (LA.out.trans (LB.out.trans ga.low)); clear ga))
            go_ret
            exact ⟨by simp, LFW.out.trans LC.out⟩
          · have hEb : (E3 == 1) = false := by simpa using hE
            obtain ⟨l2, hl2⟩ : ∃ l2, l2 = l := ⟨_, rfl⟩
            have HNN : Hid (l2.length = bn) := Lib.hid (by rw [hl2]; exact HLB.out)
            have BA : Hid (BytesAt wr.heap.size wr l2 (some ⟨g, 0, none⟩) ccap) := Lib.hid (by rw [hl2]; exact own_bytes HO2.out)
            have HLE : Hid (bn ≤ 65536) := Lib.hid (by have := HBL.out; omega)
            obtain ⟨y, hy⟩ : ∃ y, y = (decV l2).1 := ⟨_, rfl⟩
            obtain ⟨eq2, heq2⟩ : ∃ er, er = (decV l2).2 := ⟨_, rfl⟩
            have DC2 := Lib.hid (fun W (h : Low wr W) => dec_q l2 (by rw [HNN.out]; exact HLE.out) bn HNN.out W _ _ ((BA.out.to h.2.2.2).mono h.size))
            have DR2 := Lib.hid (fun W (h : Low wr W) => rdec_q l2 (by rw [HNN.out]; exact HLE.out) bn HNN.out W _ _ ((BA.out.to h.2.2.2).mono h.size))
            unfold CanPost at DC2 DR2
            rw [← hy, ← heq2] at DC2 DR2
            clear hl2 hy heq2
            go_wp2_with (first
              | (go_at_call 14; refine (DC2.out wr (Low.refl _)).mono ?_; rintro e w8 ⟨ai5, ci5, an5, cn5, rfl, hr5, L5⟩; have R5 := Lib.hid (hr5.any.low (Low.alloc (Low.refl w8) (.cells #[.int .i64 y.h.k, .bool y.h.b, .int .i64 y.h.n, .string y.h.s, .string y.h.t, .string y.h.i, .slice ai5 y.l.length ci5, .slice an5 y.ns.length cn5] 29))); have LA := Lib.hid (L5.trans (Low.alloc (Low.refl w8) (.cells #[.int .i64 y.h.k, .bool y.h.b, .int .i64 y.h.n, .string y.h.s, .string y.h.t, .string y.h.i, .slice ai5 y.l.length ci5, .slice an5 y.ns.length cn5] 29))); have B5k := Lib.hid (b8_any w8 (.int .i64 y.h.k) (.bool y.h.b) (.int .i64 y.h.n) (.string y.h.s) (.string y.h.t) (.string y.h.i) (.slice ai5 y.l.length ci5) (.slice an5 y.ns.length cn5) _ rfl); clear hr5 L5)
              | (go_at_call 15; refine (DR2.out _ LA.out).mono ?_; rintro e w9 ⟨ai6, ci6, an6, cn6, rfl, hr6, L6⟩; have LB := Lib.hid (L6.trans (Low.alloc (Low.refl w9) (.cells #[.int .i64 y.h.k, .bool y.h.b, .int .i64 y.h.n, .string y.h.s, .string y.h.t, .string y.h.i, .slice ai6 y.l.length ci6, .slice an6 y.ns.length cn6] 29))); have R6 := hr6.any.low (Low.alloc (Low.refl w9) (.cells #[.int .i64 y.h.k, .bool y.h.b, .int .i64 y.h.n, .string y.h.s, .string y.h.t, .string y.h.i, .slice ai6 y.l.length ci6, .slice an6 y.ns.length cn6] 29)); have WD0 := whole_c y y (w9.alloc (.cells #[.int .i64 y.h.k, .bool y.h.b, .int .i64 y.h.n, .string y.h.s, .string y.h.t, .string y.h.i, .slice ai6 y.l.length ci6, .slice an6 y.ns.length cn6] 29)) _ _ _ _ (R5.out.low LB.out) R6; rw [← eqB_true rfl] at WD0; unfold av at WD0; have WD := Lib.hid WD0; obtain ⟨⟨c0, c1, c2, c3, c4, c5, c6, c7⟩, -, -⟩ := B5k.out.low LB.out; clear hr6 L6 R6 WD0)
              | (go_at_call 16; refine WD.out.mono ?_; rintro e wa ⟨rfl, ga⟩; have LC := Lib.hid (LA.out.trans (LB.out.trans ga.low)); clear ga))
            go_ret
            exact ⟨by simp, LFW.out.trans LC.out⟩
end Go.Proofs.Ytbhlgajdoegboaa
