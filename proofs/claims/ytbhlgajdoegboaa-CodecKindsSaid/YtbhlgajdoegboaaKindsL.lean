/- CodecKinds: bytes that begin with any kind, any number of things, and any other bytes, are the value that the document says, or refused. No condition. -/
import Derived.Test.YtbhlgajdoegboaaDecQ
namespace Go.Proofs.Ytbhlgajdoegboaa
open Go.RowKit Go.Sort
set_option maxHeartbeats 3000000 in
set_option maxRecDepth 100000 in
theorem codecKinds_v (k n0 n1 n2 n3 : UInt8) (rest : List UInt8) (w : World) (ao : Option Addr) (cap : Nat) (hb : BytesAt w.heap.size w rest ao cap) :
    Calls Try.prog 6 #[.int .u8 k.toNat, .agg #[.int .u8 n0.toNat, .int .u8 n1.toNat, .int .u8 n2.toNat, .int .u8 n3.toNat], .slice ao rest.length cap] w fun e w' => e = .returned (.bool true) ∧ Low w w' := by
  have HB := Lib.hid hb
  clear hb
  obtain ⟨m, hm⟩ : ∃ m, m = rest.length := ⟨_, rfl⟩
  rw [← hm]
  have HM := Lib.hid hm
  clear hm
  have L0 := Lib.hid (Low.alloc (Low.refl w) (.cells #[.int .u8 n0.toNat, .int .u8 n1.toNat, .int .u8 n2.toNat, .int .u8 n3.toNat] 47))
  have A0 : Hid (∀ w', Low (w.alloc (.cells #[.int .u8 n0.toNat, .int .u8 n1.toNat, .int .u8 n2.toNat, .int .u8 n3.toNat] 47)) w' → w'.cell? ⟨w.heap.size, 0, none⟩ = some (.int .u8 n0.toNat) ∧ w'.cell? ⟨w.heap.size, 1, none⟩ = some (.int .u8 n1.toNat) ∧ w'.cell? ⟨w.heap.size, 2, none⟩ = some (.int .u8 n2.toNat) ∧ w'.cell? ⟨w.heap.size, 3, none⟩ = some (.int .u8 n3.toNat)) := Lib.hid fun w' L => by
    have key : ∀ (j : Nat) (u : Value), (#[.int .u8 n0.toNat, .int .u8 n1.toNat, .int .u8 n2.toNat, .int .u8 n3.toNat] : Array Value)[j]? = some u → w'.cell? ⟨w.heap.size, j, none⟩ = some u := fun j u hu => L.keep (by rw [World.cell?_alloc_mark]; exact hu)
    exact ⟨key 0 _ rfl, key 1 _ rfl, key 2 _ rfl, key 3 _ rfl⟩
  by_cases hlong : (300 : Int) < (m : Int)
  · go_enter Try.func6, Try.ntmps6
    go_wp2_with (first
      | (go_at_call 11; refine (awake4_c _).mono ?_; rintro e w1 ⟨rfl, L1⟩; have LW := Lib.hid (L0.out.trans L1); clear L1))
    go_ret
    exact ⟨rfl, LW.out⟩
  have hm3 : m ≤ 300 := by omega
  obtain ⟨l, hl⟩ : ∃ l : List UInt8, l = [k, n0, n1, n2, n3] ++ rest := ⟨_, rfl⟩
  have hll : l.length = m + 5 := by rw [hl, List.length_append, ← HM.out]; simp; omega
  obtain ⟨x, hx⟩ : ∃ x, x = (decV l).1 := ⟨_, rfl⟩
  obtain ⟨er, her⟩ : ∃ er, er = (decV l).2 := ⟨_, rfl⟩
  obtain ⟨nn, hnn⟩ : ∃ nn, nn = l.length := ⟨_, rfl⟩
  have DC := Lib.hid (fun W (ao : Option Addr) (cap : Nat) (h : BytesAt W.heap.size W l ao cap) => dec_q l (by omega) nn hnn.symm W ao cap h)
  have DR := Lib.hid (fun W (ao : Option Addr) (cap : Nat) (h : BytesAt W.heap.size W l ao cap) => rdec_q l (by omega) nn hnn.symm W ao cap h)
  unfold CanPost at DC DR
  rw [← hx, ← her] at DC DR
  have HL := Lib.hid hl
  have HNN := Lib.hid hnn
  clear hl hll hx her hnn
  go_enter Try.func6, Try.ntmps6
  go_wp2_with (first
    | (go_at_call 11; refine (awake4_c _).mono ?_; rintro e w1 ⟨rfl, L1⟩; obtain ⟨a0, a1, a2, a3⟩ := A0.out w1 L1; have LW := Lib.hid (L0.out.trans L1); clear L1)
    | (at_builtin; refine appRs rfl _ _ _ rfl Try.underlying38 u8_info rfl (by decide) (by decide) (fun _ => rfl) (fun c u hu => (by simp [encB] at hu; subst hu; rfl)) w.heap.size _ [k, n0, n1, n2, n3] rfl (row_own (own_five w1 w.heap.size LW.out.size k n0 n1 n2 n3)) rest ao cap (by rw [← HM.out]; rfl) ((HB.out.to (LW.out.trans (Low.alloc (Low.refl w1) (.cells #[.int .u8 k.toNat, .int .u8 n0.toNat, .int .u8 n1.toNat, .int .u8 n2.toNat, .int .u8 n3.toNat] 5))).2.2.2).src) (by have := HM.out; simp; omega) (by have := LW.out.size; simp; omega) ?_; intro b2 w2 h2 bl k2; obtain ⟨ao2, cap2, hv, -, -, -⟩ := OwnR.shape h2; rw [← HL.out, ← HNN.out] at hv; subst hv; have h3 := own_row h2; rw [← HL.out] at h3; have O2 := Lib.hid h3; have LX := Lib.hid ((LW.out.trans (Low.alloc (Low.refl w1) (.cells #[.int .u8 k.toNat, .int .u8 n0.toNat, .int .u8 n1.toNat, .int .u8 n2.toNat, .int .u8 n3.toNat] 5))).trans_below bl (Nat.le_refl _)); clear h2 h3 bl k2)
    | (go_at_call 14; refine (DC.out w2 ao2 cap2 O2.out.bytes).mono ?_; rintro e w3 ⟨ai3, ci3, an3, cn3, rfl, hr3, L3⟩; have R3 := Lib.hid (hr3.any.low (Low.alloc (Low.refl w3) (.cells #[.int .i64 x.h.k, .bool x.h.b, .int .i64 x.h.n, .string x.h.s, .string x.h.t, .string x.h.i, .slice ai3 x.l.length ci3, .slice an3 x.ns.length cn3] 29))); have LY := Lib.hid (L3.trans (Low.alloc (Low.refl w3) (.cells #[.int .i64 x.h.k, .bool x.h.b, .int .i64 x.h.n, .string x.h.s, .string x.h.t, .string x.h.i, .slice ai3 x.l.length ci3, .slice an3 x.ns.length cn3] 29))); have B3k := Lib.hid (b8_any w3 (.int .i64 x.h.k) (.bool x.h.b) (.int .i64 x.h.n) (.string x.h.s) (.string x.h.t) (.string x.h.i) (.slice ai3 x.l.length ci3) (.slice an3 x.ns.length cn3) _ rfl); clear hr3 L3)
    | (go_at_call 15; refine (DR.out _ ao2 cap2 (O2.out.low LY.out).bytes).mono ?_; rintro e w4 ⟨ai4, ci4, an4, cn4, rfl, hr4, L4⟩; have LZ := Lib.hid (L4.trans (Low.alloc (Low.refl w4) (.cells #[.int .i64 x.h.k, .bool x.h.b, .int .i64 x.h.n, .string x.h.s, .string x.h.t, .string x.h.i, .slice ai4 x.l.length ci4, .slice an4 x.ns.length cn4] 29))); have R4 := hr4.any.low (Low.alloc (Low.refl w4) (.cells #[.int .i64 x.h.k, .bool x.h.b, .int .i64 x.h.n, .string x.h.s, .string x.h.t, .string x.h.i, .slice ai4 x.l.length ci4, .slice an4 x.ns.length cn4] 29)); have WC0 := whole_c x x (w4.alloc (.cells #[.int .i64 x.h.k, .bool x.h.b, .int .i64 x.h.n, .string x.h.s, .string x.h.t, .string x.h.i, .slice ai4 x.l.length ci4, .slice an4 x.ns.length cn4] 29)) _ _ _ _ (R3.out.low LZ.out) R4; rw [← eqB_true rfl] at WC0; unfold av at WC0; have WC := Lib.hid WC0; obtain ⟨⟨c0, c1, c2, c3, c4, c5, c6, c7⟩, -, -⟩ := B3k.out.low LZ.out; clear hr4 L4 R4 WC0)
    | (go_at_call 16; refine WC.out.mono ?_; rintro e w5 ⟨rfl, g5⟩; have G5 := Lib.hid g5.low; clear g5))
  go_ret
  exact ⟨by simp, LX.out.trans (LY.out.trans (LZ.out.trans G5.out))⟩
end Go.Proofs.Ytbhlgajdoegboaa
