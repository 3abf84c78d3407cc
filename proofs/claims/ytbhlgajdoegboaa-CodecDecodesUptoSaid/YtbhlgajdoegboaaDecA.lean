/- codec.Decode, from what its reader's value answers. Condition: no more than 65536 bytes. -/
import Derived.Test.YtbhlgajdoegboaaRdS
namespace Go.Proofs.Ytbhlgajdoegboaa
open Go.RowKit
theorem iv_can_n (n : Nat) : ∀ v : V, dep v ≤ n → (can v).1 = 0 → Iv v → Iv (can v).2 := by
  induction n with
  | zero => intro v h; rw [dep_v] at h; omega
  | succ n ih =>
    intro v hd h hi
    obtain ⟨hn, hl⟩ := iv_v.1 hi
    have hI : (canL v.l).1 = 0 → ∀ x ∈ (canL v.l).2, Iv x := fun h0 x hx => by
      obtain ⟨h1, h2⟩ := canL_ok h0
      rw [h2] at hx
      obtain ⟨y, hy, rfl⟩ := List.mem_map.1 hx
      exact ih y (by have := dep_mem hy; rw [dep_v] at hd; omega) (h1 y hy) (hl y hy)
    rw [can_v] at h ⊢
    by_cases k1 : v.h.k = 1
    · rw [if_pos k1]; exact iv_flat iv_zero
    rw [if_neg k1] at h ⊢
    by_cases k2 : v.h.k = 2
    · rw [if_pos k2]; exact iv_flat hn
    rw [if_neg k2] at h ⊢
    by_cases k3 : v.h.k = 3
    · rw [if_pos k3]; exact iv_flat iv_zero
    rw [if_neg k3] at h ⊢
    by_cases k4 : v.h.k = 4
    · rw [if_pos k4]; exact iv_flat iv_zero
    rw [if_neg k4] at h ⊢
    by_cases k5 : v.h.k = 5
    · rw [if_pos k5] at h ⊢
      by_cases h0 : (canL v.l).1 = 0
      · rw [if_pos h0]
        exact iv_v.2 ⟨iv_zero, fun x hx => hI h0 x (uniq_sub hx)⟩
      · rw [if_neg h0] at h; exact absurd h h0
    rw [if_neg k5] at h ⊢
    by_cases k6 : v.h.k = 6
    · rw [if_pos k6] at h ⊢
      by_cases hn' : v.ns.length = v.l.length
      · rw [if_pos hn'] at h ⊢
        by_cases h0 : (canL v.l).1 = 0
        · rw [if_pos h0] at h ⊢
          unfold recC at h ⊢
          by_cases hd : v.ns.Nodup
          · rw [if_pos hd]
            refine iv_v.2 ⟨iv_zero, fun x hx => ?_⟩
            obtain ⟨p, hp, rfl⟩ := List.mem_map.1 hx
            exact hI h0 _ (mem_zip_snd (uniq_sub hp))
          · rw [if_neg hd] at h; simp at h
        · rw [if_neg h0] at h; exact absurd h h0
      · rw [if_neg hn'] at h; simp at h
    · rw [if_neg k6] at h; simp at h
/-- What must be: values that are as they must be. -/
def Must (c : V) : Prop := canD c = (0, c) ∧ Iv c
theorem must_cn {c : V} (h : Must c) : Cn c := by
  have h0 : (canD c).1 = 0 := by rw [h.1]
  have h1 := (canD_ok h0).1
  have h2 := can_cn (v := c) (by rw [← h1]; exact h0)
  rw [← h1, h.1] at h2
  exact h2
theorem must_can {x : V} (h : (canD x).1 = 0) (hi : Iv x) : Must (canD x).2 := by
  refine ⟨canD_twice h, ?_⟩
  have e := (canD_ok h).1
  rw [e] at h ⊢
  exact iv_can_n (dep x) x (Nat.le_refl _) h hi
def DecP (l : List UInt8) (w : World) (e : Ending) (w' : World) : Prop := Low w w' ∧
  ((∃ (x : V) (ai : Option Addr) (ci : Nat) (an : Option Addr) (cn : Nat), (Must x ∧ l = lay x ∧ ∀ c, Must c → l = lay c → x = c) ∧ e = .returned (.tuple #[.agg #[.int .i64 x.h.k, .bool x.h.b, .int .i64 x.h.n, .string x.h.s, .string x.h.t, .string x.h.i, .slice ai x.l.length ci, .slice an x.ns.length cn], .int .i64 0]) ∧ Rep (fun b => w.heap.size ≤ b) w' x (.slice ai x.l.length ci) (.slice an x.ns.length cn)) ∨
    ((¬ ∃ c, Must c ∧ l = lay c) ∧ e = .returned (.tuple #[.agg #[.int .i64 0, .bool false, .int .i64 0, .string ⟨#[]⟩, .string ⟨#[]⟩, .string ⟨#[]⟩, .slice none 0 0, .slice none 0 0], .int .i64 10])))
set_option maxHeartbeats 4000000 in
set_option maxRecDepth 100000 in
theorem dec_any (l : List UInt8) (hlen : l.length ≤ 65536) (n : Nat) (hn : l.length = n) (w : World) (ao : Option Addr) (cap : Nat) (h : BytesAt w.heap.size w l ao cap)
    (hv : ∀ rb W, RdAt w.heap.size W rb l false → w.heap.size ≤ W.heap.size → Calls Try.prog 27 #[.pointer (some ⟨rb, 0, none⟩)] W (VP w.heap.size rb l false W)) :
    Calls Try.prog 14 #[.slice ao n cap] w (DecP l w) := by
  have rn := rd_new h (w.alloc (.cells #[.int .i64 0, .bool false, .int .i64 0, .string ⟨#[]⟩, .string ⟨#[]⟩, .string ⟨#[]⟩, .slice none 0 0, .slice none 0 0] 29)) (Low.alloc (Low.refl w) _)
  rw [show (w.alloc (.cells #[.int .i64 0, .bool false, .int .i64 0, .string ⟨#[]⟩, .string ⟨#[]⟩, .string ⟨#[]⟩, .slice none 0 0, .slice none 0 0] 29)).heap.size = w.heap.size + 1 by simp, hn] at rn
  have HV := Lib.hid (hv _ _ rn (by simp; omega))
  have H := Lib.hid h
  have zl : (n : Int) ≤ 65536 := by omega
  have HN := Lib.hid hn
  have HL := Lib.hid hlen
  clear h rn hv hn hlen
  go_enter Try.func14, Try.ntmps14
  go_wp2_with fail
  refine HV.out.mono ?_
  rintro e w1 ⟨x, ai, ci, an, cn, l', sh', rfl, hrep, T1, ⟨hsm, hiv⟩, ⟨q1, q2, -⟩, strong⟩
  have s1 : w.heap.size + 2 ≤ w1.heap.size := by have := T1.2.2.2.1; simp at this; omega
  have KA : Hid (KeptBut (w.alloc (.cells #[.int .i64 0, .bool false, .int .i64 0, .string ⟨#[]⟩, .string ⟨#[]⟩, .string ⟨#[]⟩, .slice none 0 0, .slice none 0 0] 29)) w1 (some (w.heap.size + 1))) := Lib.hid ((KeptBut.of_low (Low.alloc (Low.refl _) _)).trans T1.2)
  have LA : Hid (Low w w1) := Lib.hid ((Low.alloc (Low.refl w) _).kept KA.out fun g hg => by simp at hg; omega)
  have NB := Lib.hid (kept_new (rb := w.heap.size + 1) (w := w) (w' := w1) KA.out (by omega))
  have HR : Hid (Rep (fun b => w.heap.size < b) w1 x (.slice ai x.l.length ci) (.slice an x.ns.length cn)) := Lib.hid (Rep.to (fun b ha _ => ⟨by simp at ha; omega, rfl⟩) _ hrep)
  have hvb : vb x ≤ 1099511627776 := by have := HL.out; omega
  have EX := Lib.hid (fun W (hr : R W x (.slice ai x.l.length ci) (.slice an x.ns.length cn)) => enc_c x W _ _ hr hsm hvb)
  unfold av EncPost at EX
  obtain ⟨bs, hbs⟩ : ∃ bs, bs = (encD x).2 := ⟨_, rfl⟩
  obtain ⟨er, her⟩ : ∃ er, er = (encD x).1 := ⟨_, rfl⟩
  rw [← hbs, ← her] at EX
  have ST := Lib.hid strong
  have HIV := Lib.hid hiv
  have HB := Lib.hid hbs
  have HE := Lib.hid her
  clear T1 hrep hsm hiv strong q1 q2 hvb hbs her
  have key : (er = 0 ∧ bs = l) ↔ ∃ c, Must c ∧ l = lay c := by
    constructor
    · rintro ⟨e1, e2⟩
      have h0 : (canD x).1 = 0 := by
        by_cases hc : (canD x).1 = 0
        · exact hc
        · have q := encD_bad hc
          rw [HE.out, q] at e1
          exact absurd e1 hc
      have h1 : ¬ 65536 < (lay (canD x).2).length := fun hc => by
        have q := encD_long h0 hc
        rw [HE.out, q] at e1
        exact absurd e1 (by decide)
      refine ⟨(canD x).2, must_can h0 HIV.out, ?_⟩
      rw [← e2, HB.out, encD_ok h0 h1]
    · rintro ⟨c, hm, hl⟩
      obtain ⟨hx, -, -⟩ := ST.out c [] (by rw [List.append_nil]; exact hl) (must_cn hm) hm.2
      have h0 : (canD x).1 = 0 := by rw [hx, hm.1]
      have h1 : (canD x).2 = c := by rw [hx, hm.1]
      have q := encD_ok h0 (by rw [h1, ← hl]; have := HL.out; omega)
      rw [h1, ← hl] at q
      exact ⟨by rw [HE.out, q], by rw [HB.out, q]⟩
  have KEY := Lib.hid key
  clear key
  by_cases her0 : er = 0
  · subst her0
    by_cases hbl : bs = l
    · have heq : ((⟨bs.toArray⟩ : ByteArray).toList == (⟨l.toArray⟩ : ByteArray).toList) = true := by rw [hbl]; simp
      have HEQ := Lib.hid heq
      have HBL := Lib.hid hbl
      clear heq hbl
      go_wp2_with (first
        | (go_at_call 18; refine (EX.out (w1.alloc (.cells #[.int .i64 x.h.k, .bool x.h.b, .int .i64 x.h.n, .string x.h.s, .string x.h.t, .string x.h.i, .slice ai x.l.length ci, .slice an x.ns.length cn] 29)) (HR.out.any.low (Low.alloc (Low.refl w1) _))).mono ?_; rintro e w2 ⟨ao2, cap2, rfl, O2, L2⟩; have LB := Low.trans (Low.alloc LA.out (.cells #[.int .i64 x.h.k, .bool x.h.b, .int .i64 x.h.n, .string x.h.s, .string x.h.t, .string x.h.i, .slice ai x.l.length ci, .slice an x.ns.length cn] 29)) L2; obtain ⟨⟨c0, c1, c2, c3, c4, c5, c6, c7⟩, fz⟩ := NB.out; have C0 := (Low.trans (Low.alloc (Low.refl w1) (.cells #[.int .i64 x.h.k, .bool x.h.b, .int .i64 x.h.n, .string x.h.s, .string x.h.t, .string x.h.i, .slice ai x.l.length ci, .slice an x.ns.length cn] 29)) L2); have g0 := C0.keep c0; have g1 := C0.keep c1; have g2 := C0.keep c2; have g3 := C0.keep c3; have g4 := C0.keep c4; have g5 := C0.keep c5; have g6 := C0.keep c6; have g7 := C0.keep c7; have y0 := (C0.frozen (p := ⟨w.heap.size, 0, none⟩) (show w.heap.size < w1.heap.size by omega)).trans (fz 0); have y1 := (C0.frozen (p := ⟨w.heap.size, 1, none⟩) (show w.heap.size < w1.heap.size by omega)).trans (fz 1); have y2 := (C0.frozen (p := ⟨w.heap.size, 2, none⟩) (show w.heap.size < w1.heap.size by omega)).trans (fz 2); have y3 := (C0.frozen (p := ⟨w.heap.size, 3, none⟩) (show w.heap.size < w1.heap.size by omega)).trans (fz 3); have y4 := (C0.frozen (p := ⟨w.heap.size, 4, none⟩) (show w.heap.size < w1.heap.size by omega)).trans (fz 4); have y5 := (C0.frozen (p := ⟨w.heap.size, 5, none⟩) (show w.heap.size < w1.heap.size by omega)).trans (fz 5); have y6 := (C0.frozen (p := ⟨w.heap.size, 6, none⟩) (show w.heap.size < w1.heap.size by omega)).trans (fz 6); have y7 := (C0.frozen (p := ⟨w.heap.size, 7, none⟩) (show w.heap.size < w1.heap.size by omega)).trans (fz 7); clear c0 c1 c2 c3 c4 c5 c6 c7; obtain ⟨b0, b1, b2, b3, b4, b5, b6, b7⟩ := othbox (Oth.of_low L2))
        | (go_at_call 28; refine (Try.bytes_Equal_strs _ _ ⟨bs.toArray⟩ ⟨l.toArray⟩ w2 (own_conv O2) (by have q := conv_bytes (H.out.to LB.2.2.2); rw [HN.out] at q; exact q)).mono ?_; rintro e w3 ⟨rfl, hw3⟩; subst hw3; rw [HEQ.out]))
      refine bodyPost_ret (v := .tuple #[.agg #[.int .i64 x.h.k, .bool x.h.b, .int .i64 x.h.n, .string x.h.s, .string x.h.t, .string x.h.i, .slice ai x.l.length ci, .slice an x.ns.length cn], .int .i64 0]) (by simp [results, Try.results14, go_sem, World.cell?_setCell_same', g0, g1, g2, g3, g4, g5, g6, g7]; try rfl) rfl ?_
      have k8 := kept8 w3 w.heap.size (.int .i64 x.h.k) (.bool x.h.b) (.int .i64 x.h.n) (.string x.h.s) (.string x.h.t) (.string x.h.i) (.slice ai x.l.length ci) (.slice an x.ns.length cn)
      obtain ⟨c, hm, hl⟩ := KEY.out.1 (by first | exact ⟨rfl, HBL.out⟩ | exact ⟨trivial, HBL.out⟩ | simpa using HBL.out)
      obtain ⟨hx, -, -⟩ := ST.out c [] (by rw [List.append_nil]; exact hl) (must_cn hm) hm.2
      refine ⟨LB.kept k8 fun g hg => by simp at hg; omega, .inl ⟨x, ai, ci, an, cn, ⟨by rw [hx]; exact hm, by rw [hx]; exact hl, fun c' hm' hl' => (ST.out c' [] (by rw [List.append_nil]; exact hl') (must_cn hm') hm'.2).1⟩, rfl, Rep.to (fun b ha hb => ⟨Nat.le_of_lt ha, ?_⟩) _ HR.out⟩⟩
      exact (k8.2.2.2 b (Nat.lt_of_lt_of_le hb C0.size) (by simp; omega)).trans (C0.2.2.2 b hb)
    · have heq : ((⟨bs.toArray⟩ : ByteArray).toList == (⟨l.toArray⟩ : ByteArray).toList) = false := by
        have hne : ¬ (⟨bs.toArray⟩ : ByteArray).toList = (⟨l.toArray⟩ : ByteArray).toList := fun e => hbl (by
          have q := congrArg (fun b : ByteArray => b.data.toList) (tl_inj.1 e)
          simpa using q)
        simpa using hne
      have HEQ := Lib.hid heq
      have HBL := Lib.hid hbl
      clear heq hbl
      go_wp2_with (first
        | (go_at_call 18; refine (EX.out (w1.alloc (.cells #[.int .i64 x.h.k, .bool x.h.b, .int .i64 x.h.n, .string x.h.s, .string x.h.t, .string x.h.i, .slice ai x.l.length ci, .slice an x.ns.length cn] 29)) (HR.out.any.low (Low.alloc (Low.refl w1) _))).mono ?_; rintro e w2 ⟨ao2, cap2, rfl, O2, L2⟩; have LB := Low.trans (Low.alloc LA.out (.cells #[.int .i64 x.h.k, .bool x.h.b, .int .i64 x.h.n, .string x.h.s, .string x.h.t, .string x.h.i, .slice ai x.l.length ci, .slice an x.ns.length cn] 29)) L2; obtain ⟨⟨c0, c1, c2, c3, c4, c5, c6, c7⟩, fz⟩ := NB.out; have C0 := (Low.trans (Low.alloc (Low.refl w1) (.cells #[.int .i64 x.h.k, .bool x.h.b, .int .i64 x.h.n, .string x.h.s, .string x.h.t, .string x.h.i, .slice ai x.l.length ci, .slice an x.ns.length cn] 29)) L2); have g0 := C0.keep c0; have g1 := C0.keep c1; have g2 := C0.keep c2; have g3 := C0.keep c3; have g4 := C0.keep c4; have g5 := C0.keep c5; have g6 := C0.keep c6; have g7 := C0.keep c7; have y0 := (C0.frozen (p := ⟨w.heap.size, 0, none⟩) (show w.heap.size < w1.heap.size by omega)).trans (fz 0); have y1 := (C0.frozen (p := ⟨w.heap.size, 1, none⟩) (show w.heap.size < w1.heap.size by omega)).trans (fz 1); have y2 := (C0.frozen (p := ⟨w.heap.size, 2, none⟩) (show w.heap.size < w1.heap.size by omega)).trans (fz 2); have y3 := (C0.frozen (p := ⟨w.heap.size, 3, none⟩) (show w.heap.size < w1.heap.size by omega)).trans (fz 3); have y4 := (C0.frozen (p := ⟨w.heap.size, 4, none⟩) (show w.heap.size < w1.heap.size by omega)).trans (fz 4); have y5 := (C0.frozen (p := ⟨w.heap.size, 5, none⟩) (show w.heap.size < w1.heap.size by omega)).trans (fz 5); have y6 := (C0.frozen (p := ⟨w.heap.size, 6, none⟩) (show w.heap.size < w1.heap.size by omega)).trans (fz 6); have y7 := (C0.frozen (p := ⟨w.heap.size, 7, none⟩) (show w.heap.size < w1.heap.size by omega)).trans (fz 7); clear c0 c1 c2 c3 c4 c5 c6 c7; obtain ⟨b0, b1, b2, b3, b4, b5, b6, b7⟩ := othbox (Oth.of_low L2))
        | (go_at_call 28; refine (Try.bytes_Equal_strs _ _ ⟨bs.toArray⟩ ⟨l.toArray⟩ w2 (own_conv O2) (by have q := conv_bytes (H.out.to LB.2.2.2); rw [HN.out] at q; exact q)).mono ?_; rintro e w3 ⟨rfl, hw3⟩; subst hw3; rw [HEQ.out]))
      refine bodyPost_ret (v := .tuple #[.agg #[.int .i64 0, .bool false, .int .i64 0, .string ⟨#[]⟩, .string ⟨#[]⟩, .string ⟨#[]⟩, .slice none 0 0, .slice none 0 0], .int .i64 10]) (by simp [results, Try.results14, go_sem, World.cell?_setCell_same', g0, g1, g2, g3, g4, g5, g6, g7]; try rfl) rfl ?_
      have k8 := kept8 w3 w.heap.size (.int .i64 0) (.bool false) (.int .i64 0) (.string ⟨#[]⟩) (.string ⟨#[]⟩) (.string ⟨#[]⟩) (.slice none 0 0) (.slice none 0 0)
      exact ⟨LB.kept k8 fun g hg => by simp at hg; omega, .inr ⟨fun hc => HBL.out (KEY.out.2 hc).2, rfl⟩⟩
  · have hb : (er == 0) = false := by simpa using her0
    have HE0 := Lib.hid her0
    clear her0
    go_wp2_with (first
      | (go_at_call 18; refine (EX.out (w1.alloc (.cells #[.int .i64 x.h.k, .bool x.h.b, .int .i64 x.h.n, .string x.h.s, .string x.h.t, .string x.h.i, .slice ai x.l.length ci, .slice an x.ns.length cn] 29)) (HR.out.any.low (Low.alloc (Low.refl w1) _))).mono ?_; rintro e w2 ⟨ao2, cap2, rfl, O2, L2⟩; have LB := Low.trans (Low.alloc LA.out (.cells #[.int .i64 x.h.k, .bool x.h.b, .int .i64 x.h.n, .string x.h.s, .string x.h.t, .string x.h.i, .slice ai x.l.length ci, .slice an x.ns.length cn] 29)) L2; obtain ⟨⟨c0, c1, c2, c3, c4, c5, c6, c7⟩, fz⟩ := NB.out; have C0 := (Low.trans (Low.alloc (Low.refl w1) (.cells #[.int .i64 x.h.k, .bool x.h.b, .int .i64 x.h.n, .string x.h.s, .string x.h.t, .string x.h.i, .slice ai x.l.length ci, .slice an x.ns.length cn] 29)) L2); have g0 := C0.keep c0; have g1 := C0.keep c1; have g2 := C0.keep c2; have g3 := C0.keep c3; have g4 := C0.keep c4; have g5 := C0.keep c5; have g6 := C0.keep c6; have g7 := C0.keep c7; have y0 := (C0.frozen (p := ⟨w.heap.size, 0, none⟩) (show w.heap.size < w1.heap.size by omega)).trans (fz 0); have y1 := (C0.frozen (p := ⟨w.heap.size, 1, none⟩) (show w.heap.size < w1.heap.size by omega)).trans (fz 1); have y2 := (C0.frozen (p := ⟨w.heap.size, 2, none⟩) (show w.heap.size < w1.heap.size by omega)).trans (fz 2); have y3 := (C0.frozen (p := ⟨w.heap.size, 3, none⟩) (show w.heap.size < w1.heap.size by omega)).trans (fz 3); have y4 := (C0.frozen (p := ⟨w.heap.size, 4, none⟩) (show w.heap.size < w1.heap.size by omega)).trans (fz 4); have y5 := (C0.frozen (p := ⟨w.heap.size, 5, none⟩) (show w.heap.size < w1.heap.size by omega)).trans (fz 5); have y6 := (C0.frozen (p := ⟨w.heap.size, 6, none⟩) (show w.heap.size < w1.heap.size by omega)).trans (fz 6); have y7 := (C0.frozen (p := ⟨w.heap.size, 7, none⟩) (show w.heap.size < w1.heap.size by omega)).trans (fz 7); clear c0 c1 c2 c3 c4 c5 c6 c7; obtain ⟨b0, b1, b2, b3, b4, b5, b6, b7⟩ := othbox (Oth.of_low L2)))
    refine bodyPost_ret (v := .tuple #[.agg #[.int .i64 0, .bool false, .int .i64 0, .string ⟨#[]⟩, .string ⟨#[]⟩, .string ⟨#[]⟩, .slice none 0 0, .slice none 0 0], .int .i64 10]) (by simp [results, Try.results14, go_sem, World.cell?_setCell_same', g0, g1, g2, g3, g4, g5, g6, g7]; try rfl) rfl ?_
    have k8 := kept8 w2 w.heap.size (.int .i64 0) (.bool false) (.int .i64 0) (.string ⟨#[]⟩) (.string ⟨#[]⟩) (.string ⟨#[]⟩) (.slice none 0 0) (.slice none 0 0)
    exact ⟨LB.kept k8 fun g hg => by simp at hg; omega, .inr ⟨fun hc => HE0.out (KEY.out.2 hc).1, rfl⟩⟩
end Go.Proofs.Ytbhlgajdoegboaa
