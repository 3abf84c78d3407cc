/- The reference's Decode of any bytes. Condition: no more than 65536 bytes. -/
import Derived.Test.YtbhlgajdoegboaaGets
import Derived.Test.YtbhlgajdoegboaaDecA
namespace Go.Proofs.Ytbhlgajdoegboaa
open Go.RowKit
theorem get_n (N : Nat) : ∀ (bs : List UInt8) (n : Nat) (p : Nat) (sh : Bool) (B : Nat) (w : World) (ao : Option Addr) (cap : Nat) (_ : RdC ao n cap bs B w) (l : List UInt8) (_ : p ≤ n ∧ l = lf bs p sh) (_ : l.length ≤ 65536) (deep : Nat) (_ : 51 - deep ≤ N),
    Calls Try.prog 29 #[.agg #[.slice ao n cap, .int .i64 p, .bool sh], .int .i64 deep] w (GeP ao n cap bs deep l sh w) := by
  induction N with
  | zero =>
    intro bs n p sh B w ao cap h l hp hl deep hN
    exact get_bad_d bs n p sh B w ao cap h l hp hl deep (by omega)
  | succ N ih =>
    intro bs n p sh B w ao cap h l hp hl deep hN
    by_cases hd : 50 < deep
    · exact get_bad_d bs n p sh B w ao cap h l hp hl deep hd
    have hd2 : deep ≤ 50 := by omega
    have ih2 : ∀ W, RdC ao n cap bs B W → ∀ p s l, (p ≤ n ∧ l = lf bs p s) → l.length ≤ 65536 → Calls Try.prog 29 #[.agg #[.slice ao n cap, .int .i64 p, .bool s], .int .i64 ((deep : Int) + 1)] W (GeP ao n cap bs (deep + 1) l s W) := fun W hW p s l hp hl => by
      have q := ih bs n p s B W ao cap hW l hp hl (deep + 1) (by omega)
      rw [Int.natCast_add] at q
      exact q
    by_cases k0 : ofB (tkB 1 l) = 0
    · exact get_bad_0 bs n p sh B w ao cap h l hp hl deep hd2 k0
    by_cases k1 : ofB (tkB 1 l) = 1
    · exact get_1 bs n p sh B w ao cap h l hp hl deep hd2 k1
    by_cases k2 : ofB (tkB 1 l) = 2
    · exact get_2 bs n p sh B w ao cap h l hp hl deep hd2 k2
    by_cases k3 : ofB (tkB 1 l) = 3
    · exact get_3 bs n p sh B w ao cap h l hp hl deep hd2 k3
    by_cases k4 : ofB (tkB 1 l) = 4
    · exact get_4 bs n p sh B w ao cap h l hp hl deep hd2 k4
    by_cases k5 : ofB (tkB 1 l) = 5
    · exact get_5 bs n p sh B w ao cap h l hp hl deep hd2 k5 ih2
    by_cases k6 : ofB (tkB 1 l) = 6
    · exact get_6 bs n p sh B w ao cap h l hp hl deep hd2 k6 ih2
    · exact get_bad_6 bs n p sh B w ao cap h l hp hl deep hd2 (by omega)
theorem dep_vb_n (n : Nat) : ∀ v : V, dep v ≤ n → 8 * dep v ≤ vb v := by
  induction n with
  | zero => intro v h; rw [dep_v] at h; omega
  | succ n ih =>
    intro v hd
    have key : ∀ l : List V, (∀ x ∈ l, 8 * dep x ≤ vb x) → 8 * depL l ≤ vbL l := by
      intro l
      induction l with
      | nil => intro _; rw [depL, vbL]; omega
      | cons x l ihl =>
        intro h
        have h1 := h x (by simp)
        have h2 := ihl fun y hy => h y (by simp [hy])
        rw [depL, vbL]
        omega
    have h1 := key v.l fun x hx => ih x (by have := dep_mem hx; rw [dep_v] at hd; omega)
    have h2 : vb v = 8 + v.h.s.size + v.h.t.size + v.h.i.size + vbL v.l + nbL v.ns := by cases v; rw [vb]; rfl
    rw [dep_v]
    omega
theorem must_dp {c : V} (h : Must c) : Dp 1 c := by
  have h0 : (canD c).1 = 0 := by rw [h.1]
  unfold Dp
  by_cases hd : 50 < dpt c
  · rw [canD, if_pos hd] at h0
    exact absurd h0 (by decide)
  · omega
theorem dec_key {l : List UInt8} {x : V} (hlen : l.length ≤ 65536) (hiv : Iv x) (ST : ∀ c, Must c → l = lay c → x = c) : ((encD x).1 = 0 ∧ (encD x).2 = l) ↔ ∃ c, Must c ∧ l = lay c := by
  constructor
  · rintro ⟨e1, e2⟩
    have h0 : (canD x).1 = 0 := by
      by_cases hc : (canD x).1 = 0
      · exact hc
      · have q := encD_bad hc
        rw [q] at e1
        exact absurd e1 hc
    have h1 : ¬ 65536 < (lay (canD x).2).length := fun hc => by
      have q := encD_long h0 hc
      rw [q] at e1
      exact absurd e1 (by decide)
    refine ⟨(canD x).2, must_can h0 hiv, ?_⟩
    rw [← e2, encD_ok h0 h1]
  · rintro ⟨c, hm, hl⟩
    have hx := ST c hm hl
    have h0 : (canD x).1 = 0 := by rw [hx, hm.1]
    have h1 : (canD x).2 = c := by rw [hx, hm.1]
    have q := encD_ok h0 (by rw [h1, ← hl]; omega)
    rw [h1, ← hl] at q
    exact ⟨by rw [q], by rw [q]⟩
set_option maxHeartbeats 4000000 in
set_option maxRecDepth 100000 in
theorem rdec_c (l : List UInt8) (hlen : l.length ≤ 65536) (n : Nat) (hn : l.length = n) (w : World) (ao : Option Addr) (cap : Nat) (h : BytesAt w.heap.size w l ao cap) :
    Calls Try.prog 15 #[.slice ao n cap] w (DecP l w) := by
  have GC : Hid (∀ W, Low w W → Calls Try.prog 29 #[.agg #[.slice ao n cap, .int .i64 0, .bool false], .int .i64 1] W (GeP ao n cap l 1 l false W)) := Lib.hid fun W hW => get_n 51 l n 0 false w.heap.size W ao cap ⟨h.to fun b hb => hW.2.2.2 b hb, hW.size, hn⟩ l ⟨Nat.zero_le _, rfl⟩ hlen 1 (by omega)
  have H := Lib.hid h
  have zl : ¬ (65536 : Int) < (n : Int) := by omega
  have HN := Lib.hid hn
  have HL := Lib.hid hlen
  have N0 := Lib.hid (fun w' (k : Low (w.alloc (.cells #[.int .i64 0, .bool false, .int .i64 0, .string ⟨#[]⟩, .string ⟨#[]⟩, .string ⟨#[]⟩, .slice none 0 0, .slice none 0 0] 29)) w') => kept_new (rb := w.heap.size + 1) (KeptBut.of_low k) (by omega))
  clear h hn hlen
  go_enter Try.func15, Try.ntmps15
  go_wp2_with fail
  refine (GC.out _ ?hL).mono ?_
  case hL => exact Low.alloc (Low.refl w) _
  rintro e w1 ⟨x, ai, ci, an, cn, p', l', sh', rfl, ⟨gp1, gp2⟩, hrep, L1, ⟨⟨hsm, hiv⟩, ⟨q1, q2, -⟩, strong⟩⟩
  have s1 : w.heap.size < w1.heap.size := by have := L1.size; simp at this; omega
  have LA := Lib.hid ((Low.alloc (Low.refl w) _).trans L1)
  have HR : Hid (Rep (fun b => w.heap.size < b) w1 x (.slice ai x.l.length ci) (.slice an x.ns.length cn)) := Lib.hid (Rep.to (fun b ha _ => ⟨by simp at ha; omega, rfl⟩) _ hrep)
  obtain ⟨⟨c0, c1, c2, c3, c4, c5, c6, c7⟩, fz⟩ := N0.out w1 L1
  have ST : Hid (∀ c, Must c → l = lay c → x = c ∧ sh' = false) := Lib.hid fun c hm hl => by
    obtain ⟨a1, -, a3⟩ := strong rfl c [] (by rw [List.append_nil]; exact hl) (must_dp hm) (must_cn hm) hm.2
    exact ⟨a1, a3⟩
  have hvb : vb x ≤ 1310728 := by have := HL.out; omega
  have hdp : dep x ≤ 1000000 := by have := dep_vb_n (dep x) x (Nat.le_refl _); omega
  cases sh' with
  | true =>
    have NO : Hid (¬ ∃ c, Must c ∧ l = lay c) := Lib.hid fun ⟨c, hm, hl⟩ => by have := (ST.out c hm hl).2; simp at this
    clear gp1 gp2 hrep L1 hsm hiv q1 q2 strong hvb hdp
    go_wp2_with fail
    refine bodyPost_ret (v := .tuple #[.agg #[.int .i64 0, .bool false, .int .i64 0, .string ⟨#[]⟩, .string ⟨#[]⟩, .string ⟨#[]⟩, .slice none 0 0, .slice none 0 0], .int .i64 10]) (by simp [results, Try.results15, go_sem, World.cell?_setCell_same', s1, c0, c1, c2, c3, c4, c5, c6, c7]; try rfl) rfl ?_
    refine ⟨?_, .inr ⟨NO.out, rfl⟩⟩
    repeat (first | with_reducible exact LA.out | with_reducible refine low_drew ?_ | with_reducible refine low_set0 ?_ | with_reducible refine Low.alloc ?_ _)
  | false =>
    have EX := Lib.hid (fun W (hr : R W x (.slice ai x.l.length ci) (.slice an x.ns.length cn)) => rEnc_c x W _ _ hr hsm hdp (by omega))
    unfold av EncPost at EX
    have KEY := Lib.hid (dec_key HL.out hiv (fun c hm hl => (ST.out c hm hl).1))
    obtain ⟨bs, hbs⟩ : ∃ bs, bs = (encD x).2 := ⟨_, rfl⟩
    obtain ⟨er, her⟩ : ∃ er, er = (encD x).1 := ⟨_, rfl⟩
    rw [← hbs, ← her] at EX KEY
    clear gp1 gp2 hrep L1 hsm hiv q1 q2 strong hvb hdp hbs her
    by_cases her0 : er = 0
    · subst her0
      by_cases hbl : bs = l
      · have hq : (bs == l) = true := by simpa using hbl
        have HBL := Lib.hid hbl
        clear hbl
        go_wp2_with (first
          | (go_at_call 17; refine (EX.out _ (HR.out.any.low (Low.alloc (Low.alloc (Low.refl w1) (.cells #[.slice ao n cap, .int .i64 p', .bool false] 56)) (.cells #[.int .i64 x.h.k, .bool x.h.b, .int .i64 x.h.n, .string x.h.s, .string x.h.t, .string x.h.i, .slice ai x.l.length ci, .slice an x.ns.length cn] 29)))).mono ?_; rintro e w2 ⟨ao2, cap2, rfl, O2, L2⟩; have LB := Lib.hid ((Low.alloc (Low.alloc LA.out (.cells #[.slice ao n cap, .int .i64 p', .bool false] 56)) (.cells #[.int .i64 x.h.k, .bool x.h.b, .int .i64 x.h.n, .string x.h.s, .string x.h.t, .string x.h.i, .slice ai x.l.length ci, .slice an x.ns.length cn] 29)).trans L2); have L12 := Lib.hid ((Low.alloc (Low.alloc (Low.refl w1) (.cells #[.slice ao n cap, .int .i64 p', .bool false] 56)) (.cells #[.int .i64 x.h.k, .bool x.h.b, .int .i64 x.h.n, .string x.h.s, .string x.h.t, .string x.h.i, .slice ai x.l.length ci, .slice an x.ns.length cn] 29)).trans L2); have cv1 := own_conv O2; have cv2 := (show (convert 38 9 (.slice ao n cap)).run Try.prog w2 = .ok (.string ⟨l.toArray⟩) w2 from (by have q := conv_bytes (H.out.to LB.out.2.2.2); rw [HN.out] at q; exact q)); have s2 : w1.heap.size + 1 < w2.heap.size := (by have := L2.size; simp at this; omega); have zz := low_box L2; simp only [World.size_alloc] at zz; obtain ⟨z0, z1, z2, z3, z4, z5, z6, z7⟩ := zz; have g0 := L12.out.keep c0; have g1 := L12.out.keep c1; have g2 := L12.out.keep c2; have g3 := L12.out.keep c3; have g4 := L12.out.keep c4; have g5 := L12.out.keep c5; have g6 := L12.out.keep c6; have g7 := L12.out.keep c7; have fy : ∀ o, w2.frozen? ⟨w.heap.size, o, none⟩ = false := (fun o => (L12.out.frozen (p := ⟨w.heap.size, o, none⟩) s1).trans (fz o)); clear O2 L2 c0 c1 c2 c3 c4 c5 c6 c7 fz))
        refine bodyPost_ret (v := .tuple #[.agg #[.int .i64 x.h.k, .bool x.h.b, .int .i64 x.h.n, .string x.h.s, .string x.h.t, .string x.h.i, .slice ai x.l.length ci, .slice an x.ns.length cn], .int .i64 0]) (by simp [results, Try.results15, go_sem, World.cell?_setCell_same', g0, g1, g2, g3, g4, g5, g6, g7]; try rfl) rfl ?_
        obtain ⟨c, hm, hl⟩ := KEY.out.1 (by first | exact ⟨rfl, HBL.out⟩ | exact ⟨trivial, HBL.out⟩ | simpa using HBL.out)
        have hx : x = c := (ST.out c hm hl).1
        refine ⟨?_, .inl ⟨x, ai, ci, an, cn, ⟨by rw [hx]; exact hm, by rw [hx]; exact hl, fun c' hm' hl' => (ST.out c' hm' hl').1⟩, rfl, Rep.to (fun b ha hb => ⟨Nat.le_of_lt ha, ?_⟩) _ HR.out⟩⟩
        · repeat (first | with_reducible exact LB.out | with_reducible refine low_drew ?_ | with_reducible refine low_set0 ?_ | with_reducible refine Low.alloc ?_ _)
        · have k8 := kept8 w2 w.heap.size (.int .i64 x.h.k) (.bool x.h.b) (.int .i64 x.h.n) (.string x.h.s) (.string x.h.t) (.string x.h.i) (.slice ai x.l.length ci) (.slice an x.ns.length cn)
          exact (k8.2.2.2 b (Nat.lt_of_lt_of_le hb L12.out.size) (by simp; omega)).trans (L12.out.2.2.2 b hb)
      · have hq : (bs == l) = false := by simpa using hbl
        have HBL := Lib.hid hbl
        clear hbl
        go_wp2_with (first
          | (go_at_call 17; refine (EX.out _ (HR.out.any.low (Low.alloc (Low.alloc (Low.refl w1) (.cells #[.slice ao n cap, .int .i64 p', .bool false] 56)) (.cells #[.int .i64 x.h.k, .bool x.h.b, .int .i64 x.h.n, .string x.h.s, .string x.h.t, .string x.h.i, .slice ai x.l.length ci, .slice an x.ns.length cn] 29)))).mono ?_; rintro e w2 ⟨ao2, cap2, rfl, O2, L2⟩; have LB := Lib.hid ((Low.alloc (Low.alloc LA.out (.cells #[.slice ao n cap, .int .i64 p', .bool false] 56)) (.cells #[.int .i64 x.h.k, .bool x.h.b, .int .i64 x.h.n, .string x.h.s, .string x.h.t, .string x.h.i, .slice ai x.l.length ci, .slice an x.ns.length cn] 29)).trans L2); have L12 := Lib.hid ((Low.alloc (Low.alloc (Low.refl w1) (.cells #[.slice ao n cap, .int .i64 p', .bool false] 56)) (.cells #[.int .i64 x.h.k, .bool x.h.b, .int .i64 x.h.n, .string x.h.s, .string x.h.t, .string x.h.i, .slice ai x.l.length ci, .slice an x.ns.length cn] 29)).trans L2); have cv1 := own_conv O2; have cv2 := (show (convert 38 9 (.slice ao n cap)).run Try.prog w2 = .ok (.string ⟨l.toArray⟩) w2 from (by have q := conv_bytes (H.out.to LB.out.2.2.2); rw [HN.out] at q; exact q)); have s2 : w1.heap.size + 1 < w2.heap.size := (by have := L2.size; simp at this; omega); have zz := low_box L2; simp only [World.size_alloc] at zz; obtain ⟨z0, z1, z2, z3, z4, z5, z6, z7⟩ := zz; have g0 := L12.out.keep c0; have g1 := L12.out.keep c1; have g2 := L12.out.keep c2; have g3 := L12.out.keep c3; have g4 := L12.out.keep c4; have g5 := L12.out.keep c5; have g6 := L12.out.keep c6; have g7 := L12.out.keep c7; have fy : ∀ o, w2.frozen? ⟨w.heap.size, o, none⟩ = false := (fun o => (L12.out.frozen (p := ⟨w.heap.size, o, none⟩) s1).trans (fz o)); clear O2 L2 c0 c1 c2 c3 c4 c5 c6 c7 fz))
        refine bodyPost_ret (v := .tuple #[.agg #[.int .i64 0, .bool false, .int .i64 0, .string ⟨#[]⟩, .string ⟨#[]⟩, .string ⟨#[]⟩, .slice none 0 0, .slice none 0 0], .int .i64 10]) (by simp [results, Try.results15, go_sem, World.cell?_setCell_same', g0, g1, g2, g3, g4, g5, g6, g7]; try rfl) rfl ?_
        exact ⟨by repeat (first | with_reducible exact LB.out | with_reducible refine low_drew ?_ | with_reducible refine low_set0 ?_ | with_reducible refine Low.alloc ?_ _), .inr ⟨fun hc => HBL.out (KEY.out.2 hc).2, rfl⟩⟩
    · have hb : (er == 0) = false := by simpa using her0
      have hb2 : (er != 0) = true := by simpa using her0
      have HE0 := Lib.hid her0
      clear her0
      go_wp2_with (first
          | (go_at_call 17; refine (EX.out _ (HR.out.any.low (Low.alloc (Low.alloc (Low.refl w1) (.cells #[.slice ao n cap, .int .i64 p', .bool false] 56)) (.cells #[.int .i64 x.h.k, .bool x.h.b, .int .i64 x.h.n, .string x.h.s, .string x.h.t, .string x.h.i, .slice ai x.l.length ci, .slice an x.ns.length cn] 29)))).mono ?_; rintro e w2 ⟨ao2, cap2, rfl, O2, L2⟩; have LB := Lib.hid ((Low.alloc (Low.alloc LA.out (.cells #[.slice ao n cap, .int .i64 p', .bool false] 56)) (.cells #[.int .i64 x.h.k, .bool x.h.b, .int .i64 x.h.n, .string x.h.s, .string x.h.t, .string x.h.i, .slice ai x.l.length ci, .slice an x.ns.length cn] 29)).trans L2); have L12 := Lib.hid ((Low.alloc (Low.alloc (Low.refl w1) (.cells #[.slice ao n cap, .int .i64 p', .bool false] 56)) (.cells #[.int .i64 x.h.k, .bool x.h.b, .int .i64 x.h.n, .string x.h.s, .string x.h.t, .string x.h.i, .slice ai x.l.length ci, .slice an x.ns.length cn] 29)).trans L2); have cv1 := own_conv O2; have cv2 := (show (convert 38 9 (.slice ao n cap)).run Try.prog w2 = .ok (.string ⟨l.toArray⟩) w2 from (by have q := conv_bytes (H.out.to LB.out.2.2.2); rw [HN.out] at q; exact q)); have s2 : w1.heap.size + 1 < w2.heap.size := (by have := L2.size; simp at this; omega); have zz := low_box L2; simp only [World.size_alloc] at zz; obtain ⟨z0, z1, z2, z3, z4, z5, z6, z7⟩ := zz; have g0 := L12.out.keep c0; have g1 := L12.out.keep c1; have g2 := L12.out.keep c2; have g3 := L12.out.keep c3; have g4 := L12.out.keep c4; have g5 := L12.out.keep c5; have g6 := L12.out.keep c6; have g7 := L12.out.keep c7; have fy : ∀ o, w2.frozen? ⟨w.heap.size, o, none⟩ = false := (fun o => (L12.out.frozen (p := ⟨w.heap.size, o, none⟩) s1).trans (fz o)); clear O2 L2 c0 c1 c2 c3 c4 c5 c6 c7 fz))
      refine bodyPost_ret (v := .tuple #[.agg #[.int .i64 0, .bool false, .int .i64 0, .string ⟨#[]⟩, .string ⟨#[]⟩, .string ⟨#[]⟩, .slice none 0 0, .slice none 0 0], .int .i64 10]) (by simp [results, Try.results15, go_sem, World.cell?_setCell_same', g0, g1, g2, g3, g4, g5, g6, g7]; try rfl) rfl ?_
      exact ⟨by repeat (first | with_reducible exact LB.out | with_reducible refine low_drew ?_ | with_reducible refine low_set0 ?_ | with_reducible refine Low.alloc ?_ _), .inr ⟨fun hc => HE0.out (KEY.out.2 hc).1, rfl⟩⟩
end Go.Proofs.Ytbhlgajdoegboaa
