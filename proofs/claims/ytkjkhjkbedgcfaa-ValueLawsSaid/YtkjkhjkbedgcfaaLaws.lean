/- The order turns round, and goes over three; what is as it must be stays so; sets with the same members are the same. No condition. -/
import Derived.Test.YtkjkhjkbedgcfaaLawP
import Derived.Test.YtkjkhjkbedgcfaaFinds
namespace Go.Proofs.Ytkjkhjkbedgcfaa
open Go.RowKit Go.Sort
theorem row_new {w : World} {ps : List El} (hp : ∀ p ∈ ps, R w p.v p.it p.nm) (hn : ps.length ≤ 20) :
    R (w.alloc (.cells (ps.flatMap encV).toArray 27)) (sV (ps.map (·.v))) (.slice (some ⟨w.heap.size, 0, none⟩) ps.length ps.length) (.slice none 0 0) := by
  refine rep_v.2 ⟨⟨Nat.zero_le _, Nat.zero_le _, Nat.zero_le _⟩, names_nil _ _, some ⟨w.heap.size, 0, none⟩, ps.length, by simp [sV, V.l], ⟨by simp [sV, V.l], by omega⟩, .inr ⟨w.heap.size, 0, rfl, trivial, repF_of fun j hj => ?_⟩⟩
  have hj' : j < ps.length := by simpa [sV, V.l] using hj
  have he : (sV (ps.map (·.v))).l[j] = ps[j].v := by simp [sV, V.l]
  rw [he]
  refine ⟨ps[j].it, ps[j].nm, fun c u hu => ?_, (hp _ (List.getElem_mem hj')).low (Low.alloc (Low.refl w) _)⟩
  have hc : c < 8 := by have := (List.getElem?_eq_some_iff.1 hu).1; simpa [hdc] using this
  refine gr_cells (Gr.refl _) ?_
  have := flat_at encV_len ps j c hj' hc
  simp only [Nat.zero_add, List.getElem?_toArray]
  rw [this]
  exact hu
theorem low_boxN {w wr : World} {c0 c1 c2 c3 c4 c5 c6 c7 : Value} {t : TypeId} (n : Nat) (h : Low (w.alloc (.cells #[c0, c1, c2, c3, c4, c5, c6, c7] t)) wr) (hn : w.heap.size = n) :
    wr.cell? ⟨n, 0, none⟩ = some c0 ∧ wr.cell? ⟨n, 1, none⟩ = some c1 ∧ wr.cell? ⟨n, 2, none⟩ = some c2 ∧ wr.cell? ⟨n, 3, none⟩ = some c3 ∧ wr.cell? ⟨n, 4, none⟩ = some c4 ∧ wr.cell? ⟨n, 5, none⟩ = some c5 ∧ wr.cell? ⟨n, 6, none⟩ = some c6 ∧ wr.cell? ⟨n, 7, none⟩ = some c7 := by subst hn; exact low_box h
theorem low_boxB {w wr : World} {c0 c1 c2 c3 c4 c5 c6 c7 : Value} {t : TypeId} (n : Nat) (h : Low (w.alloc (.cells #[c0, c1, c2, c3, c4, c5, c6, c7] t)) wr) (hn : w.heap.size = n) :
    (∀ X, (wr.alloc X).cell? ⟨n, 0, none⟩ = some c0) ∧ (∀ X, (wr.alloc X).cell? ⟨n, 1, none⟩ = some c1) ∧ (∀ X, (wr.alloc X).cell? ⟨n, 2, none⟩ = some c2) ∧ (∀ X, (wr.alloc X).cell? ⟨n, 3, none⟩ = some c3) ∧ (∀ X, (wr.alloc X).cell? ⟨n, 4, none⟩ = some c4) ∧ (∀ X, (wr.alloc X).cell? ⟨n, 5, none⟩ = some c5) ∧ (∀ X, (wr.alloc X).cell? ⟨n, 6, none⟩ = some c6) ∧ (∀ X, (wr.alloc X).cell? ⟨n, 7, none⟩ = some c7) := by subst hn; exact low_boxA h
theorem calls_grown {P : Program} {f : FuncId} {args : Array Value} {w : World} {n : Nat} {os : Array Obj} {v : Value}
    (h : Calls P f args (grow (w.drewN n) os) fun e w' => e = .returned v ∧ Gr (grow (w.drewN n) os) w') : Calls P f args (grow (w.drewN n) os) fun e w'' => e = .returned v ∧ ∃ p : GrownBy, w'' = grow (w.drewN p.n) p.os := Calls.grown_of h
theorem row4 {w : World} {p q r s : El} (hp : R w p.v p.it p.nm) (hq : R w q.v q.it q.nm) (hr : R w r.v r.it r.nm) (hs : R w s.v s.it s.nm) (n : Nat) (hn : w.heap.size = n) :
    R (w.alloc (.cells (encV p ++ (encV q ++ (encV r ++ (encV s ++ [])))).toArray 27)) (sV [p.v, q.v, r.v, s.v]) (.slice (some ⟨n, 0, none⟩) 4 4) (.slice none 0 0) := by
  subst hn
  exact row_new (ps := [p, q, r, s]) (fun x hx => by simp only [List.mem_cons, List.not_mem_nil, or_false] at hx; rcases hx with rfl | rfl | rfl | rfl <;> assumption) (by simp)
theorem row3 {w : World} {p q r : El} (hp : R w p.v p.it p.nm) (hq : R w q.v q.it q.nm) (hr : R w r.v r.it r.nm) (n : Nat) (hn : w.heap.size = n) :
    R (w.alloc (.cells (encV p ++ (encV q ++ (encV r ++ []))).toArray 27)) (sV [p.v, q.v, r.v]) (.slice (some ⟨n, 0, none⟩) 3 3) (.slice none 0 0) := by
  subst hn
  exact row_new (ps := [p, q, r]) (fun x hx => by simp only [List.mem_cons, List.not_mem_nil, or_false] at hx; rcases hx with rfl | rfl | rfl <;> assumption) (by simp)
theorem mem4 {P : V → Prop} {p q r s : V} (hp : P p) (hq : P q) (hr : P r) (hs : P s) : ∀ x ∈ [p, q, r, s], P x := fun x hx => by
  simp only [List.mem_cons, List.not_mem_nil, or_false] at hx
  rcases hx with rfl | rfl | rfl | rfl <;> assumption
theorem mem3 {P : V → Prop} {p q r : V} (hp : P p) (hq : P q) (hr : P r) : ∀ x ∈ [p, q, r], P x := fun x hx => by
  simp only [List.mem_cons, List.not_mem_nil, or_false] at hx
  rcases hx with rfl | rfl | rfl <;> assumption
theorem sm_set {l : List V} (hn : l.length ≤ 20) (h : ∀ x ∈ l, Sm x) : Sm (sV l) := by
  rw [sm_v]
  exact ⟨hn, Nat.zero_le _, h⟩
theorem laws_neg {o : Int} (h : B1 o) : IntKind.i64.wrap (-(-o)) = o := by
  rcases h with rfl | rfl | rfl <;> decide
set_option maxHeartbeats 8000000 in
set_option maxRecDepth 100000 in
theorem valueLaws_v (a b c : V) (w : World) (ait anm bit bnm cit cnm : Value) (ha : R w a ait anm) (hb : R w b bit bnm) (hc : R w c cit cnm) :
    Calls Try.prog 5 #[av a.h ait anm, av b.h bit bnm, av c.h cit cnm] w fun e w' => e = .returned (.bool true) ∧ Low w w' := by
  obtain ⟨aai, aci, aan, acn, rfl, rfl⟩ := r_slices ha
  obtain ⟨bai, bci, ban, bcn, rfl, rfl⟩ := r_slices hb
  obtain ⟨cai, cci, can, ccn, rfl, rfl⟩ := r_slices hc
  have mixed : Try.prog.follows .mixedOrders = true := by kernel_rfl
  have L0 := Lib.hid (Low.alloc (Low.alloc (Low.alloc (Low.refl w) _) _) _ : Low w (((w.alloc (.cells #[.int .i64 a.h.k, .bool a.h.b, .int .i64 a.h.n, .string a.h.s, .string a.h.t, .string a.h.i, .slice aai a.l.length aci, .slice aan a.ns.length acn] 27)).alloc (.cells #[.int .i64 b.h.k, .bool b.h.b, .int .i64 b.h.n, .string b.h.s, .string b.h.t, .string b.h.i, .slice bai b.l.length bci, .slice ban b.ns.length bcn] 27)).alloc (.cells #[.int .i64 c.h.k, .bool c.h.b, .int .i64 c.h.n, .string c.h.s, .string c.h.t, .string c.h.i, .slice cai c.l.length cci, .slice can c.ns.length ccn] 27)))
  have Ra := Lib.hid (ha.low L0.out)
  have Rb := Lib.hid (hb.low L0.out)
  have Rc := Lib.hid (hc.low L0.out)
  have Ha0 := Lib.hid (Low.alloc (Low.alloc (Low.refl (w.alloc (.cells #[.int .i64 a.h.k, .bool a.h.b, .int .i64 a.h.n, .string a.h.s, .string a.h.t, .string a.h.i, .slice aai a.l.length aci, .slice aan a.ns.length acn] 27))) (.cells #[.int .i64 b.h.k, .bool b.h.b, .int .i64 b.h.n, .string b.h.s, .string b.h.t, .string b.h.i, .slice bai b.l.length bci, .slice ban b.ns.length bcn] 27)) (.cells #[.int .i64 c.h.k, .bool c.h.b, .int .i64 c.h.n, .string c.h.s, .string c.h.t, .string c.h.i, .slice cai c.l.length cci, .slice can c.ns.length ccn] 27))
  have Hb0 := Lib.hid (Low.alloc (Low.refl ((w.alloc (.cells #[.int .i64 a.h.k, .bool a.h.b, .int .i64 a.h.n, .string a.h.s, .string a.h.t, .string a.h.i, .slice aai a.l.length aci, .slice aan a.ns.length acn] 27)).alloc (.cells #[.int .i64 b.h.k, .bool b.h.b, .int .i64 b.h.n, .string b.h.s, .string b.h.t, .string b.h.i, .slice bai b.l.length bci, .slice ban b.ns.length bcn] 27))) (.cells #[.int .i64 c.h.k, .bool c.h.b, .int .i64 c.h.n, .string c.h.s, .string c.h.t, .string c.h.i, .slice cai c.l.length cci, .slice can c.ns.length ccn] 27))
  have Hc0 := Lib.hid (Low.refl (((w.alloc (.cells #[.int .i64 a.h.k, .bool a.h.b, .int .i64 a.h.n, .string a.h.s, .string a.h.t, .string a.h.i, .slice aai a.l.length aci, .slice aan a.ns.length acn] 27)).alloc (.cells #[.int .i64 b.h.k, .bool b.h.b, .int .i64 b.h.n, .string b.h.s, .string b.h.t, .string b.h.i, .slice bai b.l.length bci, .slice ban b.ns.length bcn] 27)).alloc (.cells #[.int .i64 c.h.k, .bool c.h.b, .int .i64 c.h.n, .string c.h.s, .string c.h.t, .string c.h.i, .slice cai c.l.length cci, .slice can c.ns.length ccn] 27)))
  clear ha hb hc
  unfold av
  go_enter Try.func5, Try.ntmps5
  go_wp2_with fail
  refine (awake_c _).mono ?_
  rintro e w1 ⟨rfl, l1⟩
  have Ha1 := Lib.hid (Ha0.out.trans l1)
  have Hb1 := Lib.hid (Hb0.out.trans l1)
  have Hc1 := Lib.hid (Hc0.out.trans l1)
  clear l1
  obtain ⟨ax0, ax1, ax2, ax3, ax4, ax5, ax6, ax7⟩ := low_boxN w.heap.size Ha1.out (by simp)
  go_wp2_with fail
  refine (few_c (dep a) a _ 0 _ _ _ (Nat.le_refl _) (Ra.out.low Hc1.out) (by decide) (by decide)).mono ?_
  rintro e w2 ⟨pa, rfl, hpa, g⟩
  have Ha2 := Lib.hid (Ha1.out.trans g.low)
  have Hb2 := Lib.hid (Hb1.out.trans g.low)
  have Hc2 := Lib.hid (Hc1.out.trans g.low)
  have Pa := Lib.hid hpa
  clear g hpa
  clear ax0 ax1 ax2 ax3 ax4 ax5 ax6 ax7
  obtain ⟨bx0, bx1, bx2, bx3, bx4, bx5, bx6, bx7⟩ := low_boxN (w.heap.size + 1) Hb2.out (by simp)
  go_wp2_with fail
  refine (few_c (dep b) b _ 0 _ _ _ (Nat.le_refl _) (Rb.out.low Hc2.out) (by decide) (by decide)).mono ?_
  rintro e w3 ⟨pb, rfl, hpb, g⟩
  have Ha3 := Lib.hid (Ha2.out.trans g.low)
  have Hb3 := Lib.hid (Hb2.out.trans g.low)
  have Hc3 := Lib.hid (Hc2.out.trans g.low)
  have Pb := Lib.hid hpb
  clear g hpb
  clear bx0 bx1 bx2 bx3 bx4 bx5 bx6 bx7
  obtain ⟨cx0, cx1, cx2, cx3, cx4, cx5, cx6, cx7⟩ := low_boxN (w.heap.size + 2) Hc3.out (by simp)
  go_wp2_with fail
  refine (few_c (dep c) c _ 0 _ _ _ (Nat.le_refl _) (Rc.out.low Hc3.out) (by decide) (by decide)).mono ?_
  rintro e w4 ⟨pc, rfl, hpc, g⟩
  have Ha4 := Lib.hid (Ha3.out.trans g.low)
  have Hb4 := Lib.hid (Hb3.out.trans g.low)
  have Hc4 := Lib.hid (Hc3.out.trans g.low)
  have Pc := Lib.hid hpc
  clear g hpc
  clear cx0 cx1 cx2 cx3 cx4 cx5 cx6 cx7
  rcases pa with _ | _
  · go_wp2_with fail
    go_ret
    exact ⟨rfl, L0.out.trans Hc4.out⟩
  rcases pb with _ | _
  · go_wp2_with fail
    go_ret
    exact ⟨rfl, L0.out.trans Hc4.out⟩
  rcases pc with _ | _
  · go_wp2_with fail
    go_ret
    exact ⟨rfl, L0.out.trans Hc4.out⟩
  obtain ⟨ax0, ax1, ax2, ax3, ax4, ax5, ax6, ax7⟩ := low_boxN w.heap.size Ha4.out (by simp)
  go_wp2_with fail
  refine (size_c (dep a) a _ _ _ _ (Nat.le_refl _) (Ra.out.low Hc4.out)).mono ?_
  rintro e w5 ⟨na, rfl, g⟩
  have Ha5 := Lib.hid (Ha4.out.trans g.low)
  have Hb5 := Lib.hid (Hb4.out.trans g.low)
  have Hc5 := Lib.hid (Hc4.out.trans g.low)
  clear g
  clear ax0 ax1 ax2 ax3 ax4 ax5 ax6 ax7
  by_cases hna : 300 < na
  · go_wp2_with fail
    go_ret
    exact ⟨rfl, L0.out.trans Hc5.out⟩
  obtain ⟨bx0, bx1, bx2, bx3, bx4, bx5, bx6, bx7⟩ := low_boxN (w.heap.size + 1) Hb5.out (by simp)
  go_wp2_with fail
  refine (size_c (dep b) b _ _ _ _ (Nat.le_refl _) (Rb.out.low Hc5.out)).mono ?_
  rintro e w6 ⟨nb, rfl, g⟩
  have Ha6 := Lib.hid (Ha5.out.trans g.low)
  have Hb6 := Lib.hid (Hb5.out.trans g.low)
  have Hc6 := Lib.hid (Hc5.out.trans g.low)
  clear g
  clear bx0 bx1 bx2 bx3 bx4 bx5 bx6 bx7
  by_cases hnb : 300 < nb
  · go_wp2_with fail
    go_ret
    exact ⟨rfl, L0.out.trans Hc6.out⟩
  obtain ⟨cx0, cx1, cx2, cx3, cx4, cx5, cx6, cx7⟩ := low_boxN (w.heap.size + 2) Hc6.out (by simp)
  go_wp2_with fail
  refine (size_c (dep c) c _ _ _ _ (Nat.le_refl _) (Rc.out.low Hc6.out)).mono ?_
  rintro e w7 ⟨nc, rfl, g⟩
  have Ha7 := Lib.hid (Ha6.out.trans g.low)
  have Hb7 := Lib.hid (Hb6.out.trans g.low)
  have Hc7 := Lib.hid (Hc6.out.trans g.low)
  clear g
  clear cx0 cx1 cx2 cx3 cx4 cx5 cx6 cx7
  by_cases hnc : 300 < nc
  · go_wp2_with fail
    go_ret
    exact ⟨rfl, L0.out.trans Hc7.out⟩
  have Sa := Lib.hid (Pa.out trivial).1
  have Sb := Lib.hid (Pb.out trivial).1
  have Sc := Lib.hid (Pc.out trivial).1
  clear Pa Pb Pc
  obtain ⟨ax0, ax1, ax2, ax3, ax4, ax5, ax6, ax7⟩ := low_boxN w.heap.size Ha7.out (by simp)
  obtain ⟨ek, k, hqk⟩ : ∃ x y, canD a = (x, y) := ⟨_, _, rfl⟩
  go_wp2_with fail
  have CA := Canon_c a _ _ _ (Ra.out.low Hc7.out) Sa.out
  rw [hqk] at CA
  change Calls _ _ _ _ (CanPost k ek _) at CA
  have Qk := Lib.hid hqk
  clear hqk
  refine CA.mono ?_
  rintro e w8 ⟨kai, kci, kan, kcn, rfl, hrep, g⟩
  have Ha8 := Lib.hid (Ha7.out.trans g)
  have Hb8 := Lib.hid (Hb7.out.trans g)
  have Hc8 := Lib.hid (Hc7.out.trans g)
  have Rk := Lib.hid hrep.any
  clear g hrep CA
  clear ax0 ax1 ax2 ax3 ax4 ax5 ax6 ax7
  obtain ⟨bx0, bx1, bx2, bx3, bx4, bx5, bx6, bx7⟩ := low_boxB (w.heap.size + 1) Hb8.out (by simp)
  obtain ⟨el, l, hql⟩ : ∃ x y, canD b = (x, y) := ⟨_, _, rfl⟩
  go_wp2_with fail
  have Ha9 := Lib.hid (Ha8.out.trans (Low.alloc (Low.refl w8) (.cells #[.int .i64 k.h.k, .bool k.h.b, .int .i64 k.h.n, .string k.h.s, .string k.h.t, .string k.h.i, .slice kai k.l.length kci, .slice kan k.ns.length kcn] 27)))
  have Hb9 := Lib.hid (Hb8.out.trans (Low.alloc (Low.refl w8) (.cells #[.int .i64 k.h.k, .bool k.h.b, .int .i64 k.h.n, .string k.h.s, .string k.h.t, .string k.h.i, .slice kai k.l.length kci, .slice kan k.ns.length kcn] 27)))
  have Hc9 := Lib.hid (Hc8.out.trans (Low.alloc (Low.refl w8) (.cells #[.int .i64 k.h.k, .bool k.h.b, .int .i64 k.h.n, .string k.h.s, .string k.h.t, .string k.h.i, .slice kai k.l.length kci, .slice kan k.ns.length kcn] 27)))
  have Hk9 := Lib.hid (Low.refl (w8.alloc (.cells #[.int .i64 k.h.k, .bool k.h.b, .int .i64 k.h.n, .string k.h.s, .string k.h.t, .string k.h.i, .slice kai k.l.length kci, .slice kan k.ns.length kcn] 27)))
  have Rk9 := Lib.hid (Rk.out.low (Low.alloc (Low.refl w8) (.cells #[.int .i64 k.h.k, .bool k.h.b, .int .i64 k.h.n, .string k.h.s, .string k.h.t, .string k.h.i, .slice kai k.l.length kci, .slice kan k.ns.length kcn] 27)))
  have CA := Canon_c b _ _ _ (Rb.out.low Hc9.out) Sb.out
  rw [hql] at CA
  change Calls _ _ _ _ (CanPost l el _) at CA
  have Ql := Lib.hid hql
  clear hql
  refine CA.mono ?_
  rintro e w9 ⟨lai, lci, lan, lcn, rfl, hrep, g⟩
  have Ha10 := Lib.hid (Ha9.out.trans g)
  have Hb10 := Lib.hid (Hb9.out.trans g)
  have Hc10 := Lib.hid (Hc9.out.trans g)
  have Hk10 := Lib.hid (Hk9.out.trans g)
  have Rl := Lib.hid hrep.any
  clear g hrep CA
  clear bx0 bx1 bx2 bx3 bx4 bx5 bx6 bx7
  obtain ⟨cx0, cx1, cx2, cx3, cx4, cx5, cx6, cx7⟩ := low_boxB (w.heap.size + 2) Hc10.out (by simp)
  obtain ⟨em, m, hqm⟩ : ∃ x y, canD c = (x, y) := ⟨_, _, rfl⟩
  go_wp2_with fail
  have Ha11 := Lib.hid (Ha10.out.trans (Low.alloc (Low.refl w9) (.cells #[.int .i64 l.h.k, .bool l.h.b, .int .i64 l.h.n, .string l.h.s, .string l.h.t, .string l.h.i, .slice lai l.l.length lci, .slice lan l.ns.length lcn] 27)))
  have Hb11 := Lib.hid (Hb10.out.trans (Low.alloc (Low.refl w9) (.cells #[.int .i64 l.h.k, .bool l.h.b, .int .i64 l.h.n, .string l.h.s, .string l.h.t, .string l.h.i, .slice lai l.l.length lci, .slice lan l.ns.length lcn] 27)))
  have Hc11 := Lib.hid (Hc10.out.trans (Low.alloc (Low.refl w9) (.cells #[.int .i64 l.h.k, .bool l.h.b, .int .i64 l.h.n, .string l.h.s, .string l.h.t, .string l.h.i, .slice lai l.l.length lci, .slice lan l.ns.length lcn] 27)))
  have Hk11 := Lib.hid (Hk10.out.trans (Low.alloc (Low.refl w9) (.cells #[.int .i64 l.h.k, .bool l.h.b, .int .i64 l.h.n, .string l.h.s, .string l.h.t, .string l.h.i, .slice lai l.l.length lci, .slice lan l.ns.length lcn] 27)))
  have Hl11 := Lib.hid (Low.refl (w9.alloc (.cells #[.int .i64 l.h.k, .bool l.h.b, .int .i64 l.h.n, .string l.h.s, .string l.h.t, .string l.h.i, .slice lai l.l.length lci, .slice lan l.ns.length lcn] 27)))
  have Rl11 := Lib.hid (Rl.out.low (Low.alloc (Low.refl w9) (.cells #[.int .i64 l.h.k, .bool l.h.b, .int .i64 l.h.n, .string l.h.s, .string l.h.t, .string l.h.i, .slice lai l.l.length lci, .slice lan l.ns.length lcn] 27)))
  have CA := Canon_c c _ _ _ (Rc.out.low Hc11.out) Sc.out
  rw [hqm] at CA
  change Calls _ _ _ _ (CanPost m em _) at CA
  have Qm := Lib.hid hqm
  clear hqm
  refine CA.mono ?_
  rintro e w10 ⟨mai, mci, man, mcn, rfl, hrep, g⟩
  have Ha12 := Lib.hid (Ha11.out.trans g)
  have Hb12 := Lib.hid (Hb11.out.trans g)
  have Hc12 := Lib.hid (Hc11.out.trans g)
  have Hk12 := Lib.hid (Hk11.out.trans g)
  have Hl12 := Lib.hid (Hl11.out.trans g)
  have Rm := Lib.hid hrep.any
  clear g hrep CA
  clear cx0 cx1 cx2 cx3 cx4 cx5 cx6 cx7
  by_cases hek : ek = 0
  case neg =>
    go_wp2_with fail
    go_ret
    exact ⟨rfl, L0.out.trans (Hc12.out.alloc _)⟩
  by_cases hel : el = 0
  case neg =>
    go_wp2_with fail
    go_ret
    exact ⟨rfl, L0.out.trans (Hc12.out.alloc _)⟩
  by_cases hem : em = 0
  case neg =>
    go_wp2_with fail
    go_ret
    exact ⟨rfl, L0.out.trans (Hc12.out.alloc _)⟩
  subst hek
  subst hel
  subst hem
  obtain ⟨WM, hWM⟩ : ∃ W, W = w10.alloc (.cells #[.int .i64 m.h.k, .bool m.h.b, .int .i64 m.h.n, .string m.h.s, .string m.h.t, .string m.h.i, .slice mai m.l.length mci, .slice man m.ns.length mcn] 27) := ⟨_, rfl⟩
  have lM : Low w10 WM := hWM ▸ Low.alloc (Low.refl w10) _
  have Ha13 := Lib.hid (Ha12.out.trans lM)
  have Hb13 := Lib.hid (Hb12.out.trans lM)
  have Hc13 := Lib.hid (Hc12.out.trans lM)
  have Hk13 := Lib.hid (Hk12.out.trans lM)
  have Hl13 := Lib.hid (Hl12.out.trans lM)
  have Hm13 : Hid (Low (w10.alloc (.cells #[.int .i64 m.h.k, .bool m.h.b, .int .i64 m.h.n, .string m.h.s, .string m.h.t, .string m.h.i, .slice mai m.l.length mci, .slice man m.ns.length mcn] 27)) WM) := Lib.hid (hWM ▸ Low.refl _)
  have QkR := Lib.hid ((Rk.out.low (Low.alloc (Low.refl w8) (.cells #[.int .i64 k.h.k, .bool k.h.b, .int .i64 k.h.n, .string k.h.s, .string k.h.t, .string k.h.i, .slice kai k.l.length kci, .slice kan k.ns.length kcn] 27))).low Hk13.out)
  have QlR := Lib.hid ((Rl.out.low (Low.alloc (Low.refl w9) (.cells #[.int .i64 l.h.k, .bool l.h.b, .int .i64 l.h.n, .string l.h.s, .string l.h.t, .string l.h.i, .slice lai l.l.length lci, .slice lan l.ns.length lcn] 27))).low Hl13.out)
  have QmR := Lib.hid ((Rm.out.low (Low.alloc (Low.refl w10) (.cells #[.int .i64 m.h.k, .bool m.h.b, .int .i64 m.h.n, .string m.h.s, .string m.h.t, .string m.h.i, .slice mai m.l.length mci, .slice man m.ns.length mcn] 27))).low Hm13.out)
  obtain ⟨kx0, kx1, kx2, kx3, kx4, kx5, kx6, kx7⟩ := low_boxN w8.heap.size Hk13.out (by simp)
  obtain ⟨lx0, lx1, lx2, lx3, lx4, lx5, lx6, lx7⟩ := low_boxN w9.heap.size Hl13.out (by simp)
  obtain ⟨mx0, mx1, mx2, mx3, mx4, mx5, mx6, mx7⟩ := low_boxN w10.heap.size Hm13.out (by simp)
  have up : ∀ (a : Addr) (u : Value), WM.cell? a = some u → ∀ n os, (grow (WM.drewN n) os).cell? a = some u := fun _ _ h n os => (Gr.grow (Gr.refl WM) n os).cell h
  have ku0 := up _ _ kx0
  have ku1 := up _ _ kx1
  have ku2 := up _ _ kx2
  have ku3 := up _ _ kx3
  have ku4 := up _ _ kx4
  have ku5 := up _ _ kx5
  have ku6 := up _ _ kx6
  have ku7 := up _ _ kx7
  have lu0 := up _ _ lx0
  have lu1 := up _ _ lx1
  have lu2 := up _ _ lx2
  have lu3 := up _ _ lx3
  have lu4 := up _ _ lx4
  have lu5 := up _ _ lx5
  have lu6 := up _ _ lx6
  have lu7 := up _ _ lx7
  have mu0 := up _ _ mx0
  have mu1 := up _ _ mx1
  have mu2 := up _ _ mx2
  have mu3 := up _ _ mx3
  have mu4 := up _ _ mx4
  have mu5 := up _ _ mx5
  have mu6 := up _ _ mx6
  have mu7 := up _ _ mx7
  have KW := fun n os => (Gr.grow (Gr.refl WM) n os).low
  have O1 := fun n os => calls_grown (order_c k l (grow (WM.drewN n) os) _ _ _ _ (QkR.out.low (KW n os)) (QlR.out.low (KW n os)))
  have O2 := fun n os => calls_grown (order_c l k (grow (WM.drewN n) os) _ _ _ _ (QlR.out.low (KW n os)) (QkR.out.low (KW n os)))
  have O3 := fun n os => calls_grown (order_c l m (grow (WM.drewN n) os) _ _ _ _ (QlR.out.low (KW n os)) (QmR.out.low (KW n os)))
  have O4 := fun n os => calls_grown (order_c k m (grow (WM.drewN n) os) _ _ _ _ (QkR.out.low (KW n os)) (QmR.out.low (KW n os)))
  have OA := fun W (h : Gr WM W) n os => calls_grown (order_c k l (grow (W.drewN n) os) _ _ _ _ (QkR.out.low (Gr.grow h n os).low) (QlR.out.low (Gr.grow h n os).low))
  have OW := fun W (h : Gr WM W) n os => calls_grown (whole_c k l (grow (W.drewN n) os) _ _ _ _ (QkR.out.low (Gr.grow h n os).low) (QlR.out.low (Gr.grow h n os).low))
  have cnk : Cn k := by have h := canD_cn (v := a) (by rw [Qk.out]); rwa [Qk.out] at h
  have cnl : Cn l := by have h := canD_cn (v := b) (by rw [Ql.out]); rwa [Ql.out] at h
  have h3 : ord k l ≤ 0 → ord l m ≤ 0 → ord k m ≤ 0 := ord_over
  have hb1 := b1_ord k l
  simp only [ord_turn k l] at O2
  simp only [ord_eqB cnk cnl] at OW
  generalize ord k l = o1 at *
  generalize ord l m = o3 at *
  generalize ord k m = o4 at *
  unfold av at O1 O2 O3 O4 OA OW
  have VO1 := Lib.hid O1
  have VO2 := Lib.hid O2
  have VO3 := Lib.hid O3
  have VO4 := Lib.hid O4
  have VOA := Lib.hid OA
  have VOW := Lib.hid OW
  have KH := Lib.hid KW
  have H3 := Lib.hid h3
  clear O1 O2 O3 O4 OA OW KW up h3 lM cnk cnl
  clear kx0 kx1 kx2 kx3 kx4 kx5 kx6 kx7 lx0 lx1 lx2 lx3 lx4 lx5 lx6 lx7 mx0 mx1 mx2 mx3 mx4 mx5 mx6 mx7
  have SK := Lib.hid (by have h := canD_sm (v := a) (by rw [Qk.out]) Sa.out; rwa [Qk.out] at h : Sm k)
  have TK := Lib.hid (by have h := canD_twice (v := a) (by rw [Qk.out]); rwa [Qk.out] at h : canD k = (0, k))
  obtain ⟨hs1, hs2⟩ := canD_sets (l := [a, b, c, a]) (m := [c, a, b]) (mem4 (by rw [Qk.out]) (by rw [Ql.out]) (by rw [Qm.out]) (by rw [Qk.out])) (fun z => by simp only [List.mem_cons, List.not_mem_nil, or_false]; constructor <;> (intro h; rcases h with rfl | rfl | rfl | h <;> simp_all))
  obtain ⟨es, s, hqs⟩ : ∃ x y, canD (sV [a, b, c, a]) = (x, y) := ⟨_, _, rfl⟩
  rw [hqs] at hs1 hs2
  have HES := Lib.hid (hs2.imp id (fun h => ⟨h.1, by have q := h.2.1 b (by simp); rwa [Ql.out] at q⟩) : es = 11 ∨ es = 0 ∧ holdsB s l = true)
  have HQS := Lib.hid hqs
  have HQT := Lib.hid hs1.symm
  clear hqs hs1 hs2
  have wr1 : IntKind.i64.wrap 1 = 1 := by decide
  have wr2 : IntKind.i64.wrap (-1) = -1 := by decide
  have wr3 : IntKind.i64.wrap 0 = 0 := by decide
  have wr4 : IntKind.i64.wrap (-(-1)) = 1 := by decide
  have wr5 : IntKind.i64.wrap (- 0) = 0 := by decide
  rcases hb1 with rfl | rfl | rfl
  · by_cases z3 : o3 ≤ 0
    · have z4 : ¬ 0 < o4 := by have := H3.out (by decide) z3; omega
      have z5 : decide (0 < o4) = false := decide_eq_false z4
      clear H3
      go_wp2_with fail
      rw [← hWM]
      clear hWM
      go_quiet_grown (first | (with_reducible exact VO1.out _ _) | (with_reducible exact VO2.out _ _) | (with_reducible exact VO3.out _ _) | (with_reducible exact VO4.out _ _))
      have GA := Gr.grow (Gr.refl WM) nq osq
      generalize grow (WM.drewN nq) osq = WA at GA ⊢
      go_wp2_with fail
      have Ha14 := Lib.hid (Ha13.out.trans GA.low)
      have Hb14 := Lib.hid (Hb13.out.trans GA.low)
      have Hc14 := Lib.hid (Hc13.out.trans GA.low)
      have Hk14 := Lib.hid (Hk13.out.trans GA.low)
      have Hl14 := Lib.hid (Hl13.out.trans GA.low)
      have Hm14 := Lib.hid (Hm13.out.trans GA.low)
      obtain ⟨kx0, kx1, kx2, kx3, kx4, kx5, kx6, kx7⟩ := low_boxN w8.heap.size Hk14.out (by simp)
      obtain ⟨lx0, lx1, lx2, lx3, lx4, lx5, lx6, lx7⟩ := low_boxN w9.heap.size Hl14.out (by simp)
      have GB := Lib.hid GA
      have upA : ∀ (x : Addr) (u : Value), WA.cell? x = some u → ∀ n os, (grow (WA.drewN n) os).cell? x = some u := fun _ _ h n os => (Gr.grow (Gr.refl WA) n os).cell h
      have kv0 := upA _ _ kx0
      have kv1 := upA _ _ kx1
      have kv2 := upA _ _ kx2
      have kv3 := upA _ _ kx3
      have kv4 := upA _ _ kx4
      have kv5 := upA _ _ kx5
      have kv6 := upA _ _ kx6
      have kv7 := upA _ _ kx7
      have lv0 := upA _ _ lx0
      have lv1 := upA _ _ lx1
      have lv2 := upA _ _ lx2
      have lv3 := upA _ _ lx3
      have lv4 := upA _ _ lx4
      have lv5 := upA _ _ lx5
      have lv6 := upA _ _ lx6
      have lv7 := upA _ _ lx7
      clear upA GA
      clear kx0 kx1 kx2 kx3 kx4 kx5 kx6 kx7 lx0 lx1 lx2 lx3 lx4 lx5 lx6 lx7
      go_quiet_grown (first | (with_reducible exact VOA.out _ GB.out _ _) | (with_reducible exact VOW.out _ GB.out _ _))
      have GC := Lib.hid (Gr.grow (Gr.refl WA) nq osq)
      generalize grow (WA.drewN nq) osq = WB at GC ⊢
      clear kv0 kv1 kv2 kv3 kv4 kv5 kv6 kv7 lv0 lv1 lv2 lv3 lv4 lv5 lv6 lv7 ku0 ku1 ku2 ku3 ku4 ku5 ku6 ku7 lu0 lu1 lu2 lu3 lu4 lu5 lu6 lu7 mu0 mu1 mu2 mu3 mu4 mu5 mu6 mu7
      have Ha15 := Lib.hid (Ha14.out.trans GC.out.low)
      have Hb15 := Lib.hid (Hb14.out.trans GC.out.low)
      have Hc15 := Lib.hid (Hc14.out.trans GC.out.low)
      have Hk15 := Lib.hid (Hk14.out.trans GC.out.low)
      have Hl15 := Lib.hid (Hl14.out.trans GC.out.low)
      have Hm15 := Lib.hid (Hm14.out.trans GC.out.low)
      have QkS := Lib.hid (QkR.out.low ((GB.out.trans GC.out).low))
      have QlS := Lib.hid (QlR.out.low ((GB.out.trans GC.out).low))
      clear VO1 VO2 VO3 VO4 VOA VOW KH
      obtain ⟨kx0, kx1, kx2, kx3, kx4, kx5, kx6, kx7⟩ := low_boxN w8.heap.size Hk15.out (by simp)
      go_wp2_with fail
      have CA := Canon_c k _ _ _ QkS.out SK.out
      rw [TK.out] at CA
      change Calls _ _ _ _ (CanPost k 0 _) at CA
      refine CA.mono ?_
      rintro e w11 ⟨nai, nci, nan, ncn, rfl, hrep, g⟩
      have Ha16 := Lib.hid (Ha15.out.trans g)
      have Hb16 := Lib.hid (Hb15.out.trans g)
      have Hc16 := Lib.hid (Hc15.out.trans g)
      have Hk16 := Lib.hid (Hk15.out.trans g)
      have Hl16 := Lib.hid (Hl15.out.trans g)
      have Hm16 := Lib.hid (Hm15.out.trans g)
      have Rn := Lib.hid hrep.any
      have QkT := Lib.hid (QkS.out.low g)
      have QlT := Lib.hid (QlS.out.low g)
      clear g hrep CA
      clear kx0 kx1 kx2 kx3 kx4 kx5 kx6 kx7
      obtain ⟨ax0, ax1, ax2, ax3, ax4, ax5, ax6, ax7⟩ := low_boxB w.heap.size Ha16.out (by simp)
      obtain ⟨bx0, bx1, bx2, bx3, bx4, bx5, bx6, bx7⟩ := low_boxB (w.heap.size + 1) Hb16.out (by simp)
      obtain ⟨cx0, cx1, cx2, cx3, cx4, cx5, cx6, cx7⟩ := low_boxB (w.heap.size + 2) Hc16.out (by simp)
      go_wp2_with fail
      have Ha17 := Lib.hid (Ha16.out.trans (Low.alloc (Low.refl w11) (.cells #[.int .i64 k.h.k, .bool k.h.b, .int .i64 k.h.n, .string k.h.s, .string k.h.t, .string k.h.i, .slice nai k.l.length nci, .slice nan k.ns.length ncn] 27)))
      have Hb17 := Lib.hid (Hb16.out.trans (Low.alloc (Low.refl w11) (.cells #[.int .i64 k.h.k, .bool k.h.b, .int .i64 k.h.n, .string k.h.s, .string k.h.t, .string k.h.i, .slice nai k.l.length nci, .slice nan k.ns.length ncn] 27)))
      have Hc17 := Lib.hid (Hc16.out.trans (Low.alloc (Low.refl w11) (.cells #[.int .i64 k.h.k, .bool k.h.b, .int .i64 k.h.n, .string k.h.s, .string k.h.t, .string k.h.i, .slice nai k.l.length nci, .slice nan k.ns.length ncn] 27)))
      have Hk17 := Lib.hid (Hk16.out.trans (Low.alloc (Low.refl w11) (.cells #[.int .i64 k.h.k, .bool k.h.b, .int .i64 k.h.n, .string k.h.s, .string k.h.t, .string k.h.i, .slice nai k.l.length nci, .slice nan k.ns.length ncn] 27)))
      have Hl17 := Lib.hid (Hl16.out.trans (Low.alloc (Low.refl w11) (.cells #[.int .i64 k.h.k, .bool k.h.b, .int .i64 k.h.n, .string k.h.s, .string k.h.t, .string k.h.i, .slice nai k.l.length nci, .slice nan k.ns.length ncn] 27)))
      have Hm17 := Lib.hid (Hm16.out.trans (Low.alloc (Low.refl w11) (.cells #[.int .i64 k.h.k, .bool k.h.b, .int .i64 k.h.n, .string k.h.s, .string k.h.t, .string k.h.i, .slice nai k.l.length nci, .slice nan k.ns.length ncn] 27)))
      have Hn17 := Lib.hid (Low.refl (w11.alloc (.cells #[.int .i64 k.h.k, .bool k.h.b, .int .i64 k.h.n, .string k.h.s, .string k.h.t, .string k.h.i, .slice nai k.l.length nci, .slice nan k.ns.length ncn] 27)))
      have Bn := Lib.hid (Low.alloc (Low.refl w11) (.cells #[.int .i64 k.h.k, .bool k.h.b, .int .i64 k.h.n, .string k.h.s, .string k.h.t, .string k.h.i, .slice nai k.l.length nci, .slice nan k.ns.length ncn] 27))
      have row := row4 (w := w11.alloc (.cells #[.int .i64 k.h.k, .bool k.h.b, .int .i64 k.h.n, .string k.h.s, .string k.h.t, .string k.h.i, .slice nai k.l.length nci, .slice nan k.ns.length ncn] 27)) (p := ⟨a, aai, aci, aan, acn⟩) (q := ⟨b, bai, bci, ban, bcn⟩) (r := ⟨c, cai, cci, can, ccn⟩) (s := ⟨a, aai, aci, aan, acn⟩) ((Ra.out.low Hc17.out)) ((Rb.out.low Hc17.out)) ((Rc.out.low Hc17.out)) ((Ra.out.low Hc17.out)) (w11.heap.size + 1) (by simp)
      have CA := Canon_c (sV [a, b, c, a]) _ _ _ row (sm_set (by simp) (mem4 Sa.out Sb.out Sc.out Sa.out))
      rw [HQS.out] at CA
      change Calls _ _ _ _ (CanPost s es _) at CA
      refine CA.mono ?_
      rintro e w12 ⟨sai, sci, san, scn, rfl, hrep, g⟩
      have lg := (Low.alloc (Low.refl (w11.alloc (.cells #[.int .i64 k.h.k, .bool k.h.b, .int .i64 k.h.n, .string k.h.s, .string k.h.t, .string k.h.i, .slice nai k.l.length nci, .slice nan k.ns.length ncn] 27))) _).trans g
      have Ha18 := Lib.hid (Ha17.out.trans lg)
      have Hb18 := Lib.hid (Hb17.out.trans lg)
      have Hc18 := Lib.hid (Hc17.out.trans lg)
      have Hk18 := Lib.hid (Hk17.out.trans lg)
      have Hl18 := Lib.hid (Hl17.out.trans lg)
      have Hm18 := Lib.hid (Hm17.out.trans lg)
      have Hn18 := Lib.hid (Hn17.out.trans lg)
      have Rs := Lib.hid hrep.any
      have RnA := Lib.hid (Rn.out.low (Bn.out.trans lg))
      have QkU := Lib.hid (QkT.out.low (Bn.out.trans lg))
      have QlU := Lib.hid (QlT.out.low (Bn.out.trans lg))
      clear lg g hrep CA row
      clear ax0 ax1 ax2 ax3 ax4 ax5 ax6 ax7 bx0 bx1 bx2 bx3 bx4 bx5 bx6 bx7 cx0 cx1 cx2 cx3 cx4 cx5 cx6 cx7
      obtain ⟨ax0, ax1, ax2, ax3, ax4, ax5, ax6, ax7⟩ := low_boxB w.heap.size Ha18.out (by simp)
      obtain ⟨bx0, bx1, bx2, bx3, bx4, bx5, bx6, bx7⟩ := low_boxB (w.heap.size + 1) Hb18.out (by simp)
      obtain ⟨cx0, cx1, cx2, cx3, cx4, cx5, cx6, cx7⟩ := low_boxB (w.heap.size + 2) Hc18.out (by simp)
      go_wp2_with fail
      have Ha19 := Lib.hid (Ha18.out.trans (Low.alloc (Low.refl w12) (.cells #[.int .i64 s.h.k, .bool s.h.b, .int .i64 s.h.n, .string s.h.s, .string s.h.t, .string s.h.i, .slice sai s.l.length sci, .slice san s.ns.length scn] 27)))
      have Hb19 := Lib.hid (Hb18.out.trans (Low.alloc (Low.refl w12) (.cells #[.int .i64 s.h.k, .bool s.h.b, .int .i64 s.h.n, .string s.h.s, .string s.h.t, .string s.h.i, .slice sai s.l.length sci, .slice san s.ns.length scn] 27)))
      have Hc19 := Lib.hid (Hc18.out.trans (Low.alloc (Low.refl w12) (.cells #[.int .i64 s.h.k, .bool s.h.b, .int .i64 s.h.n, .string s.h.s, .string s.h.t, .string s.h.i, .slice sai s.l.length sci, .slice san s.ns.length scn] 27)))
      have Hk19 := Lib.hid (Hk18.out.trans (Low.alloc (Low.refl w12) (.cells #[.int .i64 s.h.k, .bool s.h.b, .int .i64 s.h.n, .string s.h.s, .string s.h.t, .string s.h.i, .slice sai s.l.length sci, .slice san s.ns.length scn] 27)))
      have Hl19 := Lib.hid (Hl18.out.trans (Low.alloc (Low.refl w12) (.cells #[.int .i64 s.h.k, .bool s.h.b, .int .i64 s.h.n, .string s.h.s, .string s.h.t, .string s.h.i, .slice sai s.l.length sci, .slice san s.ns.length scn] 27)))
      have Hm19 := Lib.hid (Hm18.out.trans (Low.alloc (Low.refl w12) (.cells #[.int .i64 s.h.k, .bool s.h.b, .int .i64 s.h.n, .string s.h.s, .string s.h.t, .string s.h.i, .slice sai s.l.length sci, .slice san s.ns.length scn] 27)))
      have Hn19 := Lib.hid (Hn18.out.trans (Low.alloc (Low.refl w12) (.cells #[.int .i64 s.h.k, .bool s.h.b, .int .i64 s.h.n, .string s.h.s, .string s.h.t, .string s.h.i, .slice sai s.l.length sci, .slice san s.ns.length scn] 27)))
      have Hs19 := Lib.hid (Low.refl (w12.alloc (.cells #[.int .i64 s.h.k, .bool s.h.b, .int .i64 s.h.n, .string s.h.s, .string s.h.t, .string s.h.i, .slice sai s.l.length sci, .slice san s.ns.length scn] 27)))
      have Bs := Lib.hid (Low.alloc (Low.refl w12) (.cells #[.int .i64 s.h.k, .bool s.h.b, .int .i64 s.h.n, .string s.h.s, .string s.h.t, .string s.h.i, .slice sai s.l.length sci, .slice san s.ns.length scn] 27))
      have row := row3 (w := w12.alloc (.cells #[.int .i64 s.h.k, .bool s.h.b, .int .i64 s.h.n, .string s.h.s, .string s.h.t, .string s.h.i, .slice sai s.l.length sci, .slice san s.ns.length scn] 27)) (p := ⟨c, cai, cci, can, ccn⟩) (q := ⟨a, aai, aci, aan, acn⟩) (r := ⟨b, bai, bci, ban, bcn⟩) ((Rc.out.low Hc19.out)) ((Ra.out.low Hc19.out)) ((Rb.out.low Hc19.out)) (w12.heap.size + 1) (by simp)
      have CA := Canon_c (sV [c, a, b]) _ _ _ row (sm_set (by simp) (mem3 Sc.out Sa.out Sb.out))
      rw [HQT.out] at CA
      change Calls _ _ _ _ (CanPost s es _) at CA
      refine CA.mono ?_
      rintro e w13 ⟨tai, tci, tan, tcn, rfl, hrep, g⟩
      have lg := (Low.alloc (Low.refl (w12.alloc (.cells #[.int .i64 s.h.k, .bool s.h.b, .int .i64 s.h.n, .string s.h.s, .string s.h.t, .string s.h.i, .slice sai s.l.length sci, .slice san s.ns.length scn] 27))) _).trans g
      have Ha20 := Lib.hid (Ha19.out.trans lg)
      have Hb20 := Lib.hid (Hb19.out.trans lg)
      have Hc20 := Lib.hid (Hc19.out.trans lg)
      have Hk20 := Lib.hid (Hk19.out.trans lg)
      have Hl20 := Lib.hid (Hl19.out.trans lg)
      have Hm20 := Lib.hid (Hm19.out.trans lg)
      have Hn20 := Lib.hid (Hn19.out.trans lg)
      have Hs20 := Lib.hid (Hs19.out.trans lg)
      have Rt := Lib.hid hrep.any
      have RnB := Lib.hid (RnA.out.low (Bs.out.trans lg))
      have QkV := Lib.hid (QkU.out.low (Bs.out.trans lg))
      have QlV := Lib.hid (QlU.out.low (Bs.out.trans lg))
      have RsB := Lib.hid (Rs.out.low (Bs.out.trans lg))
      clear lg g hrep CA row
      clear ax0 ax1 ax2 ax3 ax4 ax5 ax6 ax7 bx0 bx1 bx2 bx3 bx4 bx5 bx6 bx7 cx0 cx1 cx2 cx3 cx4 cx5 cx6 cx7
      rcases HES.out with rfl | ⟨rfl, hold⟩
      · go_wp2_with fail
        go_ret
        exact ⟨rfl, L0.out.trans (Hc20.out.alloc _)⟩
      obtain ⟨nx0, nx1, nx2, nx3, nx4, nx5, nx6, nx7⟩ := low_boxB w11.heap.size Hn20.out (by simp)
      obtain ⟨kx0, kx1, kx2, kx3, kx4, kx5, kx6, kx7⟩ := low_boxB w8.heap.size Hk20.out (by simp)
      have HOLD := Lib.hid hold
      clear hold
      go_wp2_with fail
      have Ha21 := Lib.hid (Ha20.out.trans (Low.alloc (Low.refl w13) (.cells #[.int .i64 s.h.k, .bool s.h.b, .int .i64 s.h.n, .string s.h.s, .string s.h.t, .string s.h.i, .slice tai s.l.length tci, .slice tan s.ns.length tcn] 27)))
      have Hb21 := Lib.hid (Hb20.out.trans (Low.alloc (Low.refl w13) (.cells #[.int .i64 s.h.k, .bool s.h.b, .int .i64 s.h.n, .string s.h.s, .string s.h.t, .string s.h.i, .slice tai s.l.length tci, .slice tan s.ns.length tcn] 27)))
      have Hc21 := Lib.hid (Hc20.out.trans (Low.alloc (Low.refl w13) (.cells #[.int .i64 s.h.k, .bool s.h.b, .int .i64 s.h.n, .string s.h.s, .string s.h.t, .string s.h.i, .slice tai s.l.length tci, .slice tan s.ns.length tcn] 27)))
      have Hk21 := Lib.hid (Hk20.out.trans (Low.alloc (Low.refl w13) (.cells #[.int .i64 s.h.k, .bool s.h.b, .int .i64 s.h.n, .string s.h.s, .string s.h.t, .string s.h.i, .slice tai s.l.length tci, .slice tan s.ns.length tcn] 27)))
      have Hl21 := Lib.hid (Hl20.out.trans (Low.alloc (Low.refl w13) (.cells #[.int .i64 s.h.k, .bool s.h.b, .int .i64 s.h.n, .string s.h.s, .string s.h.t, .string s.h.i, .slice tai s.l.length tci, .slice tan s.ns.length tcn] 27)))
      have Hm21 := Lib.hid (Hm20.out.trans (Low.alloc (Low.refl w13) (.cells #[.int .i64 s.h.k, .bool s.h.b, .int .i64 s.h.n, .string s.h.s, .string s.h.t, .string s.h.i, .slice tai s.l.length tci, .slice tan s.ns.length tcn] 27)))
      have Hn21 := Lib.hid (Hn20.out.trans (Low.alloc (Low.refl w13) (.cells #[.int .i64 s.h.k, .bool s.h.b, .int .i64 s.h.n, .string s.h.s, .string s.h.t, .string s.h.i, .slice tai s.l.length tci, .slice tan s.ns.length tcn] 27)))
      have Hs21 := Lib.hid (Hs20.out.trans (Low.alloc (Low.refl w13) (.cells #[.int .i64 s.h.k, .bool s.h.b, .int .i64 s.h.n, .string s.h.s, .string s.h.t, .string s.h.i, .slice tai s.l.length tci, .slice tan s.ns.length tcn] 27)))
      have Ht21 := Lib.hid (Low.refl (w13.alloc (.cells #[.int .i64 s.h.k, .bool s.h.b, .int .i64 s.h.n, .string s.h.s, .string s.h.t, .string s.h.i, .slice tai s.l.length tci, .slice tan s.ns.length tcn] 27)))
      have Bt := Lib.hid (Low.alloc (Low.refl w13) (.cells #[.int .i64 s.h.k, .bool s.h.b, .int .i64 s.h.n, .string s.h.s, .string s.h.t, .string s.h.i, .slice tai s.l.length tci, .slice tan s.ns.length tcn] 27))
      have CB := whole_c k k _ _ _ _ _ (RnB.out.low Bt.out) (QkV.out.low Bt.out)
      rw [eqB_refl] at CB
      refine CB.mono ?_
      rintro e w14 ⟨rfl, g⟩
      have Ha22 := Lib.hid (Ha21.out.trans g.low)
      have Hb22 := Lib.hid (Hb21.out.trans g.low)
      have Hc22 := Lib.hid (Hc21.out.trans g.low)
      have Hk22 := Lib.hid (Hk21.out.trans g.low)
      have Hl22 := Lib.hid (Hl21.out.trans g.low)
      have Hm22 := Lib.hid (Hm21.out.trans g.low)
      have Hn22 := Lib.hid (Hn21.out.trans g.low)
      have Hs22 := Lib.hid (Hs21.out.trans g.low)
      have Ht22 := Lib.hid (Ht21.out.trans g.low)
      have RsC := Lib.hid (RsB.out.low (Bt.out.trans g.low))
      have RtC := Lib.hid (Rt.out.low (Bt.out.trans g.low))
      have QlW := Lib.hid (QlV.out.low (Bt.out.trans g.low))
      clear g CB
      clear nx0 nx1 nx2 nx3 nx4 nx5 nx6 nx7 kx0 kx1 kx2 kx3 kx4 kx5 kx6 kx7
      obtain ⟨sx0, sx1, sx2, sx3, sx4, sx5, sx6, sx7⟩ := low_boxN w12.heap.size Hs22.out (by simp)
      obtain ⟨tx0, tx1, tx2, tx3, tx4, tx5, tx6, tx7⟩ := low_boxN w13.heap.size Ht22.out (by simp)
      go_wp2_with fail
      have CB := same_c s s _ _ _ _ _ RsC.out RtC.out
      rw [ord_same] at CB
      refine CB.mono ?_
      rintro e w15 ⟨rfl, g⟩
      have Ha23 := Lib.hid (Ha22.out.trans g.low)
      have Hb23 := Lib.hid (Hb22.out.trans g.low)
      have Hc23 := Lib.hid (Hc22.out.trans g.low)
      have Hk23 := Lib.hid (Hk22.out.trans g.low)
      have Hl23 := Lib.hid (Hl22.out.trans g.low)
      have Hm23 := Lib.hid (Hm22.out.trans g.low)
      have Hn23 := Lib.hid (Hn22.out.trans g.low)
      have Hs23 := Lib.hid (Hs22.out.trans g.low)
      have Ht23 := Lib.hid (Ht22.out.trans g.low)
      have RsD := Lib.hid (RsC.out.low g.low)
      have QlX := Lib.hid (QlW.out.low g.low)
      clear g CB
      clear sx0 sx1 sx2 sx3 sx4 sx5 sx6 sx7 tx0 tx1 tx2 tx3 tx4 tx5 tx6 tx7
      obtain ⟨sx0, sx1, sx2, sx3, sx4, sx5, sx6, sx7⟩ := low_boxN w12.heap.size Hs23.out (by simp)
      obtain ⟨lx0, lx1, lx2, lx3, lx4, lx5, lx6, lx7⟩ := low_boxN w9.heap.size Hl23.out (by simp)
      go_wp2_with fail
      have CB := holds_c s l _ _ _ _ _ RsD.out QlX.out
      rw [HOLD.out] at CB
      refine CB.mono ?_
      rintro e w16 ⟨rfl, g⟩
      have Ha24 := Lib.hid (Ha23.out.trans g.low)
      have Hb24 := Lib.hid (Hb23.out.trans g.low)
      have Hc24 := Lib.hid (Hc23.out.trans g.low)
      have Hk24 := Lib.hid (Hk23.out.trans g.low)
      have Hl24 := Lib.hid (Hl23.out.trans g.low)
      have Hm24 := Lib.hid (Hm23.out.trans g.low)
      have Hn24 := Lib.hid (Hn23.out.trans g.low)
      have Hs24 := Lib.hid (Hs23.out.trans g.low)
      have Ht24 := Lib.hid (Ht23.out.trans g.low)
      go_wp2_with fail
      go_ret
      exact ⟨rfl, L0.out.trans Hc24.out⟩
    · have z5 : decide (o3 ≤ 0) = false := decide_eq_false z3
      clear H3
      go_wp2_with fail
      rw [← hWM]
      clear hWM
      go_quiet_grown (first | (with_reducible exact VO1.out _ _) | (with_reducible exact VO2.out _ _) | (with_reducible exact VO3.out _ _) | (with_reducible exact VO4.out _ _))
      have GA := Gr.grow (Gr.refl WM) nq osq
      generalize grow (WM.drewN nq) osq = WA at GA ⊢
      go_wp2_with fail
      have Ha14 := Lib.hid (Ha13.out.trans GA.low)
      have Hb14 := Lib.hid (Hb13.out.trans GA.low)
      have Hc14 := Lib.hid (Hc13.out.trans GA.low)
      have Hk14 := Lib.hid (Hk13.out.trans GA.low)
      have Hl14 := Lib.hid (Hl13.out.trans GA.low)
      have Hm14 := Lib.hid (Hm13.out.trans GA.low)
      obtain ⟨kx0, kx1, kx2, kx3, kx4, kx5, kx6, kx7⟩ := low_boxN w8.heap.size Hk14.out (by simp)
      obtain ⟨lx0, lx1, lx2, lx3, lx4, lx5, lx6, lx7⟩ := low_boxN w9.heap.size Hl14.out (by simp)
      have GB := Lib.hid GA
      have upA : ∀ (x : Addr) (u : Value), WA.cell? x = some u → ∀ n os, (grow (WA.drewN n) os).cell? x = some u := fun _ _ h n os => (Gr.grow (Gr.refl WA) n os).cell h
      have kv0 := upA _ _ kx0
      have kv1 := upA _ _ kx1
      have kv2 := upA _ _ kx2
      have kv3 := upA _ _ kx3
      have kv4 := upA _ _ kx4
      have kv5 := upA _ _ kx5
      have kv6 := upA _ _ kx6
      have kv7 := upA _ _ kx7
      have lv0 := upA _ _ lx0
      have lv1 := upA _ _ lx1
      have lv2 := upA _ _ lx2
      have lv3 := upA _ _ lx3
      have lv4 := upA _ _ lx4
      have lv5 := upA _ _ lx5
      have lv6 := upA _ _ lx6
      have lv7 := upA _ _ lx7
      clear upA GA
      clear kx0 kx1 kx2 kx3 kx4 kx5 kx6 kx7 lx0 lx1 lx2 lx3 lx4 lx5 lx6 lx7
      go_quiet_grown (first | (with_reducible exact VOA.out _ GB.out _ _) | (with_reducible exact VOW.out _ GB.out _ _))
      have GC := Lib.hid (Gr.grow (Gr.refl WA) nq osq)
      generalize grow (WA.drewN nq) osq = WB at GC ⊢
      clear kv0 kv1 kv2 kv3 kv4 kv5 kv6 kv7 lv0 lv1 lv2 lv3 lv4 lv5 lv6 lv7 ku0 ku1 ku2 ku3 ku4 ku5 ku6 ku7 lu0 lu1 lu2 lu3 lu4 lu5 lu6 lu7 mu0 mu1 mu2 mu3 mu4 mu5 mu6 mu7
      have Ha15 := Lib.hid (Ha14.out.trans GC.out.low)
      have Hb15 := Lib.hid (Hb14.out.trans GC.out.low)
      have Hc15 := Lib.hid (Hc14.out.trans GC.out.low)
      have Hk15 := Lib.hid (Hk14.out.trans GC.out.low)
      have Hl15 := Lib.hid (Hl14.out.trans GC.out.low)
      have Hm15 := Lib.hid (Hm14.out.trans GC.out.low)
      have QkS := Lib.hid (QkR.out.low ((GB.out.trans GC.out).low))
      have QlS := Lib.hid (QlR.out.low ((GB.out.trans GC.out).low))
      clear VO1 VO2 VO3 VO4 VOA VOW KH
      obtain ⟨kx0, kx1, kx2, kx3, kx4, kx5, kx6, kx7⟩ := low_boxN w8.heap.size Hk15.out (by simp)
      go_wp2_with fail
      have CA := Canon_c k _ _ _ QkS.out SK.out
      rw [TK.out] at CA
      change Calls _ _ _ _ (CanPost k 0 _) at CA
      refine CA.mono ?_
      rintro e w11 ⟨nai, nci, nan, ncn, rfl, hrep, g⟩
      have Ha16 := Lib.hid (Ha15.out.trans g)
      have Hb16 := Lib.hid (Hb15.out.trans g)
      have Hc16 := Lib.hid (Hc15.out.trans g)
      have Hk16 := Lib.hid (Hk15.out.trans g)
      have Hl16 := Lib.hid (Hl15.out.trans g)
      have Hm16 := Lib.hid (Hm15.out.trans g)
      have Rn := Lib.hid hrep.any
      have QkT := Lib.hid (QkS.out.low g)
      have QlT := Lib.hid (QlS.out.low g)
      clear g hrep CA
      clear kx0 kx1 kx2 kx3 kx4 kx5 kx6 kx7
      obtain ⟨ax0, ax1, ax2, ax3, ax4, ax5, ax6, ax7⟩ := low_boxB w.heap.size Ha16.out (by simp)
      obtain ⟨bx0, bx1, bx2, bx3, bx4, bx5, bx6, bx7⟩ := low_boxB (w.heap.size + 1) Hb16.out (by simp)
      obtain ⟨cx0, cx1, cx2, cx3, cx4, cx5, cx6, cx7⟩ := low_boxB (w.heap.size + 2) Hc16.out (by simp)
      go_wp2_with fail
      have Ha17 := Lib.hid (Ha16.out.trans (Low.alloc (Low.refl w11) (.cells #[.int .i64 k.h.k, .bool k.h.b, .int .i64 k.h.n, .string k.h.s, .string k.h.t, .string k.h.i, .slice nai k.l.length nci, .slice nan k.ns.length ncn] 27)))
      have Hb17 := Lib.hid (Hb16.out.trans (Low.alloc (Low.refl w11) (.cells #[.int .i64 k.h.k, .bool k.h.b, .int .i64 k.h.n, .string k.h.s, .string k.h.t, .string k.h.i, .slice nai k.l.length nci, .slice nan k.ns.length ncn] 27)))
      have Hc17 := Lib.hid (Hc16.out.trans (Low.alloc (Low.refl w11) (.cells #[.int .i64 k.h.k, .bool k.h.b, .int .i64 k.h.n, .string k.h.s, .string k.h.t, .string k.h.i, .slice nai k.l.length nci, .slice nan k.ns.length ncn] 27)))
      have Hk17 := Lib.hid (Hk16.out.trans (Low.alloc (Low.refl w11) (.cells #[.int .i64 k.h.k, .bool k.h.b, .int .i64 k.h.n, .string k.h.s, .string k.h.t, .string k.h.i, .slice nai k.l.length nci, .slice nan k.ns.length ncn] 27)))
      have Hl17 := Lib.hid (Hl16.out.trans (Low.alloc (Low.refl w11) (.cells #[.int .i64 k.h.k, .bool k.h.b, .int .i64 k.h.n, .string k.h.s, .string k.h.t, .string k.h.i, .slice nai k.l.length nci, .slice nan k.ns.length ncn] 27)))
      have Hm17 := Lib.hid (Hm16.out.trans (Low.alloc (Low.refl w11) (.cells #[.int .i64 k.h.k, .bool k.h.b, .int .i64 k.h.n, .string k.h.s, .string k.h.t, .string k.h.i, .slice nai k.l.length nci, .slice nan k.ns.length ncn] 27)))
      have Hn17 := Lib.hid (Low.refl (w11.alloc (.cells #[.int .i64 k.h.k, .bool k.h.b, .int .i64 k.h.n, .string k.h.s, .string k.h.t, .string k.h.i, .slice nai k.l.length nci, .slice nan k.ns.length ncn] 27)))
      have Bn := Lib.hid (Low.alloc (Low.refl w11) (.cells #[.int .i64 k.h.k, .bool k.h.b, .int .i64 k.h.n, .string k.h.s, .string k.h.t, .string k.h.i, .slice nai k.l.length nci, .slice nan k.ns.length ncn] 27))
      have row := row4 (w := w11.alloc (.cells #[.int .i64 k.h.k, .bool k.h.b, .int .i64 k.h.n, .string k.h.s, .string k.h.t, .string k.h.i, .slice nai k.l.length nci, .slice nan k.ns.length ncn] 27)) (p := ⟨a, aai, aci, aan, acn⟩) (q := ⟨b, bai, bci, ban, bcn⟩) (r := ⟨c, cai, cci, can, ccn⟩) (s := ⟨a, aai, aci, aan, acn⟩) ((Ra.out.low Hc17.out)) ((Rb.out.low Hc17.out)) ((Rc.out.low Hc17.out)) ((Ra.out.low Hc17.out)) (w11.heap.size + 1) (by simp)
      have CA := Canon_c (sV [a, b, c, a]) _ _ _ row (sm_set (by simp) (mem4 Sa.out Sb.out Sc.out Sa.out))
      rw [HQS.out] at CA
      change Calls _ _ _ _ (CanPost s es _) at CA
      refine CA.mono ?_
      rintro e w12 ⟨sai, sci, san, scn, rfl, hrep, g⟩
      have lg := (Low.alloc (Low.refl (w11.alloc (.cells #[.int .i64 k.h.k, .bool k.h.b, .int .i64 k.h.n, .string k.h.s, .string k.h.t, .string k.h.i, .slice nai k.l.length nci, .slice nan k.ns.length ncn] 27))) _).trans g
      have Ha18 := Lib.hid (Ha17.out.trans lg)
      have Hb18 := Lib.hid (Hb17.out.trans lg)
      have Hc18 := Lib.hid (Hc17.out.trans lg)
      have Hk18 := Lib.hid (Hk17.out.trans lg)
      have Hl18 := Lib.hid (Hl17.out.trans lg)
      have Hm18 := Lib.hid (Hm17.out.trans lg)
      have Hn18 := Lib.hid (Hn17.out.trans lg)
      have Rs := Lib.hid hrep.any
      have RnA := Lib.hid (Rn.out.low (Bn.out.trans lg))
      have QkU := Lib.hid (QkT.out.low (Bn.out.trans lg))
      have QlU := Lib.hid (QlT.out.low (Bn.out.trans lg))
      clear lg g hrep CA row
      clear ax0 ax1 ax2 ax3 ax4 ax5 ax6 ax7 bx0 bx1 bx2 bx3 bx4 bx5 bx6 bx7 cx0 cx1 cx2 cx3 cx4 cx5 cx6 cx7
      obtain ⟨ax0, ax1, ax2, ax3, ax4, ax5, ax6, ax7⟩ := low_boxB w.heap.size Ha18.out (by simp)
      obtain ⟨bx0, bx1, bx2, bx3, bx4, bx5, bx6, bx7⟩ := low_boxB (w.heap.size + 1) Hb18.out (by simp)
      obtain ⟨cx0, cx1, cx2, cx3, cx4, cx5, cx6, cx7⟩ := low_boxB (w.heap.size + 2) Hc18.out (by simp)
      go_wp2_with fail
      have Ha19 := Lib.hid (Ha18.out.trans (Low.alloc (Low.refl w12) (.cells #[.int .i64 s.h.k, .bool s.h.b, .int .i64 s.h.n, .string s.h.s, .string s.h.t, .string s.h.i, .slice sai s.l.length sci, .slice san s.ns.length scn] 27)))
      have Hb19 := Lib.hid (Hb18.out.trans (Low.alloc (Low.refl w12) (.cells #[.int .i64 s.h.k, .bool s.h.b, .int .i64 s.h.n, .string s.h.s, .string s.h.t, .string s.h.i, .slice sai s.l.length sci, .slice san s.ns.length scn] 27)))
      have Hc19 := Lib.hid (Hc18.out.trans (Low.alloc (Low.refl w12) (.cells #[.int .i64 s.h.k, .bool s.h.b, .int .i64 s.h.n, .string s.h.s, .string s.h.t, .string s.h.i, .slice sai s.l.length sci, .slice san s.ns.length scn] 27)))
      have Hk19 := Lib.hid (Hk18.out.trans (Low.alloc (Low.refl w12) (.cells #[.int .i64 s.h.k, .bool s.h.b, .int .i64 s.h.n, .string s.h.s, .string s.h.t, .string s.h.i, .slice sai s.l.length sci, .slice san s.ns.length scn] 27)))
      have Hl19 := Lib.hid (Hl18.out.trans (Low.alloc (Low.refl w12) (.cells #[.int .i64 s.h.k, .bool s.h.b, .int .i64 s.h.n, .string s.h.s, .string s.h.t, .string s.h.i, .slice sai s.l.length sci, .slice san s.ns.length scn] 27)))
      have Hm19 := Lib.hid (Hm18.out.trans (Low.alloc (Low.refl w12) (.cells #[.int .i64 s.h.k, .bool s.h.b, .int .i64 s.h.n, .string s.h.s, .string s.h.t, .string s.h.i, .slice sai s.l.length sci, .slice san s.ns.length scn] 27)))
      have Hn19 := Lib.hid (Hn18.out.trans (Low.alloc (Low.refl w12) (.cells #[.int .i64 s.h.k, .bool s.h.b, .int .i64 s.h.n, .string s.h.s, .string s.h.t, .string s.h.i, .slice sai s.l.length sci, .slice san s.ns.length scn] 27)))
      have Hs19 := Lib.hid (Low.refl (w12.alloc (.cells #[.int .i64 s.h.k, .bool s.h.b, .int .i64 s.h.n, .string s.h.s, .string s.h.t, .string s.h.i, .slice sai s.l.length sci, .slice san s.ns.length scn] 27)))
      have Bs := Lib.hid (Low.alloc (Low.refl w12) (.cells #[.int .i64 s.h.k, .bool s.h.b, .int .i64 s.h.n, .string s.h.s, .string s.h.t, .string s.h.i, .slice sai s.l.length sci, .slice san s.ns.length scn] 27))
      have row := row3 (w := w12.alloc (.cells #[.int .i64 s.h.k, .bool s.h.b, .int .i64 s.h.n, .string s.h.s, .string s.h.t, .string s.h.i, .slice sai s.l.length sci, .slice san s.ns.length scn] 27)) (p := ⟨c, cai, cci, can, ccn⟩) (q := ⟨a, aai, aci, aan, acn⟩) (r := ⟨b, bai, bci, ban, bcn⟩) ((Rc.out.low Hc19.out)) ((Ra.out.low Hc19.out)) ((Rb.out.low Hc19.out)) (w12.heap.size + 1) (by simp)
      have CA := Canon_c (sV [c, a, b]) _ _ _ row (sm_set (by simp) (mem3 Sc.out Sa.out Sb.out))
      rw [HQT.out] at CA
      change Calls _ _ _ _ (CanPost s es _) at CA
      refine CA.mono ?_
      rintro e w13 ⟨tai, tci, tan, tcn, rfl, hrep, g⟩
      have lg := (Low.alloc (Low.refl (w12.alloc (.cells #[.int .i64 s.h.k, .bool s.h.b, .int .i64 s.h.n, .string s.h.s, .string s.h.t, .string s.h.i, .slice sai s.l.length sci, .slice san s.ns.length scn] 27))) _).trans g
      have Ha20 := Lib.hid (Ha19.out.trans lg)
      have Hb20 := Lib.hid (Hb19.out.trans lg)
      have Hc20 := Lib.hid (Hc19.out.trans lg)
      have Hk20 := Lib.hid (Hk19.out.trans lg)
      have Hl20 := Lib.hid (Hl19.out.trans lg)
      have Hm20 := Lib.hid (Hm19.out.trans lg)
      have Hn20 := Lib.hid (Hn19.out.trans lg)
      have Hs20 := Lib.hid (Hs19.out.trans lg)
      have Rt := Lib.hid hrep.any
      have RnB := Lib.hid (RnA.out.low (Bs.out.trans lg))
      have QkV := Lib.hid (QkU.out.low (Bs.out.trans lg))
      have QlV := Lib.hid (QlU.out.low (Bs.out.trans lg))
      have RsB := Lib.hid (Rs.out.low (Bs.out.trans lg))
      clear lg g hrep CA row
      clear ax0 ax1 ax2 ax3 ax4 ax5 ax6 ax7 bx0 bx1 bx2 bx3 bx4 bx5 bx6 bx7 cx0 cx1 cx2 cx3 cx4 cx5 cx6 cx7
      rcases HES.out with rfl | ⟨rfl, hold⟩
      · go_wp2_with fail
        go_ret
        exact ⟨rfl, L0.out.trans (Hc20.out.alloc _)⟩
      obtain ⟨nx0, nx1, nx2, nx3, nx4, nx5, nx6, nx7⟩ := low_boxB w11.heap.size Hn20.out (by simp)
      obtain ⟨kx0, kx1, kx2, kx3, kx4, kx5, kx6, kx7⟩ := low_boxB w8.heap.size Hk20.out (by simp)
      have HOLD := Lib.hid hold
      clear hold
      go_wp2_with fail
      have Ha21 := Lib.hid (Ha20.out.trans (Low.alloc (Low.refl w13) (.cells #[.int .i64 s.h.k, .bool s.h.b, .int .i64 s.h.n, .string s.h.s, .string s.h.t, .string s.h.i, .slice tai s.l.length tci, .slice tan s.ns.length tcn] 27)))
      have Hb21 := Lib.hid (Hb20.out.trans (Low.alloc (Low.refl w13) (.cells #[.int .i64 s.h.k, .bool s.h.b, .int .i64 s.h.n, .string s.h.s, .string s.h.t, .string s.h.i, .slice tai s.l.length tci, .slice tan s.ns.length tcn] 27)))
      have Hc21 := Lib.hid (Hc20.out.trans (Low.alloc (Low.refl w13) (.cells #[.int .i64 s.h.k, .bool s.h.b, .int .i64 s.h.n, .string s.h.s, .string s.h.t, .string s.h.i, .slice tai s.l.length tci, .slice tan s.ns.length tcn] 27)))
      have Hk21 := Lib.hid (Hk20.out.trans (Low.alloc (Low.refl w13) (.cells #[.int .i64 s.h.k, .bool s.h.b, .int .i64 s.h.n, .string s.h.s, .string s.h.t, .string s.h.i, .slice tai s.l.length tci, .slice tan s.ns.length tcn] 27)))
      have Hl21 := Lib.hid (Hl20.out.trans (Low.alloc (Low.refl w13) (.cells #[.int .i64 s.h.k, .bool s.h.b, .int .i64 s.h.n, .string s.h.s, .string s.h.t, .string s.h.i, .slice tai s.l.length tci, .slice tan s.ns.length tcn] 27)))
      have Hm21 := Lib.hid (Hm20.out.trans (Low.alloc (Low.refl w13) (.cells #[.int .i64 s.h.k, .bool s.h.b, .int .i64 s.h.n, .string s.h.s, .string s.h.t, .string s.h.i, .slice tai s.l.length tci, .slice tan s.ns.length tcn] 27)))
      have Hn21 := Lib.hid (Hn20.out.trans (Low.alloc (Low.refl w13) (.cells #[.int .i64 s.h.k, .bool s.h.b, .int .i64 s.h.n, .string s.h.s, .string s.h.t, .string s.h.i, .slice tai s.l.length tci, .slice tan s.ns.length tcn] 27)))
      have Hs21 := Lib.hid (Hs20.out.trans (Low.alloc (Low.refl w13) (.cells #[.int .i64 s.h.k, .bool s.h.b, .int .i64 s.h.n, .string s.h.s, .string s.h.t, .string s.h.i, .slice tai s.l.length tci, .slice tan s.ns.length tcn] 27)))
      have Ht21 := Lib.hid (Low.refl (w13.alloc (.cells #[.int .i64 s.h.k, .bool s.h.b, .int .i64 s.h.n, .string s.h.s, .string s.h.t, .string s.h.i, .slice tai s.l.length tci, .slice tan s.ns.length tcn] 27)))
      have Bt := Lib.hid (Low.alloc (Low.refl w13) (.cells #[.int .i64 s.h.k, .bool s.h.b, .int .i64 s.h.n, .string s.h.s, .string s.h.t, .string s.h.i, .slice tai s.l.length tci, .slice tan s.ns.length tcn] 27))
      have CB := whole_c k k _ _ _ _ _ (RnB.out.low Bt.out) (QkV.out.low Bt.out)
      rw [eqB_refl] at CB
      refine CB.mono ?_
      rintro e w14 ⟨rfl, g⟩
      have Ha22 := Lib.hid (Ha21.out.trans g.low)
      have Hb22 := Lib.hid (Hb21.out.trans g.low)
      have Hc22 := Lib.hid (Hc21.out.trans g.low)
      have Hk22 := Lib.hid (Hk21.out.trans g.low)
      have Hl22 := Lib.hid (Hl21.out.trans g.low)
      have Hm22 := Lib.hid (Hm21.out.trans g.low)
      have Hn22 := Lib.hid (Hn21.out.trans g.low)
      have Hs22 := Lib.hid (Hs21.out.trans g.low)
      have Ht22 := Lib.hid (Ht21.out.trans g.low)
      have RsC := Lib.hid (RsB.out.low (Bt.out.trans g.low))
      have RtC := Lib.hid (Rt.out.low (Bt.out.trans g.low))
      have QlW := Lib.hid (QlV.out.low (Bt.out.trans g.low))
      clear g CB
      clear nx0 nx1 nx2 nx3 nx4 nx5 nx6 nx7 kx0 kx1 kx2 kx3 kx4 kx5 kx6 kx7
      obtain ⟨sx0, sx1, sx2, sx3, sx4, sx5, sx6, sx7⟩ := low_boxN w12.heap.size Hs22.out (by simp)
      obtain ⟨tx0, tx1, tx2, tx3, tx4, tx5, tx6, tx7⟩ := low_boxN w13.heap.size Ht22.out (by simp)
      go_wp2_with fail
      have CB := same_c s s _ _ _ _ _ RsC.out RtC.out
      rw [ord_same] at CB
      refine CB.mono ?_
      rintro e w15 ⟨rfl, g⟩
      have Ha23 := Lib.hid (Ha22.out.trans g.low)
      have Hb23 := Lib.hid (Hb22.out.trans g.low)
      have Hc23 := Lib.hid (Hc22.out.trans g.low)
      have Hk23 := Lib.hid (Hk22.out.trans g.low)
      have Hl23 := Lib.hid (Hl22.out.trans g.low)
      have Hm23 := Lib.hid (Hm22.out.trans g.low)
      have Hn23 := Lib.hid (Hn22.out.trans g.low)
      have Hs23 := Lib.hid (Hs22.out.trans g.low)
      have Ht23 := Lib.hid (Ht22.out.trans g.low)
      have RsD := Lib.hid (RsC.out.low g.low)
      have QlX := Lib.hid (QlW.out.low g.low)
      clear g CB
      clear sx0 sx1 sx2 sx3 sx4 sx5 sx6 sx7 tx0 tx1 tx2 tx3 tx4 tx5 tx6 tx7
      obtain ⟨sx0, sx1, sx2, sx3, sx4, sx5, sx6, sx7⟩ := low_boxN w12.heap.size Hs23.out (by simp)
      obtain ⟨lx0, lx1, lx2, lx3, lx4, lx5, lx6, lx7⟩ := low_boxN w9.heap.size Hl23.out (by simp)
      go_wp2_with fail
      have CB := holds_c s l _ _ _ _ _ RsD.out QlX.out
      rw [HOLD.out] at CB
      refine CB.mono ?_
      rintro e w16 ⟨rfl, g⟩
      have Ha24 := Lib.hid (Ha23.out.trans g.low)
      have Hb24 := Lib.hid (Hb23.out.trans g.low)
      have Hc24 := Lib.hid (Hc23.out.trans g.low)
      have Hk24 := Lib.hid (Hk23.out.trans g.low)
      have Hl24 := Lib.hid (Hl23.out.trans g.low)
      have Hm24 := Lib.hid (Hm23.out.trans g.low)
      have Hn24 := Lib.hid (Hn23.out.trans g.low)
      have Hs24 := Lib.hid (Hs23.out.trans g.low)
      have Ht24 := Lib.hid (Ht23.out.trans g.low)
      go_wp2_with fail
      go_ret
      exact ⟨rfl, L0.out.trans Hc24.out⟩
  · by_cases z3 : o3 ≤ 0
    · have z4 : ¬ 0 < o4 := by have := H3.out (by decide) z3; omega
      have z5 : decide (0 < o4) = false := decide_eq_false z4
      clear H3
      go_wp2_with fail
      rw [← hWM]
      clear hWM
      go_quiet_grown (first | (with_reducible exact VO1.out _ _) | (with_reducible exact VO2.out _ _) | (with_reducible exact VO3.out _ _) | (with_reducible exact VO4.out _ _))
      have GA := Gr.grow (Gr.refl WM) nq osq
      generalize grow (WM.drewN nq) osq = WA at GA ⊢
      go_wp2_with fail
      have Ha14 := Lib.hid (Ha13.out.trans GA.low)
      have Hb14 := Lib.hid (Hb13.out.trans GA.low)
      have Hc14 := Lib.hid (Hc13.out.trans GA.low)
      have Hk14 := Lib.hid (Hk13.out.trans GA.low)
      have Hl14 := Lib.hid (Hl13.out.trans GA.low)
      have Hm14 := Lib.hid (Hm13.out.trans GA.low)
      obtain ⟨kx0, kx1, kx2, kx3, kx4, kx5, kx6, kx7⟩ := low_boxN w8.heap.size Hk14.out (by simp)
      obtain ⟨lx0, lx1, lx2, lx3, lx4, lx5, lx6, lx7⟩ := low_boxN w9.heap.size Hl14.out (by simp)
      have GB := Lib.hid GA
      have upA : ∀ (x : Addr) (u : Value), WA.cell? x = some u → ∀ n os, (grow (WA.drewN n) os).cell? x = some u := fun _ _ h n os => (Gr.grow (Gr.refl WA) n os).cell h
      have kv0 := upA _ _ kx0
      have kv1 := upA _ _ kx1
      have kv2 := upA _ _ kx2
      have kv3 := upA _ _ kx3
      have kv4 := upA _ _ kx4
      have kv5 := upA _ _ kx5
      have kv6 := upA _ _ kx6
      have kv7 := upA _ _ kx7
      have lv0 := upA _ _ lx0
      have lv1 := upA _ _ lx1
      have lv2 := upA _ _ lx2
      have lv3 := upA _ _ lx3
      have lv4 := upA _ _ lx4
      have lv5 := upA _ _ lx5
      have lv6 := upA _ _ lx6
      have lv7 := upA _ _ lx7
      clear upA GA
      clear kx0 kx1 kx2 kx3 kx4 kx5 kx6 kx7 lx0 lx1 lx2 lx3 lx4 lx5 lx6 lx7
      go_quiet_grown (first | (with_reducible exact VOA.out _ GB.out _ _) | (with_reducible exact VOW.out _ GB.out _ _))
      have GC := Lib.hid (Gr.grow (Gr.refl WA) nq osq)
      generalize grow (WA.drewN nq) osq = WB at GC ⊢
      clear kv0 kv1 kv2 kv3 kv4 kv5 kv6 kv7 lv0 lv1 lv2 lv3 lv4 lv5 lv6 lv7 ku0 ku1 ku2 ku3 ku4 ku5 ku6 ku7 lu0 lu1 lu2 lu3 lu4 lu5 lu6 lu7 mu0 mu1 mu2 mu3 mu4 mu5 mu6 mu7
      have Ha15 := Lib.hid (Ha14.out.trans GC.out.low)
      have Hb15 := Lib.hid (Hb14.out.trans GC.out.low)
      have Hc15 := Lib.hid (Hc14.out.trans GC.out.low)
      have Hk15 := Lib.hid (Hk14.out.trans GC.out.low)
      have Hl15 := Lib.hid (Hl14.out.trans GC.out.low)
      have Hm15 := Lib.hid (Hm14.out.trans GC.out.low)
      have QkS := Lib.hid (QkR.out.low ((GB.out.trans GC.out).low))
      have QlS := Lib.hid (QlR.out.low ((GB.out.trans GC.out).low))
      clear VO1 VO2 VO3 VO4 VOA VOW KH
      obtain ⟨kx0, kx1, kx2, kx3, kx4, kx5, kx6, kx7⟩ := low_boxN w8.heap.size Hk15.out (by simp)
      go_wp2_with fail
      have CA := Canon_c k _ _ _ QkS.out SK.out
      rw [TK.out] at CA
      change Calls _ _ _ _ (CanPost k 0 _) at CA
      refine CA.mono ?_
      rintro e w11 ⟨nai, nci, nan, ncn, rfl, hrep, g⟩
      have Ha16 := Lib.hid (Ha15.out.trans g)
      have Hb16 := Lib.hid (Hb15.out.trans g)
      have Hc16 := Lib.hid (Hc15.out.trans g)
      have Hk16 := Lib.hid (Hk15.out.trans g)
      have Hl16 := Lib.hid (Hl15.out.trans g)
      have Hm16 := Lib.hid (Hm15.out.trans g)
      have Rn := Lib.hid hrep.any
      have QkT := Lib.hid (QkS.out.low g)
      have QlT := Lib.hid (QlS.out.low g)
      clear g hrep CA
      clear kx0 kx1 kx2 kx3 kx4 kx5 kx6 kx7
      obtain ⟨ax0, ax1, ax2, ax3, ax4, ax5, ax6, ax7⟩ := low_boxB w.heap.size Ha16.out (by simp)
      obtain ⟨bx0, bx1, bx2, bx3, bx4, bx5, bx6, bx7⟩ := low_boxB (w.heap.size + 1) Hb16.out (by simp)
      obtain ⟨cx0, cx1, cx2, cx3, cx4, cx5, cx6, cx7⟩ := low_boxB (w.heap.size + 2) Hc16.out (by simp)
      go_wp2_with fail
      have Ha17 := Lib.hid (Ha16.out.trans (Low.alloc (Low.refl w11) (.cells #[.int .i64 k.h.k, .bool k.h.b, .int .i64 k.h.n, .string k.h.s, .string k.h.t, .string k.h.i, .slice nai k.l.length nci, .slice nan k.ns.length ncn] 27)))
      have Hb17 := Lib.hid (Hb16.out.trans (Low.alloc (Low.refl w11) (.cells #[.int .i64 k.h.k, .bool k.h.b, .int .i64 k.h.n, .string k.h.s, .string k.h.t, .string k.h.i, .slice nai k.l.length nci, .slice nan k.ns.length ncn] 27)))
      have Hc17 := Lib.hid (Hc16.out.trans (Low.alloc (Low.refl w11) (.cells #[.int .i64 k.h.k, .bool k.h.b, .int .i64 k.h.n, .string k.h.s, .string k.h.t, .string k.h.i, .slice nai k.l.length nci, .slice nan k.ns.length ncn] 27)))
      have Hk17 := Lib.hid (Hk16.out.trans (Low.alloc (Low.refl w11) (.cells #[.int .i64 k.h.k, .bool k.h.b, .int .i64 k.h.n, .string k.h.s, .string k.h.t, .string k.h.i, .slice nai k.l.length nci, .slice nan k.ns.length ncn] 27)))
      have Hl17 := Lib.hid (Hl16.out.trans (Low.alloc (Low.refl w11) (.cells #[.int .i64 k.h.k, .bool k.h.b, .int .i64 k.h.n, .string k.h.s, .string k.h.t, .string k.h.i, .slice nai k.l.length nci, .slice nan k.ns.length ncn] 27)))
      have Hm17 := Lib.hid (Hm16.out.trans (Low.alloc (Low.refl w11) (.cells #[.int .i64 k.h.k, .bool k.h.b, .int .i64 k.h.n, .string k.h.s, .string k.h.t, .string k.h.i, .slice nai k.l.length nci, .slice nan k.ns.length ncn] 27)))
      have Hn17 := Lib.hid (Low.refl (w11.alloc (.cells #[.int .i64 k.h.k, .bool k.h.b, .int .i64 k.h.n, .string k.h.s, .string k.h.t, .string k.h.i, .slice nai k.l.length nci, .slice nan k.ns.length ncn] 27)))
      have Bn := Lib.hid (Low.alloc (Low.refl w11) (.cells #[.int .i64 k.h.k, .bool k.h.b, .int .i64 k.h.n, .string k.h.s, .string k.h.t, .string k.h.i, .slice nai k.l.length nci, .slice nan k.ns.length ncn] 27))
      have row := row4 (w := w11.alloc (.cells #[.int .i64 k.h.k, .bool k.h.b, .int .i64 k.h.n, .string k.h.s, .string k.h.t, .string k.h.i, .slice nai k.l.length nci, .slice nan k.ns.length ncn] 27)) (p := ⟨a, aai, aci, aan, acn⟩) (q := ⟨b, bai, bci, ban, bcn⟩) (r := ⟨c, cai, cci, can, ccn⟩) (s := ⟨a, aai, aci, aan, acn⟩) ((Ra.out.low Hc17.out)) ((Rb.out.low Hc17.out)) ((Rc.out.low Hc17.out)) ((Ra.out.low Hc17.out)) (w11.heap.size + 1) (by simp)
      have CA := Canon_c (sV [a, b, c, a]) _ _ _ row (sm_set (by simp) (mem4 Sa.out Sb.out Sc.out Sa.out))
      rw [HQS.out] at CA
      change Calls _ _ _ _ (CanPost s es _) at CA
      refine CA.mono ?_
      rintro e w12 ⟨sai, sci, san, scn, rfl, hrep, g⟩
      have lg := (Low.alloc (Low.refl (w11.alloc (.cells #[.int .i64 k.h.k, .bool k.h.b, .int .i64 k.h.n, .string k.h.s, .string k.h.t, .string k.h.i, .slice nai k.l.length nci, .slice nan k.ns.length ncn] 27))) _).trans g
      have Ha18 := Lib.hid (Ha17.out.trans lg)
      have Hb18 := Lib.hid (Hb17.out.trans lg)
      have Hc18 := Lib.hid (Hc17.out.trans lg)
      have Hk18 := Lib.hid (Hk17.out.trans lg)
      have Hl18 := Lib.hid (Hl17.out.trans lg)
      have Hm18 := Lib.hid (Hm17.out.trans lg)
      have Hn18 := Lib.hid (Hn17.out.trans lg)
      have Rs := Lib.hid hrep.any
      have RnA := Lib.hid (Rn.out.low (Bn.out.trans lg))
      have QkU := Lib.hid (QkT.out.low (Bn.out.trans lg))
      have QlU := Lib.hid (QlT.out.low (Bn.out.trans lg))
      clear lg g hrep CA row
      clear ax0 ax1 ax2 ax3 ax4 ax5 ax6 ax7 bx0 bx1 bx2 bx3 bx4 bx5 bx6 bx7 cx0 cx1 cx2 cx3 cx4 cx5 cx6 cx7
      obtain ⟨ax0, ax1, ax2, ax3, ax4, ax5, ax6, ax7⟩ := low_boxB w.heap.size Ha18.out (by simp)
      obtain ⟨bx0, bx1, bx2, bx3, bx4, bx5, bx6, bx7⟩ := low_boxB (w.heap.size + 1) Hb18.out (by simp)
      obtain ⟨cx0, cx1, cx2, cx3, cx4, cx5, cx6, cx7⟩ := low_boxB (w.heap.size + 2) Hc18.out (by simp)
      go_wp2_with fail
      have Ha19 := Lib.hid (Ha18.out.trans (Low.alloc (Low.refl w12) (.cells #[.int .i64 s.h.k, .bool s.h.b, .int .i64 s.h.n, .string s.h.s, .string s.h.t, .string s.h.i, .slice sai s.l.length sci, .slice san s.ns.length scn] 27)))
      have Hb19 := Lib.hid (Hb18.out.trans (Low.alloc (Low.refl w12) (.cells #[.int .i64 s.h.k, .bool s.h.b, .int .i64 s.h.n, .string s.h.s, .string s.h.t, .string s.h.i, .slice sai s.l.length sci, .slice san s.ns.length scn] 27)))
      have Hc19 := Lib.hid (Hc18.out.trans (Low.alloc (Low.refl w12) (.cells #[.int .i64 s.h.k, .bool s.h.b, .int .i64 s.h.n, .string s.h.s, .string s.h.t, .string s.h.i, .slice sai s.l.length sci, .slice san s.ns.length scn] 27)))
      have Hk19 := Lib.hid (Hk18.out.trans (Low.alloc (Low.refl w12) (.cells #[.int .i64 s.h.k, .bool s.h.b, .int .i64 s.h.n, .string s.h.s, .string s.h.t, .string s.h.i, .slice sai s.l.length sci, .slice san s.ns.length scn] 27)))
      have Hl19 := Lib.hid (Hl18.out.trans (Low.alloc (Low.refl w12) (.cells #[.int .i64 s.h.k, .bool s.h.b, .int .i64 s.h.n, .string s.h.s, .string s.h.t, .string s.h.i, .slice sai s.l.length sci, .slice san s.ns.length scn] 27)))
      have Hm19 := Lib.hid (Hm18.out.trans (Low.alloc (Low.refl w12) (.cells #[.int .i64 s.h.k, .bool s.h.b, .int .i64 s.h.n, .string s.h.s, .string s.h.t, .string s.h.i, .slice sai s.l.length sci, .slice san s.ns.length scn] 27)))
      have Hn19 := Lib.hid (Hn18.out.trans (Low.alloc (Low.refl w12) (.cells #[.int .i64 s.h.k, .bool s.h.b, .int .i64 s.h.n, .string s.h.s, .string s.h.t, .string s.h.i, .slice sai s.l.length sci, .slice san s.ns.length scn] 27)))
      have Hs19 := Lib.hid (Low.refl (w12.alloc (.cells #[.int .i64 s.h.k, .bool s.h.b, .int .i64 s.h.n, .string s.h.s, .string s.h.t, .string s.h.i, .slice sai s.l.length sci, .slice san s.ns.length scn] 27)))
      have Bs := Lib.hid (Low.alloc (Low.refl w12) (.cells #[.int .i64 s.h.k, .bool s.h.b, .int .i64 s.h.n, .string s.h.s, .string s.h.t, .string s.h.i, .slice sai s.l.length sci, .slice san s.ns.length scn] 27))
      have row := row3 (w := w12.alloc (.cells #[.int .i64 s.h.k, .bool s.h.b, .int .i64 s.h.n, .string s.h.s, .string s.h.t, .string s.h.i, .slice sai s.l.length sci, .slice san s.ns.length scn] 27)) (p := ⟨c, cai, cci, can, ccn⟩) (q := ⟨a, aai, aci, aan, acn⟩) (r := ⟨b, bai, bci, ban, bcn⟩) ((Rc.out.low Hc19.out)) ((Ra.out.low Hc19.out)) ((Rb.out.low Hc19.out)) (w12.heap.size + 1) (by simp)
      have CA := Canon_c (sV [c, a, b]) _ _ _ row (sm_set (by simp) (mem3 Sc.out Sa.out Sb.out))
      rw [HQT.out] at CA
      change Calls _ _ _ _ (CanPost s es _) at CA
      refine CA.mono ?_
      rintro e w13 ⟨tai, tci, tan, tcn, rfl, hrep, g⟩
      have lg := (Low.alloc (Low.refl (w12.alloc (.cells #[.int .i64 s.h.k, .bool s.h.b, .int .i64 s.h.n, .string s.h.s, .string s.h.t, .string s.h.i, .slice sai s.l.length sci, .slice san s.ns.length scn] 27))) _).trans g
      have Ha20 := Lib.hid (Ha19.out.trans lg)
      have Hb20 := Lib.hid (Hb19.out.trans lg)
      have Hc20 := Lib.hid (Hc19.out.trans lg)
      have Hk20 := Lib.hid (Hk19.out.trans lg)
      have Hl20 := Lib.hid (Hl19.out.trans lg)
      have Hm20 := Lib.hid (Hm19.out.trans lg)
      have Hn20 := Lib.hid (Hn19.out.trans lg)
      have Hs20 := Lib.hid (Hs19.out.trans lg)
      have Rt := Lib.hid hrep.any
      have RnB := Lib.hid (RnA.out.low (Bs.out.trans lg))
      have QkV := Lib.hid (QkU.out.low (Bs.out.trans lg))
      have QlV := Lib.hid (QlU.out.low (Bs.out.trans lg))
      have RsB := Lib.hid (Rs.out.low (Bs.out.trans lg))
      clear lg g hrep CA row
      clear ax0 ax1 ax2 ax3 ax4 ax5 ax6 ax7 bx0 bx1 bx2 bx3 bx4 bx5 bx6 bx7 cx0 cx1 cx2 cx3 cx4 cx5 cx6 cx7
      rcases HES.out with rfl | ⟨rfl, hold⟩
      · go_wp2_with fail
        go_ret
        exact ⟨rfl, L0.out.trans (Hc20.out.alloc _)⟩
      obtain ⟨nx0, nx1, nx2, nx3, nx4, nx5, nx6, nx7⟩ := low_boxB w11.heap.size Hn20.out (by simp)
      obtain ⟨kx0, kx1, kx2, kx3, kx4, kx5, kx6, kx7⟩ := low_boxB w8.heap.size Hk20.out (by simp)
      have HOLD := Lib.hid hold
      clear hold
      go_wp2_with fail
      have Ha21 := Lib.hid (Ha20.out.trans (Low.alloc (Low.refl w13) (.cells #[.int .i64 s.h.k, .bool s.h.b, .int .i64 s.h.n, .string s.h.s, .string s.h.t, .string s.h.i, .slice tai s.l.length tci, .slice tan s.ns.length tcn] 27)))
      have Hb21 := Lib.hid (Hb20.out.trans (Low.alloc (Low.refl w13) (.cells #[.int .i64 s.h.k, .bool s.h.b, .int .i64 s.h.n, .string s.h.s, .string s.h.t, .string s.h.i, .slice tai s.l.length tci, .slice tan s.ns.length tcn] 27)))
      have Hc21 := Lib.hid (Hc20.out.trans (Low.alloc (Low.refl w13) (.cells #[.int .i64 s.h.k, .bool s.h.b, .int .i64 s.h.n, .string s.h.s, .string s.h.t, .string s.h.i, .slice tai s.l.length tci, .slice tan s.ns.length tcn] 27)))
      have Hk21 := Lib.hid (Hk20.out.trans (Low.alloc (Low.refl w13) (.cells #[.int .i64 s.h.k, .bool s.h.b, .int .i64 s.h.n, .string s.h.s, .string s.h.t, .string s.h.i, .slice tai s.l.length tci, .slice tan s.ns.length tcn] 27)))
      have Hl21 := Lib.hid (Hl20.out.trans (Low.alloc (Low.refl w13) (.cells #[.int .i64 s.h.k, .bool s.h.b, .int .i64 s.h.n, .string s.h.s, .string s.h.t, .string s.h.i, .slice tai s.l.length tci, .slice tan s.ns.length tcn] 27)))
      have Hm21 := Lib.hid (Hm20.out.trans (Low.alloc (Low.refl w13) (.cells #[.int .i64 s.h.k, .bool s.h.b, .int .i64 s.h.n, .string s.h.s, .string s.h.t, .string s.h.i, .slice tai s.l.length tci, .slice tan s.ns.length tcn] 27)))
      have Hn21 := Lib.hid (Hn20.out.trans (Low.alloc (Low.refl w13) (.cells #[.int .i64 s.h.k, .bool s.h.b, .int .i64 s.h.n, .string s.h.s, .string s.h.t, .string s.h.i, .slice tai s.l.length tci, .slice tan s.ns.length tcn] 27)))
      have Hs21 := Lib.hid (Hs20.out.trans (Low.alloc (Low.refl w13) (.cells #[.int .i64 s.h.k, .bool s.h.b, .int .i64 s.h.n, .string s.h.s, .string s.h.t, .string s.h.i, .slice tai s.l.length tci, .slice tan s.ns.length tcn] 27)))
      have Ht21 := Lib.hid (Low.refl (w13.alloc (.cells #[.int .i64 s.h.k, .bool s.h.b, .int .i64 s.h.n, .string s.h.s, .string s.h.t, .string s.h.i, .slice tai s.l.length tci, .slice tan s.ns.length tcn] 27)))
      have Bt := Lib.hid (Low.alloc (Low.refl w13) (.cells #[.int .i64 s.h.k, .bool s.h.b, .int .i64 s.h.n, .string s.h.s, .string s.h.t, .string s.h.i, .slice tai s.l.length tci, .slice tan s.ns.length tcn] 27))
      have CB := whole_c k k _ _ _ _ _ (RnB.out.low Bt.out) (QkV.out.low Bt.out)
      rw [eqB_refl] at CB
      refine CB.mono ?_
      rintro e w14 ⟨rfl, g⟩
      have Ha22 := Lib.hid (Ha21.out.trans g.low)
      have Hb22 := Lib.hid (Hb21.out.trans g.low)
      have Hc22 := Lib.hid (Hc21.out.trans g.low)
      have Hk22 := Lib.hid (Hk21.out.trans g.low)
      have Hl22 := Lib.hid (Hl21.out.trans g.low)
      have Hm22 := Lib.hid (Hm21.out.trans g.low)
      have Hn22 := Lib.hid (Hn21.out.trans g.low)
      have Hs22 := Lib.hid (Hs21.out.trans g.low)
      have Ht22 := Lib.hid (Ht21.out.trans g.low)
      have RsC := Lib.hid (RsB.out.low (Bt.out.trans g.low))
      have RtC := Lib.hid (Rt.out.low (Bt.out.trans g.low))
      have QlW := Lib.hid (QlV.out.low (Bt.out.trans g.low))
      clear g CB
      clear nx0 nx1 nx2 nx3 nx4 nx5 nx6 nx7 kx0 kx1 kx2 kx3 kx4 kx5 kx6 kx7
      obtain ⟨sx0, sx1, sx2, sx3, sx4, sx5, sx6, sx7⟩ := low_boxN w12.heap.size Hs22.out (by simp)
      obtain ⟨tx0, tx1, tx2, tx3, tx4, tx5, tx6, tx7⟩ := low_boxN w13.heap.size Ht22.out (by simp)
      go_wp2_with fail
      have CB := same_c s s _ _ _ _ _ RsC.out RtC.out
      rw [ord_same] at CB
      refine CB.mono ?_
      rintro e w15 ⟨rfl, g⟩
      have Ha23 := Lib.hid (Ha22.out.trans g.low)
      have Hb23 := Lib.hid (Hb22.out.trans g.low)
      have Hc23 := Lib.hid (Hc22.out.trans g.low)
      have Hk23 := Lib.hid (Hk22.out.trans g.low)
      have Hl23 := Lib.hid (Hl22.out.trans g.low)
      have Hm23 := Lib.hid (Hm22.out.trans g.low)
      have Hn23 := Lib.hid (Hn22.out.trans g.low)
      have Hs23 := Lib.hid (Hs22.out.trans g.low)
      have Ht23 := Lib.hid (Ht22.out.trans g.low)
      have RsD := Lib.hid (RsC.out.low g.low)
      have QlX := Lib.hid (QlW.out.low g.low)
      clear g CB
      clear sx0 sx1 sx2 sx3 sx4 sx5 sx6 sx7 tx0 tx1 tx2 tx3 tx4 tx5 tx6 tx7
      obtain ⟨sx0, sx1, sx2, sx3, sx4, sx5, sx6, sx7⟩ := low_boxN w12.heap.size Hs23.out (by simp)
      obtain ⟨lx0, lx1, lx2, lx3, lx4, lx5, lx6, lx7⟩ := low_boxN w9.heap.size Hl23.out (by simp)
      go_wp2_with fail
      have CB := holds_c s l _ _ _ _ _ RsD.out QlX.out
      rw [HOLD.out] at CB
      refine CB.mono ?_
      rintro e w16 ⟨rfl, g⟩
      have Ha24 := Lib.hid (Ha23.out.trans g.low)
      have Hb24 := Lib.hid (Hb23.out.trans g.low)
      have Hc24 := Lib.hid (Hc23.out.trans g.low)
      have Hk24 := Lib.hid (Hk23.out.trans g.low)
      have Hl24 := Lib.hid (Hl23.out.trans g.low)
      have Hm24 := Lib.hid (Hm23.out.trans g.low)
      have Hn24 := Lib.hid (Hn23.out.trans g.low)
      have Hs24 := Lib.hid (Hs23.out.trans g.low)
      have Ht24 := Lib.hid (Ht23.out.trans g.low)
      go_wp2_with fail
      go_ret
      exact ⟨rfl, L0.out.trans Hc24.out⟩
    · have z5 : decide (o3 ≤ 0) = false := decide_eq_false z3
      clear H3
      go_wp2_with fail
      rw [← hWM]
      clear hWM
      go_quiet_grown (first | (with_reducible exact VO1.out _ _) | (with_reducible exact VO2.out _ _) | (with_reducible exact VO3.out _ _) | (with_reducible exact VO4.out _ _))
      have GA := Gr.grow (Gr.refl WM) nq osq
      generalize grow (WM.drewN nq) osq = WA at GA ⊢
      go_wp2_with fail
      have Ha14 := Lib.hid (Ha13.out.trans GA.low)
      have Hb14 := Lib.hid (Hb13.out.trans GA.low)
      have Hc14 := Lib.hid (Hc13.out.trans GA.low)
      have Hk14 := Lib.hid (Hk13.out.trans GA.low)
      have Hl14 := Lib.hid (Hl13.out.trans GA.low)
      have Hm14 := Lib.hid (Hm13.out.trans GA.low)
      obtain ⟨kx0, kx1, kx2, kx3, kx4, kx5, kx6, kx7⟩ := low_boxN w8.heap.size Hk14.out (by simp)
      obtain ⟨lx0, lx1, lx2, lx3, lx4, lx5, lx6, lx7⟩ := low_boxN w9.heap.size Hl14.out (by simp)
      have GB := Lib.hid GA
      have upA : ∀ (x : Addr) (u : Value), WA.cell? x = some u → ∀ n os, (grow (WA.drewN n) os).cell? x = some u := fun _ _ h n os => (Gr.grow (Gr.refl WA) n os).cell h
      have kv0 := upA _ _ kx0
      have kv1 := upA _ _ kx1
      have kv2 := upA _ _ kx2
      have kv3 := upA _ _ kx3
      have kv4 := upA _ _ kx4
      have kv5 := upA _ _ kx5
      have kv6 := upA _ _ kx6
      have kv7 := upA _ _ kx7
      have lv0 := upA _ _ lx0
      have lv1 := upA _ _ lx1
      have lv2 := upA _ _ lx2
      have lv3 := upA _ _ lx3
      have lv4 := upA _ _ lx4
      have lv5 := upA _ _ lx5
      have lv6 := upA _ _ lx6
      have lv7 := upA _ _ lx7
      clear upA GA
      clear kx0 kx1 kx2 kx3 kx4 kx5 kx6 kx7 lx0 lx1 lx2 lx3 lx4 lx5 lx6 lx7
      go_quiet_grown (first | (with_reducible exact VOA.out _ GB.out _ _) | (with_reducible exact VOW.out _ GB.out _ _))
      have GC := Lib.hid (Gr.grow (Gr.refl WA) nq osq)
      generalize grow (WA.drewN nq) osq = WB at GC ⊢
      clear kv0 kv1 kv2 kv3 kv4 kv5 kv6 kv7 lv0 lv1 lv2 lv3 lv4 lv5 lv6 lv7 ku0 ku1 ku2 ku3 ku4 ku5 ku6 ku7 lu0 lu1 lu2 lu3 lu4 lu5 lu6 lu7 mu0 mu1 mu2 mu3 mu4 mu5 mu6 mu7
      have Ha15 := Lib.hid (Ha14.out.trans GC.out.low)
      have Hb15 := Lib.hid (Hb14.out.trans GC.out.low)
      have Hc15 := Lib.hid (Hc14.out.trans GC.out.low)
      have Hk15 := Lib.hid (Hk14.out.trans GC.out.low)
      have Hl15 := Lib.hid (Hl14.out.trans GC.out.low)
      have Hm15 := Lib.hid (Hm14.out.trans GC.out.low)
      have QkS := Lib.hid (QkR.out.low ((GB.out.trans GC.out).low))
      have QlS := Lib.hid (QlR.out.low ((GB.out.trans GC.out).low))
      clear VO1 VO2 VO3 VO4 VOA VOW KH
      obtain ⟨kx0, kx1, kx2, kx3, kx4, kx5, kx6, kx7⟩ := low_boxN w8.heap.size Hk15.out (by simp)
      go_wp2_with fail
      have CA := Canon_c k _ _ _ QkS.out SK.out
      rw [TK.out] at CA
      change Calls _ _ _ _ (CanPost k 0 _) at CA
      refine CA.mono ?_
      rintro e w11 ⟨nai, nci, nan, ncn, rfl, hrep, g⟩
      have Ha16 := Lib.hid (Ha15.out.trans g)
      have Hb16 := Lib.hid (Hb15.out.trans g)
      have Hc16 := Lib.hid (Hc15.out.trans g)
      have Hk16 := Lib.hid (Hk15.out.trans g)
      have Hl16 := Lib.hid (Hl15.out.trans g)
      have Hm16 := Lib.hid (Hm15.out.trans g)
      have Rn := Lib.hid hrep.any
      have QkT := Lib.hid (QkS.out.low g)
      have QlT := Lib.hid (QlS.out.low g)
      clear g hrep CA
      clear kx0 kx1 kx2 kx3 kx4 kx5 kx6 kx7
      obtain ⟨ax0, ax1, ax2, ax3, ax4, ax5, ax6, ax7⟩ := low_boxB w.heap.size Ha16.out (by simp)
      obtain ⟨bx0, bx1, bx2, bx3, bx4, bx5, bx6, bx7⟩ := low_boxB (w.heap.size + 1) Hb16.out (by simp)
      obtain ⟨cx0, cx1, cx2, cx3, cx4, cx5, cx6, cx7⟩ := low_boxB (w.heap.size + 2) Hc16.out (by simp)
      go_wp2_with fail
      have Ha17 := Lib.hid (Ha16.out.trans (Low.alloc (Low.refl w11) (.cells #[.int .i64 k.h.k, .bool k.h.b, .int .i64 k.h.n, .string k.h.s, .string k.h.t, .string k.h.i, .slice nai k.l.length nci, .slice nan k.ns.length ncn] 27)))
      have Hb17 := Lib.hid (Hb16.out.trans (Low.alloc (Low.refl w11) (.cells #[.int .i64 k.h.k, .bool k.h.b, .int .i64 k.h.n, .string k.h.s, .string k.h.t, .string k.h.i, .slice nai k.l.length nci, .slice nan k.ns.length ncn] 27)))
      have Hc17 := Lib.hid (Hc16.out.trans (Low.alloc (Low.refl w11) (.cells #[.int .i64 k.h.k, .bool k.h.b, .int .i64 k.h.n, .string k.h.s, .string k.h.t, .string k.h.i, .slice nai k.l.length nci, .slice nan k.ns.length ncn] 27)))
      have Hk17 := Lib.hid (Hk16.out.trans (Low.alloc (Low.refl w11) (.cells #[.int .i64 k.h.k, .bool k.h.b, .int .i64 k.h.n, .string k.h.s, .string k.h.t, .string k.h.i, .slice nai k.l.length nci, .slice nan k.ns.length ncn] 27)))
      have Hl17 := Lib.hid (Hl16.out.trans (Low.alloc (Low.refl w11) (.cells #[.int .i64 k.h.k, .bool k.h.b, .int .i64 k.h.n, .string k.h.s, .string k.h.t, .string k.h.i, .slice nai k.l.length nci, .slice nan k.ns.length ncn] 27)))
      have Hm17 := Lib.hid (Hm16.out.trans (Low.alloc (Low.refl w11) (.cells #[.int .i64 k.h.k, .bool k.h.b, .int .i64 k.h.n, .string k.h.s, .string k.h.t, .string k.h.i, .slice nai k.l.length nci, .slice nan k.ns.length ncn] 27)))
      have Hn17 := Lib.hid (Low.refl (w11.alloc (.cells #[.int .i64 k.h.k, .bool k.h.b, .int .i64 k.h.n, .string k.h.s, .string k.h.t, .string k.h.i, .slice nai k.l.length nci, .slice nan k.ns.length ncn] 27)))
      have Bn := Lib.hid (Low.alloc (Low.refl w11) (.cells #[.int .i64 k.h.k, .bool k.h.b, .int .i64 k.h.n, .string k.h.s, .string k.h.t, .string k.h.i, .slice nai k.l.length nci, .slice nan k.ns.length ncn] 27))
      have row := row4 (w := w11.alloc (.cells #[.int .i64 k.h.k, .bool k.h.b, .int .i64 k.h.n, .string k.h.s, .string k.h.t, .string k.h.i, .slice nai k.l.length nci, .slice nan k.ns.length ncn] 27)) (p := ⟨a, aai, aci, aan, acn⟩) (q := ⟨b, bai, bci, ban, bcn⟩) (r := ⟨c, cai, cci, can, ccn⟩) (s := ⟨a, aai, aci, aan, acn⟩) ((Ra.out.low Hc17.out)) ((Rb.out.low Hc17.out)) ((Rc.out.low Hc17.out)) ((Ra.out.low Hc17.out)) (w11.heap.size + 1) (by simp)
      have CA := Canon_c (sV [a, b, c, a]) _ _ _ row (sm_set (by simp) (mem4 Sa.out Sb.out Sc.out Sa.out))
      rw [HQS.out] at CA
      change Calls _ _ _ _ (CanPost s es _) at CA
      refine CA.mono ?_
      rintro e w12 ⟨sai, sci, san, scn, rfl, hrep, g⟩
      have lg := (Low.alloc (Low.refl (w11.alloc (.cells #[.int .i64 k.h.k, .bool k.h.b, .int .i64 k.h.n, .string k.h.s, .string k.h.t, .string k.h.i, .slice nai k.l.length nci, .slice nan k.ns.length ncn] 27))) _).trans g
      have Ha18 := Lib.hid (Ha17.out.trans lg)
      have Hb18 := Lib.hid (Hb17.out.trans lg)
      have Hc18 := Lib.hid (Hc17.out.trans lg)
      have Hk18 := Lib.hid (Hk17.out.trans lg)
      have Hl18 := Lib.hid (Hl17.out.trans lg)
      have Hm18 := Lib.hid (Hm17.out.trans lg)
      have Hn18 := Lib.hid (Hn17.out.trans lg)
      have Rs := Lib.hid hrep.any
      have RnA := Lib.hid (Rn.out.low (Bn.out.trans lg))
      have QkU := Lib.hid (QkT.out.low (Bn.out.trans lg))
      have QlU := Lib.hid (QlT.out.low (Bn.out.trans lg))
      clear lg g hrep CA row
      clear ax0 ax1 ax2 ax3 ax4 ax5 ax6 ax7 bx0 bx1 bx2 bx3 bx4 bx5 bx6 bx7 cx0 cx1 cx2 cx3 cx4 cx5 cx6 cx7
      obtain ⟨ax0, ax1, ax2, ax3, ax4, ax5, ax6, ax7⟩ := low_boxB w.heap.size Ha18.out (by simp)
      obtain ⟨bx0, bx1, bx2, bx3, bx4, bx5, bx6, bx7⟩ := low_boxB (w.heap.size + 1) Hb18.out (by simp)
      obtain ⟨cx0, cx1, cx2, cx3, cx4, cx5, cx6, cx7⟩ := low_boxB (w.heap.size + 2) Hc18.out (by simp)
      go_wp2_with fail
      have Ha19 := Lib.hid (Ha18.out.trans (Low.alloc (Low.refl w12) (.cells #[.int .i64 s.h.k, .bool s.h.b, .int .i64 s.h.n, .string s.h.s, .string s.h.t, .string s.h.i, .slice sai s.l.length sci, .slice san s.ns.length scn] 27)))
      have Hb19 := Lib.hid (Hb18.out.trans (Low.alloc (Low.refl w12) (.cells #[.int .i64 s.h.k, .bool s.h.b, .int .i64 s.h.n, .string s.h.s, .string s.h.t, .string s.h.i, .slice sai s.l.length sci, .slice san s.ns.length scn] 27)))
      have Hc19 := Lib.hid (Hc18.out.trans (Low.alloc (Low.refl w12) (.cells #[.int .i64 s.h.k, .bool s.h.b, .int .i64 s.h.n, .string s.h.s, .string s.h.t, .string s.h.i, .slice sai s.l.length sci, .slice san s.ns.length scn] 27)))
      have Hk19 := Lib.hid (Hk18.out.trans (Low.alloc (Low.refl w12) (.cells #[.int .i64 s.h.k, .bool s.h.b, .int .i64 s.h.n, .string s.h.s, .string s.h.t, .string s.h.i, .slice sai s.l.length sci, .slice san s.ns.length scn] 27)))
      have Hl19 := Lib.hid (Hl18.out.trans (Low.alloc (Low.refl w12) (.cells #[.int .i64 s.h.k, .bool s.h.b, .int .i64 s.h.n, .string s.h.s, .string s.h.t, .string s.h.i, .slice sai s.l.length sci, .slice san s.ns.length scn] 27)))
      have Hm19 := Lib.hid (Hm18.out.trans (Low.alloc (Low.refl w12) (.cells #[.int .i64 s.h.k, .bool s.h.b, .int .i64 s.h.n, .string s.h.s, .string s.h.t, .string s.h.i, .slice sai s.l.length sci, .slice san s.ns.length scn] 27)))
      have Hn19 := Lib.hid (Hn18.out.trans (Low.alloc (Low.refl w12) (.cells #[.int .i64 s.h.k, .bool s.h.b, .int .i64 s.h.n, .string s.h.s, .string s.h.t, .string s.h.i, .slice sai s.l.length sci, .slice san s.ns.length scn] 27)))
      have Hs19 := Lib.hid (Low.refl (w12.alloc (.cells #[.int .i64 s.h.k, .bool s.h.b, .int .i64 s.h.n, .string s.h.s, .string s.h.t, .string s.h.i, .slice sai s.l.length sci, .slice san s.ns.length scn] 27)))
      have Bs := Lib.hid (Low.alloc (Low.refl w12) (.cells #[.int .i64 s.h.k, .bool s.h.b, .int .i64 s.h.n, .string s.h.s, .string s.h.t, .string s.h.i, .slice sai s.l.length sci, .slice san s.ns.length scn] 27))
      have row := row3 (w := w12.alloc (.cells #[.int .i64 s.h.k, .bool s.h.b, .int .i64 s.h.n, .string s.h.s, .string s.h.t, .string s.h.i, .slice sai s.l.length sci, .slice san s.ns.length scn] 27)) (p := ⟨c, cai, cci, can, ccn⟩) (q := ⟨a, aai, aci, aan, acn⟩) (r := ⟨b, bai, bci, ban, bcn⟩) ((Rc.out.low Hc19.out)) ((Ra.out.low Hc19.out)) ((Rb.out.low Hc19.out)) (w12.heap.size + 1) (by simp)
      have CA := Canon_c (sV [c, a, b]) _ _ _ row (sm_set (by simp) (mem3 Sc.out Sa.out Sb.out))
      rw [HQT.out] at CA
      change Calls _ _ _ _ (CanPost s es _) at CA
      refine CA.mono ?_
      rintro e w13 ⟨tai, tci, tan, tcn, rfl, hrep, g⟩
      have lg := (Low.alloc (Low.refl (w12.alloc (.cells #[.int .i64 s.h.k, .bool s.h.b, .int .i64 s.h.n, .string s.h.s, .string s.h.t, .string s.h.i, .slice sai s.l.length sci, .slice san s.ns.length scn] 27))) _).trans g
      have Ha20 := Lib.hid (Ha19.out.trans lg)
      have Hb20 := Lib.hid (Hb19.out.trans lg)
      have Hc20 := Lib.hid (Hc19.out.trans lg)
      have Hk20 := Lib.hid (Hk19.out.trans lg)
      have Hl20 := Lib.hid (Hl19.out.trans lg)
      have Hm20 := Lib.hid (Hm19.out.trans lg)
      have Hn20 := Lib.hid (Hn19.out.trans lg)
      have Hs20 := Lib.hid (Hs19.out.trans lg)
      have Rt := Lib.hid hrep.any
      have RnB := Lib.hid (RnA.out.low (Bs.out.trans lg))
      have QkV := Lib.hid (QkU.out.low (Bs.out.trans lg))
      have QlV := Lib.hid (QlU.out.low (Bs.out.trans lg))
      have RsB := Lib.hid (Rs.out.low (Bs.out.trans lg))
      clear lg g hrep CA row
      clear ax0 ax1 ax2 ax3 ax4 ax5 ax6 ax7 bx0 bx1 bx2 bx3 bx4 bx5 bx6 bx7 cx0 cx1 cx2 cx3 cx4 cx5 cx6 cx7
      rcases HES.out with rfl | ⟨rfl, hold⟩
      · go_wp2_with fail
        go_ret
        exact ⟨rfl, L0.out.trans (Hc20.out.alloc _)⟩
      obtain ⟨nx0, nx1, nx2, nx3, nx4, nx5, nx6, nx7⟩ := low_boxB w11.heap.size Hn20.out (by simp)
      obtain ⟨kx0, kx1, kx2, kx3, kx4, kx5, kx6, kx7⟩ := low_boxB w8.heap.size Hk20.out (by simp)
      have HOLD := Lib.hid hold
      clear hold
      go_wp2_with fail
      have Ha21 := Lib.hid (Ha20.out.trans (Low.alloc (Low.refl w13) (.cells #[.int .i64 s.h.k, .bool s.h.b, .int .i64 s.h.n, .string s.h.s, .string s.h.t, .string s.h.i, .slice tai s.l.length tci, .slice tan s.ns.length tcn] 27)))
      have Hb21 := Lib.hid (Hb20.out.trans (Low.alloc (Low.refl w13) (.cells #[.int .i64 s.h.k, .bool s.h.b, .int .i64 s.h.n, .string s.h.s, .string s.h.t, .string s.h.i, .slice tai s.l.length tci, .slice tan s.ns.length tcn] 27)))
      have Hc21 := Lib.hid (Hc20.out.trans (Low.alloc (Low.refl w13) (.cells #[.int .i64 s.h.k, .bool s.h.b, .int .i64 s.h.n, .string s.h.s, .string s.h.t, .string s.h.i, .slice tai s.l.length tci, .slice tan s.ns.length tcn] 27)))
      have Hk21 := Lib.hid (Hk20.out.trans (Low.alloc (Low.refl w13) (.cells #[.int .i64 s.h.k, .bool s.h.b, .int .i64 s.h.n, .string s.h.s, .string s.h.t, .string s.h.i, .slice tai s.l.length tci, .slice tan s.ns.length tcn] 27)))
      have Hl21 := Lib.hid (Hl20.out.trans (Low.alloc (Low.refl w13) (.cells #[.int .i64 s.h.k, .bool s.h.b, .int .i64 s.h.n, .string s.h.s, .string s.h.t, .string s.h.i, .slice tai s.l.length tci, .slice tan s.ns.length tcn] 27)))
      have Hm21 := Lib.hid (Hm20.out.trans (Low.alloc (Low.refl w13) (.cells #[.int .i64 s.h.k, .bool s.h.b, .int .i64 s.h.n, .string s.h.s, .string s.h.t, .string s.h.i, .slice tai s.l.length tci, .slice tan s.ns.length tcn] 27)))
      have Hn21 := Lib.hid (Hn20.out.trans (Low.alloc (Low.refl w13) (.cells #[.int .i64 s.h.k, .bool s.h.b, .int .i64 s.h.n, .string s.h.s, .string s.h.t, .string s.h.i, .slice tai s.l.length tci, .slice tan s.ns.length tcn] 27)))
      have Hs21 := Lib.hid (Hs20.out.trans (Low.alloc (Low.refl w13) (.cells #[.int .i64 s.h.k, .bool s.h.b, .int .i64 s.h.n, .string s.h.s, .string s.h.t, .string s.h.i, .slice tai s.l.length tci, .slice tan s.ns.length tcn] 27)))
      have Ht21 := Lib.hid (Low.refl (w13.alloc (.cells #[.int .i64 s.h.k, .bool s.h.b, .int .i64 s.h.n, .string s.h.s, .string s.h.t, .string s.h.i, .slice tai s.l.length tci, .slice tan s.ns.length tcn] 27)))
      have Bt := Lib.hid (Low.alloc (Low.refl w13) (.cells #[.int .i64 s.h.k, .bool s.h.b, .int .i64 s.h.n, .string s.h.s, .string s.h.t, .string s.h.i, .slice tai s.l.length tci, .slice tan s.ns.length tcn] 27))
      have CB := whole_c k k _ _ _ _ _ (RnB.out.low Bt.out) (QkV.out.low Bt.out)
      rw [eqB_refl] at CB
      refine CB.mono ?_
      rintro e w14 ⟨rfl, g⟩
      have Ha22 := Lib.hid (Ha21.out.trans g.low)
      have Hb22 := Lib.hid (Hb21.out.trans g.low)
      have Hc22 := Lib.hid (Hc21.out.trans g.low)
      have Hk22 := Lib.hid (Hk21.out.trans g.low)
      have Hl22 := Lib.hid (Hl21.out.trans g.low)
      have Hm22 := Lib.hid (Hm21.out.trans g.low)
      have Hn22 := Lib.hid (Hn21.out.trans g.low)
      have Hs22 := Lib.hid (Hs21.out.trans g.low)
      have Ht22 := Lib.hid (Ht21.out.trans g.low)
      have RsC := Lib.hid (RsB.out.low (Bt.out.trans g.low))
      have RtC := Lib.hid (Rt.out.low (Bt.out.trans g.low))
      have QlW := Lib.hid (QlV.out.low (Bt.out.trans g.low))
      clear g CB
      clear nx0 nx1 nx2 nx3 nx4 nx5 nx6 nx7 kx0 kx1 kx2 kx3 kx4 kx5 kx6 kx7
      obtain ⟨sx0, sx1, sx2, sx3, sx4, sx5, sx6, sx7⟩ := low_boxN w12.heap.size Hs22.out (by simp)
      obtain ⟨tx0, tx1, tx2, tx3, tx4, tx5, tx6, tx7⟩ := low_boxN w13.heap.size Ht22.out (by simp)
      go_wp2_with fail
      have CB := same_c s s _ _ _ _ _ RsC.out RtC.out
      rw [ord_same] at CB
      refine CB.mono ?_
      rintro e w15 ⟨rfl, g⟩
      have Ha23 := Lib.hid (Ha22.out.trans g.low)
      have Hb23 := Lib.hid (Hb22.out.trans g.low)
      have Hc23 := Lib.hid (Hc22.out.trans g.low)
      have Hk23 := Lib.hid (Hk22.out.trans g.low)
      have Hl23 := Lib.hid (Hl22.out.trans g.low)
      have Hm23 := Lib.hid (Hm22.out.trans g.low)
      have Hn23 := Lib.hid (Hn22.out.trans g.low)
      have Hs23 := Lib.hid (Hs22.out.trans g.low)
      have Ht23 := Lib.hid (Ht22.out.trans g.low)
      have RsD := Lib.hid (RsC.out.low g.low)
      have QlX := Lib.hid (QlW.out.low g.low)
      clear g CB
      clear sx0 sx1 sx2 sx3 sx4 sx5 sx6 sx7 tx0 tx1 tx2 tx3 tx4 tx5 tx6 tx7
      obtain ⟨sx0, sx1, sx2, sx3, sx4, sx5, sx6, sx7⟩ := low_boxN w12.heap.size Hs23.out (by simp)
      obtain ⟨lx0, lx1, lx2, lx3, lx4, lx5, lx6, lx7⟩ := low_boxN w9.heap.size Hl23.out (by simp)
      go_wp2_with fail
      have CB := holds_c s l _ _ _ _ _ RsD.out QlX.out
      rw [HOLD.out] at CB
      refine CB.mono ?_
      rintro e w16 ⟨rfl, g⟩
      have Ha24 := Lib.hid (Ha23.out.trans g.low)
      have Hb24 := Lib.hid (Hb23.out.trans g.low)
      have Hc24 := Lib.hid (Hc23.out.trans g.low)
      have Hk24 := Lib.hid (Hk23.out.trans g.low)
      have Hl24 := Lib.hid (Hl23.out.trans g.low)
      have Hm24 := Lib.hid (Hm23.out.trans g.low)
      have Hn24 := Lib.hid (Hn23.out.trans g.low)
      have Hs24 := Lib.hid (Hs23.out.trans g.low)
      have Ht24 := Lib.hid (Ht23.out.trans g.low)
      go_wp2_with fail
      go_ret
      exact ⟨rfl, L0.out.trans Hc24.out⟩
  · clear H3
    go_wp2_with fail
    rw [← hWM]
    clear hWM
    go_quiet_grown (first | (with_reducible exact VO1.out _ _) | (with_reducible exact VO2.out _ _) | (with_reducible exact VO3.out _ _) | (with_reducible exact VO4.out _ _))
    have GA := Gr.grow (Gr.refl WM) nq osq
    generalize grow (WM.drewN nq) osq = WA at GA ⊢
    go_wp2_with fail
    have Ha14 := Lib.hid (Ha13.out.trans GA.low)
    have Hb14 := Lib.hid (Hb13.out.trans GA.low)
    have Hc14 := Lib.hid (Hc13.out.trans GA.low)
    have Hk14 := Lib.hid (Hk13.out.trans GA.low)
    have Hl14 := Lib.hid (Hl13.out.trans GA.low)
    have Hm14 := Lib.hid (Hm13.out.trans GA.low)
    obtain ⟨kx0, kx1, kx2, kx3, kx4, kx5, kx6, kx7⟩ := low_boxN w8.heap.size Hk14.out (by simp)
    obtain ⟨lx0, lx1, lx2, lx3, lx4, lx5, lx6, lx7⟩ := low_boxN w9.heap.size Hl14.out (by simp)
    have GB := Lib.hid GA
    have upA : ∀ (x : Addr) (u : Value), WA.cell? x = some u → ∀ n os, (grow (WA.drewN n) os).cell? x = some u := fun _ _ h n os => (Gr.grow (Gr.refl WA) n os).cell h
    have kv0 := upA _ _ kx0
    have kv1 := upA _ _ kx1
    have kv2 := upA _ _ kx2
    have kv3 := upA _ _ kx3
    have kv4 := upA _ _ kx4
    have kv5 := upA _ _ kx5
    have kv6 := upA _ _ kx6
    have kv7 := upA _ _ kx7
    have lv0 := upA _ _ lx0
    have lv1 := upA _ _ lx1
    have lv2 := upA _ _ lx2
    have lv3 := upA _ _ lx3
    have lv4 := upA _ _ lx4
    have lv5 := upA _ _ lx5
    have lv6 := upA _ _ lx6
    have lv7 := upA _ _ lx7
    clear upA GA
    clear kx0 kx1 kx2 kx3 kx4 kx5 kx6 kx7 lx0 lx1 lx2 lx3 lx4 lx5 lx6 lx7
    go_quiet_grown (first | (with_reducible exact VOA.out _ GB.out _ _) | (with_reducible exact VOW.out _ GB.out _ _))
    have GC := Lib.hid (Gr.grow (Gr.refl WA) nq osq)
    generalize grow (WA.drewN nq) osq = WB at GC ⊢
    clear kv0 kv1 kv2 kv3 kv4 kv5 kv6 kv7 lv0 lv1 lv2 lv3 lv4 lv5 lv6 lv7 ku0 ku1 ku2 ku3 ku4 ku5 ku6 ku7 lu0 lu1 lu2 lu3 lu4 lu5 lu6 lu7 mu0 mu1 mu2 mu3 mu4 mu5 mu6 mu7
    have Ha15 := Lib.hid (Ha14.out.trans GC.out.low)
    have Hb15 := Lib.hid (Hb14.out.trans GC.out.low)
    have Hc15 := Lib.hid (Hc14.out.trans GC.out.low)
    have Hk15 := Lib.hid (Hk14.out.trans GC.out.low)
    have Hl15 := Lib.hid (Hl14.out.trans GC.out.low)
    have Hm15 := Lib.hid (Hm14.out.trans GC.out.low)
    have QkS := Lib.hid (QkR.out.low ((GB.out.trans GC.out).low))
    have QlS := Lib.hid (QlR.out.low ((GB.out.trans GC.out).low))
    clear VO1 VO2 VO3 VO4 VOA VOW KH
    obtain ⟨kx0, kx1, kx2, kx3, kx4, kx5, kx6, kx7⟩ := low_boxN w8.heap.size Hk15.out (by simp)
    go_wp2_with fail
    have CA := Canon_c k _ _ _ QkS.out SK.out
    rw [TK.out] at CA
    change Calls _ _ _ _ (CanPost k 0 _) at CA
    refine CA.mono ?_
    rintro e w11 ⟨nai, nci, nan, ncn, rfl, hrep, g⟩
    have Ha16 := Lib.hid (Ha15.out.trans g)
    have Hb16 := Lib.hid (Hb15.out.trans g)
    have Hc16 := Lib.hid (Hc15.out.trans g)
    have Hk16 := Lib.hid (Hk15.out.trans g)
    have Hl16 := Lib.hid (Hl15.out.trans g)
    have Hm16 := Lib.hid (Hm15.out.trans g)
    have Rn := Lib.hid hrep.any
    have QkT := Lib.hid (QkS.out.low g)
    have QlT := Lib.hid (QlS.out.low g)
    clear g hrep CA
    clear kx0 kx1 kx2 kx3 kx4 kx5 kx6 kx7
    obtain ⟨ax0, ax1, ax2, ax3, ax4, ax5, ax6, ax7⟩ := low_boxB w.heap.size Ha16.out (by simp)
    obtain ⟨bx0, bx1, bx2, bx3, bx4, bx5, bx6, bx7⟩ := low_boxB (w.heap.size + 1) Hb16.out (by simp)
    obtain ⟨cx0, cx1, cx2, cx3, cx4, cx5, cx6, cx7⟩ := low_boxB (w.heap.size + 2) Hc16.out (by simp)
    go_wp2_with fail
    have Ha17 := Lib.hid (Ha16.out.trans (Low.alloc (Low.refl w11) (.cells #[.int .i64 k.h.k, .bool k.h.b, .int .i64 k.h.n, .string k.h.s, .string k.h.t, .string k.h.i, .slice nai k.l.length nci, .slice nan k.ns.length ncn] 27)))
    have Hb17 := Lib.hid (Hb16.out.trans (Low.alloc (Low.refl w11) (.cells #[.int .i64 k.h.k, .bool k.h.b, .int .i64 k.h.n, .string k.h.s, .string k.h.t, .string k.h.i, .slice nai k.l.length nci, .slice nan k.ns.length ncn] 27)))
    have Hc17 := Lib.hid (Hc16.out.trans (Low.alloc (Low.refl w11) (.cells #[.int .i64 k.h.k, .bool k.h.b, .int .i64 k.h.n, .string k.h.s, .string k.h.t, .string k.h.i, .slice nai k.l.length nci, .slice nan k.ns.length ncn] 27)))
    have Hk17 := Lib.hid (Hk16.out.trans (Low.alloc (Low.refl w11) (.cells #[.int .i64 k.h.k, .bool k.h.b, .int .i64 k.h.n, .string k.h.s, .string k.h.t, .string k.h.i, .slice nai k.l.length nci, .slice nan k.ns.length ncn] 27)))
    have Hl17 := Lib.hid (Hl16.out.trans (Low.alloc (Low.refl w11) (.cells #[.int .i64 k.h.k, .bool k.h.b, .int .i64 k.h.n, .string k.h.s, .string k.h.t, .string k.h.i, .slice nai k.l.length nci, .slice nan k.ns.length ncn] 27)))
    have Hm17 := Lib.hid (Hm16.out.trans (Low.alloc (Low.refl w11) (.cells #[.int .i64 k.h.k, .bool k.h.b, .int .i64 k.h.n, .string k.h.s, .string k.h.t, .string k.h.i, .slice nai k.l.length nci, .slice nan k.ns.length ncn] 27)))
    have Hn17 := Lib.hid (Low.refl (w11.alloc (.cells #[.int .i64 k.h.k, .bool k.h.b, .int .i64 k.h.n, .string k.h.s, .string k.h.t, .string k.h.i, .slice nai k.l.length nci, .slice nan k.ns.length ncn] 27)))
    have Bn := Lib.hid (Low.alloc (Low.refl w11) (.cells #[.int .i64 k.h.k, .bool k.h.b, .int .i64 k.h.n, .string k.h.s, .string k.h.t, .string k.h.i, .slice nai k.l.length nci, .slice nan k.ns.length ncn] 27))
    have row := row4 (w := w11.alloc (.cells #[.int .i64 k.h.k, .bool k.h.b, .int .i64 k.h.n, .string k.h.s, .string k.h.t, .string k.h.i, .slice nai k.l.length nci, .slice nan k.ns.length ncn] 27)) (p := ⟨a, aai, aci, aan, acn⟩) (q := ⟨b, bai, bci, ban, bcn⟩) (r := ⟨c, cai, cci, can, ccn⟩) (s := ⟨a, aai, aci, aan, acn⟩) ((Ra.out.low Hc17.out)) ((Rb.out.low Hc17.out)) ((Rc.out.low Hc17.out)) ((Ra.out.low Hc17.out)) (w11.heap.size + 1) (by simp)
    have CA := Canon_c (sV [a, b, c, a]) _ _ _ row (sm_set (by simp) (mem4 Sa.out Sb.out Sc.out Sa.out))
    rw [HQS.out] at CA
    change Calls _ _ _ _ (CanPost s es _) at CA
    refine CA.mono ?_
    rintro e w12 ⟨sai, sci, san, scn, rfl, hrep, g⟩
    have lg := (Low.alloc (Low.refl (w11.alloc (.cells #[.int .i64 k.h.k, .bool k.h.b, .int .i64 k.h.n, .string k.h.s, .string k.h.t, .string k.h.i, .slice nai k.l.length nci, .slice nan k.ns.length ncn] 27))) _).trans g
    have Ha18 := Lib.hid (Ha17.out.trans lg)
    have Hb18 := Lib.hid (Hb17.out.trans lg)
    have Hc18 := Lib.hid (Hc17.out.trans lg)
    have Hk18 := Lib.hid (Hk17.out.trans lg)
    have Hl18 := Lib.hid (Hl17.out.trans lg)
    have Hm18 := Lib.hid (Hm17.out.trans lg)
    have Hn18 := Lib.hid (Hn17.out.trans lg)
    have Rs := Lib.hid hrep.any
    have RnA := Lib.hid (Rn.out.low (Bn.out.trans lg))
    have QkU := Lib.hid (QkT.out.low (Bn.out.trans lg))
    have QlU := Lib.hid (QlT.out.low (Bn.out.trans lg))
    clear lg g hrep CA row
    clear ax0 ax1 ax2 ax3 ax4 ax5 ax6 ax7 bx0 bx1 bx2 bx3 bx4 bx5 bx6 bx7 cx0 cx1 cx2 cx3 cx4 cx5 cx6 cx7
    obtain ⟨ax0, ax1, ax2, ax3, ax4, ax5, ax6, ax7⟩ := low_boxB w.heap.size Ha18.out (by simp)
    obtain ⟨bx0, bx1, bx2, bx3, bx4, bx5, bx6, bx7⟩ := low_boxB (w.heap.size + 1) Hb18.out (by simp)
    obtain ⟨cx0, cx1, cx2, cx3, cx4, cx5, cx6, cx7⟩ := low_boxB (w.heap.size + 2) Hc18.out (by simp)
    go_wp2_with fail
    have Ha19 := Lib.hid (Ha18.out.trans (Low.alloc (Low.refl w12) (.cells #[.int .i64 s.h.k, .bool s.h.b, .int .i64 s.h.n, .string s.h.s, .string s.h.t, .string s.h.i, .slice sai s.l.length sci, .slice san s.ns.length scn] 27)))
    have Hb19 := Lib.hid (Hb18.out.trans (Low.alloc (Low.refl w12) (.cells #[.int .i64 s.h.k, .bool s.h.b, .int .i64 s.h.n, .string s.h.s, .string s.h.t, .string s.h.i, .slice sai s.l.length sci, .slice san s.ns.length scn] 27)))
    have Hc19 := Lib.hid (Hc18.out.trans (Low.alloc (Low.refl w12) (.cells #[.int .i64 s.h.k, .bool s.h.b, .int .i64 s.h.n, .string s.h.s, .string s.h.t, .string s.h.i, .slice sai s.l.length sci, .slice san s.ns.length scn] 27)))
    have Hk19 := Lib.hid (Hk18.out.trans (Low.alloc (Low.refl w12) (.cells #[.int .i64 s.h.k, .bool s.h.b, .int .i64 s.h.n, .string s.h.s, .string s.h.t, .string s.h.i, .slice sai s.l.length sci, .slice san s.ns.length scn] 27)))
    have Hl19 := Lib.hid (Hl18.out.trans (Low.alloc (Low.refl w12) (.cells #[.int .i64 s.h.k, .bool s.h.b, .int .i64 s.h.n, .string s.h.s, .string s.h.t, .string s.h.i, .slice sai s.l.length sci, .slice san s.ns.length scn] 27)))
    have Hm19 := Lib.hid (Hm18.out.trans (Low.alloc (Low.refl w12) (.cells #[.int .i64 s.h.k, .bool s.h.b, .int .i64 s.h.n, .string s.h.s, .string s.h.t, .string s.h.i, .slice sai s.l.length sci, .slice san s.ns.length scn] 27)))
    have Hn19 := Lib.hid (Hn18.out.trans (Low.alloc (Low.refl w12) (.cells #[.int .i64 s.h.k, .bool s.h.b, .int .i64 s.h.n, .string s.h.s, .string s.h.t, .string s.h.i, .slice sai s.l.length sci, .slice san s.ns.length scn] 27)))
    have Hs19 := Lib.hid (Low.refl (w12.alloc (.cells #[.int .i64 s.h.k, .bool s.h.b, .int .i64 s.h.n, .string s.h.s, .string s.h.t, .string s.h.i, .slice sai s.l.length sci, .slice san s.ns.length scn] 27)))
    have Bs := Lib.hid (Low.alloc (Low.refl w12) (.cells #[.int .i64 s.h.k, .bool s.h.b, .int .i64 s.h.n, .string s.h.s, .string s.h.t, .string s.h.i, .slice sai s.l.length sci, .slice san s.ns.length scn] 27))
    have row := row3 (w := w12.alloc (.cells #[.int .i64 s.h.k, .bool s.h.b, .int .i64 s.h.n, .string s.h.s, .string s.h.t, .string s.h.i, .slice sai s.l.length sci, .slice san s.ns.length scn] 27)) (p := ⟨c, cai, cci, can, ccn⟩) (q := ⟨a, aai, aci, aan, acn⟩) (r := ⟨b, bai, bci, ban, bcn⟩) ((Rc.out.low Hc19.out)) ((Ra.out.low Hc19.out)) ((Rb.out.low Hc19.out)) (w12.heap.size + 1) (by simp)
    have CA := Canon_c (sV [c, a, b]) _ _ _ row (sm_set (by simp) (mem3 Sc.out Sa.out Sb.out))
    rw [HQT.out] at CA
    change Calls _ _ _ _ (CanPost s es _) at CA
    refine CA.mono ?_
    rintro e w13 ⟨tai, tci, tan, tcn, rfl, hrep, g⟩
    have lg := (Low.alloc (Low.refl (w12.alloc (.cells #[.int .i64 s.h.k, .bool s.h.b, .int .i64 s.h.n, .string s.h.s, .string s.h.t, .string s.h.i, .slice sai s.l.length sci, .slice san s.ns.length scn] 27))) _).trans g
    have Ha20 := Lib.hid (Ha19.out.trans lg)
    have Hb20 := Lib.hid (Hb19.out.trans lg)
    have Hc20 := Lib.hid (Hc19.out.trans lg)
    have Hk20 := Lib.hid (Hk19.out.trans lg)
    have Hl20 := Lib.hid (Hl19.out.trans lg)
    have Hm20 := Lib.hid (Hm19.out.trans lg)
    have Hn20 := Lib.hid (Hn19.out.trans lg)
    have Hs20 := Lib.hid (Hs19.out.trans lg)
    have Rt := Lib.hid hrep.any
    have RnB := Lib.hid (RnA.out.low (Bs.out.trans lg))
    have QkV := Lib.hid (QkU.out.low (Bs.out.trans lg))
    have QlV := Lib.hid (QlU.out.low (Bs.out.trans lg))
    have RsB := Lib.hid (Rs.out.low (Bs.out.trans lg))
    clear lg g hrep CA row
    clear ax0 ax1 ax2 ax3 ax4 ax5 ax6 ax7 bx0 bx1 bx2 bx3 bx4 bx5 bx6 bx7 cx0 cx1 cx2 cx3 cx4 cx5 cx6 cx7
    rcases HES.out with rfl | ⟨rfl, hold⟩
    · go_wp2_with fail
      go_ret
      exact ⟨rfl, L0.out.trans (Hc20.out.alloc _)⟩
    obtain ⟨nx0, nx1, nx2, nx3, nx4, nx5, nx6, nx7⟩ := low_boxB w11.heap.size Hn20.out (by simp)
    obtain ⟨kx0, kx1, kx2, kx3, kx4, kx5, kx6, kx7⟩ := low_boxB w8.heap.size Hk20.out (by simp)
    have HOLD := Lib.hid hold
    clear hold
    go_wp2_with fail
    have Ha21 := Lib.hid (Ha20.out.trans (Low.alloc (Low.refl w13) (.cells #[.int .i64 s.h.k, .bool s.h.b, .int .i64 s.h.n, .string s.h.s, .string s.h.t, .string s.h.i, .slice tai s.l.length tci, .slice tan s.ns.length tcn] 27)))
    have Hb21 := Lib.hid (Hb20.out.trans (Low.alloc (Low.refl w13) (.cells #[.int .i64 s.h.k, .bool s.h.b, .int .i64 s.h.n, .string s.h.s, .string s.h.t, .string s.h.i, .slice tai s.l.length tci, .slice tan s.ns.length tcn] 27)))
    have Hc21 := Lib.hid (Hc20.out.trans (Low.alloc (Low.refl w13) (.cells #[.int .i64 s.h.k, .bool s.h.b, .int .i64 s.h.n, .string s.h.s, .string s.h.t, .string s.h.i, .slice tai s.l.length tci, .slice tan s.ns.length tcn] 27)))
    have Hk21 := Lib.hid (Hk20.out.trans (Low.alloc (Low.refl w13) (.cells #[.int .i64 s.h.k, .bool s.h.b, .int .i64 s.h.n, .string s.h.s, .string s.h.t, .string s.h.i, .slice tai s.l.length tci, .slice tan s.ns.length tcn] 27)))
    have Hl21 := Lib.hid (Hl20.out.trans (Low.alloc (Low.refl w13) (.cells #[.int .i64 s.h.k, .bool s.h.b, .int .i64 s.h.n, .string s.h.s, .string s.h.t, .string s.h.i, .slice tai s.l.length tci, .slice tan s.ns.length tcn] 27)))
    have Hm21 := Lib.hid (Hm20.out.trans (Low.alloc (Low.refl w13) (.cells #[.int .i64 s.h.k, .bool s.h.b, .int .i64 s.h.n, .string s.h.s, .string s.h.t, .string s.h.i, .slice tai s.l.length tci, .slice tan s.ns.length tcn] 27)))
    have Hn21 := Lib.hid (Hn20.out.trans (Low.alloc (Low.refl w13) (.cells #[.int .i64 s.h.k, .bool s.h.b, .int .i64 s.h.n, .string s.h.s, .string s.h.t, .string s.h.i, .slice tai s.l.length tci, .slice tan s.ns.length tcn] 27)))
    have Hs21 := Lib.hid (Hs20.out.trans (Low.alloc (Low.refl w13) (.cells #[.int .i64 s.h.k, .bool s.h.b, .int .i64 s.h.n, .string s.h.s, .string s.h.t, .string s.h.i, .slice tai s.l.length tci, .slice tan s.ns.length tcn] 27)))
    have Ht21 := Lib.hid (Low.refl (w13.alloc (.cells #[.int .i64 s.h.k, .bool s.h.b, .int .i64 s.h.n, .string s.h.s, .string s.h.t, .string s.h.i, .slice tai s.l.length tci, .slice tan s.ns.length tcn] 27)))
    have Bt := Lib.hid (Low.alloc (Low.refl w13) (.cells #[.int .i64 s.h.k, .bool s.h.b, .int .i64 s.h.n, .string s.h.s, .string s.h.t, .string s.h.i, .slice tai s.l.length tci, .slice tan s.ns.length tcn] 27))
    have CB := whole_c k k _ _ _ _ _ (RnB.out.low Bt.out) (QkV.out.low Bt.out)
    rw [eqB_refl] at CB
    refine CB.mono ?_
    rintro e w14 ⟨rfl, g⟩
    have Ha22 := Lib.hid (Ha21.out.trans g.low)
    have Hb22 := Lib.hid (Hb21.out.trans g.low)
    have Hc22 := Lib.hid (Hc21.out.trans g.low)
    have Hk22 := Lib.hid (Hk21.out.trans g.low)
    have Hl22 := Lib.hid (Hl21.out.trans g.low)
    have Hm22 := Lib.hid (Hm21.out.trans g.low)
    have Hn22 := Lib.hid (Hn21.out.trans g.low)
    have Hs22 := Lib.hid (Hs21.out.trans g.low)
    have Ht22 := Lib.hid (Ht21.out.trans g.low)
    have RsC := Lib.hid (RsB.out.low (Bt.out.trans g.low))
    have RtC := Lib.hid (Rt.out.low (Bt.out.trans g.low))
    have QlW := Lib.hid (QlV.out.low (Bt.out.trans g.low))
    clear g CB
    clear nx0 nx1 nx2 nx3 nx4 nx5 nx6 nx7 kx0 kx1 kx2 kx3 kx4 kx5 kx6 kx7
    obtain ⟨sx0, sx1, sx2, sx3, sx4, sx5, sx6, sx7⟩ := low_boxN w12.heap.size Hs22.out (by simp)
    obtain ⟨tx0, tx1, tx2, tx3, tx4, tx5, tx6, tx7⟩ := low_boxN w13.heap.size Ht22.out (by simp)
    go_wp2_with fail
    have CB := same_c s s _ _ _ _ _ RsC.out RtC.out
    rw [ord_same] at CB
    refine CB.mono ?_
    rintro e w15 ⟨rfl, g⟩
    have Ha23 := Lib.hid (Ha22.out.trans g.low)
    have Hb23 := Lib.hid (Hb22.out.trans g.low)
    have Hc23 := Lib.hid (Hc22.out.trans g.low)
    have Hk23 := Lib.hid (Hk22.out.trans g.low)
    have Hl23 := Lib.hid (Hl22.out.trans g.low)
    have Hm23 := Lib.hid (Hm22.out.trans g.low)
    have Hn23 := Lib.hid (Hn22.out.trans g.low)
    have Hs23 := Lib.hid (Hs22.out.trans g.low)
    have Ht23 := Lib.hid (Ht22.out.trans g.low)
    have RsD := Lib.hid (RsC.out.low g.low)
    have QlX := Lib.hid (QlW.out.low g.low)
    clear g CB
    clear sx0 sx1 sx2 sx3 sx4 sx5 sx6 sx7 tx0 tx1 tx2 tx3 tx4 tx5 tx6 tx7
    obtain ⟨sx0, sx1, sx2, sx3, sx4, sx5, sx6, sx7⟩ := low_boxN w12.heap.size Hs23.out (by simp)
    obtain ⟨lx0, lx1, lx2, lx3, lx4, lx5, lx6, lx7⟩ := low_boxN w9.heap.size Hl23.out (by simp)
    go_wp2_with fail
    have CB := holds_c s l _ _ _ _ _ RsD.out QlX.out
    rw [HOLD.out] at CB
    refine CB.mono ?_
    rintro e w16 ⟨rfl, g⟩
    have Ha24 := Lib.hid (Ha23.out.trans g.low)
    have Hb24 := Lib.hid (Hb23.out.trans g.low)
    have Hc24 := Lib.hid (Hc23.out.trans g.low)
    have Hk24 := Lib.hid (Hk23.out.trans g.low)
    have Hl24 := Lib.hid (Hl23.out.trans g.low)
    have Hm24 := Lib.hid (Hm23.out.trans g.low)
    have Hn24 := Lib.hid (Hn23.out.trans g.low)
    have Hs24 := Lib.hid (Hs23.out.trans g.low)
    have Ht24 := Lib.hid (Ht23.out.trans g.low)
    go_wp2_with fail
    go_ret
    exact ⟨rfl, L0.out.trans Hc24.out⟩
end Go.Proofs.Ytkjkhjkbedgcfaa
