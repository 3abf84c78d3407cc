/- A record as it must be, the reference's way: any items, no more than 70000. -/
import Derived.Test.YtnchohglplobeaaGreatZRCanWq1
set_option linter.unusedVariables false
set_option linter.unusedSimpArgs false
set_option linter.unnecessarySimpa false
namespace Go.Proofs.YtnchohglplobeaaGreat
open Go.RowKit Go.Sort
set_option maxHeartbeats 8000000 in
set_option maxRecDepth 100000 in
theorem rcanRec_c (b : Bool) (nn : Int) (s t i0 : ByteArray) (l : List V) (ns : List ByteArray) (w : World) (vai van : Option Addr) (vci vcn : Nat) (ih : ∀ x ∈ l, CanC 89 x) (hs : l.length ≤ 70000 ∧ ∀ x ∈ l, Smv x) (hns : ns.length ≤ 70000) (hn : Na w ns (.slice van ns.length vcn)) (hlen : ns.length = l.length) (hl : Ro w l (.slice vai l.length vci)) :
  Calls Tryz.prog 89 #[.agg #[.int .i64 6, .bool b, .int .i64 nn, .string s, .string t, .string i0, .slice vai l.length vci, .slice van ns.length vcn]] w (CanPost (recS ns l).2 (recS ns l).1 w) := by
 have mixed : Tryz.prog.follows .mixedOrders = true := by kernel_rfl
 obtain ⟨hs1, hs2⟩ := hs
 have HL := Lib.hid hl
 have HI := Lib.hid ih
 have HS := Lib.hid hs2
 have ON := Lib.hid (outSt_new w (V.mk ⟨6, b, nn, s, t, i0⟩ l ns) (.slice vai l.length vci) (.slice van ns.length vcn) 6 27 [] rfl)
 clear hl ih hs2
 have HN := Lib.hid hn
 have HLEN := Lib.hid hlen
 have hz : ((ns.length : Int) != (l.length : Int)) = false := by simp; omega
 clear hn hlen
 obtain ⟨W3, hW3⟩ : ∃ W, W = (((w.alloc (.cells #[.int .i64 6, .bool b, .int .i64 nn, .string s, .string t, .string i0, .slice vai l.length vci, .slice van ns.length vcn] 27)).alloc (.cells #[.int .i64 0, .bool false, .int .i64 0, .string ⟨#[]⟩, .string ⟨#[]⟩, .string ⟨#[]⟩, .slice none 0 0, .slice none 0 0] 27)).alloc (.cells #[.int .i64 6, .bool false, .int .i64 0, .string ⟨#[]⟩, .string ⟨#[]⟩, .string ⟨#[]⟩, .slice none 0 0, .slice none 0 0] 27)) := ⟨_, rfl⟩
 have ST3 : Hid (OutSt w W3 (V.mk ⟨6, b, nn, s, t, i0⟩ l ns) (.slice vai l.length vci) (.slice van ns.length vcn) (.slice none 0 0) [] 6 (.slice none 0 0) (.slice none 0 0) [] []) := by rw [hW3]; exact ON.out
 have s3 : W3.heap.size = w.heap.size + 3 := by rw [hW3]; simp
 clear ON
 go_enter Tryz.func89, Tryz.ntmps89
 go_wp2_with fail
 rw [← hW3]
 have S3 := Lib.hid s3
 clear hW3 s3
 go_loopg [5, 6] l.length (fun gk vs vi wr => ∃ (v : Value) (i : Nat) (ps : List El), v = vs ∧ vi = .int .i64 (i : Int) ∧ i ≤ l.length ∧ l.length - i ≤ gk ∧ Hid (Low W3 wr) ∧ Hid ((∀ x ∈ l.take i, (can x).1 = 0) ∧ ps.map (·.v) = (l.take i).map fun x => (can x).2) ∧ Hid (OwnVv W3.heap.size wr v ps) ∧ Hid (∀ p ∈ ps, ElOk (fun b => W3.heap.size ≤ b ∧ some b ≠ v.ownBlock) wr p))
 case atStart => exact ⟨_, 0, [], rfl, rfl, Nat.zero_le _, Nat.le_refl _, Lib.hid (Low.refl _), Lib.hid ⟨by simp, by simp⟩, Lib.hid (OwnR.nil _ _ _ _ _), Lib.hid (by simp)⟩
 case round =>
  obtain ⟨v, i, ps, rfl, rfl, hi, hg, G, K, O, E⟩ := hrel
  have hpl : ps.length = i := by have := congrArg List.length K.out.2; simpa [hi] using this
  obtain ⟨bx0, bx6, bx7⟩ := (ST3.out.grow G.out).boxes
  have bk0 : wr.cell? ⟨w.heap.size, 0, none⟩ = some (.int .i64 6) := bx0
  have bk6 : wr.cell? ⟨w.heap.size, 6, none⟩ = some (.slice vai l.length vci) := bx6
  clear bx0 bx6 bx7
  by_cases hlt : i < l.length
  ·have z1 : (i : Int) < (l.length : Int) := by omega
   obtain ⟨b9, o9, ai, ci, an, cn, rfl, hcs, hrx⟩ := ro_at (HL.out.low (ST3.out.low.trans G.out)) hlt
   obtain ⟨e0, e1, e2, e3, e4, e5, e6, e7⟩ := cells8 hcs
   have hcon := HI.out l[i] (List.getElem_mem hlt) _ _ _ hrx (HS.out _ (List.getElem_mem hlt))
   obtain ⟨y, hy⟩ : ∃ y, y = (can l[i]).2 := ⟨_, rfl⟩
   obtain ⟨c, hc⟩ : ∃ c, c = (can l[i]).1 := ⟨_, rfl⟩
   rw [← hy, ← hc] at hcon
   have HC := Lib.hid hcon
   have HY := Lib.hid hy
   have HZ := Lib.hid hc
   clear hcon hcs hrx hy hc
   unfold avv at HC
   go_wp2_with fail
   refine HC.out.mono ?_
   rintro e w1 ⟨bi, di, bn, dn, rfl, hrep, hlow⟩
   have L1 := Lib.hid hlow
   have hsz : W3.heap.size ≤ wr.heap.size := G.out.size
   have hsz1 : wr.heap.size ≤ w1.heap.size := L1.out.size
   have HR := Lib.hid hrep
   clear hrep hlow bk0 bk6 e0 e1 e2 e3 e4 e5 e6 e7
   by_cases h0 : c = 0
   ·subst h0
    have hown := (O.out.low L1.out)
    have HO := Lib.hid hown
    clear hown
    go_wp2_with (first
     | (at_builtin; refine appR rfl _ _ _ rfl Tryz.underlying24 v_infov rfl (by decide) (by decide) encV_lenv encV_onev W3.heap.size v ps rfl ((HO.out.alloc _).alloc _) ⟨y, bi, di, bn, dn⟩ ⟨w1.heap.size + 1, 0, none⟩ 1 rfl (fun j u hj => newcell_at _ _ _ _ _ rfl hj) (by omega) (by show W3.heap.size ≤ ((w1.alloc _).alloc _).heap.size; simp; omega) ?_; intro v2 w2 h2 b2 k2 n2))
    have W1 := Lib.hid ((Low.alloc (Low.alloc (Low.refl w1) (.cells #[.int .i64 y.h.k, .bool y.h.b, .int .i64 y.h.n, .string y.h.s, .string y.h.t, .string y.h.i, .slice bi y.l.length di, .slice bn y.ns.length dn] 27)) (.cells #[.int .i64 y.h.k, .bool y.h.b, .int .i64 y.h.n, .string y.h.s, .string y.h.t, .string y.h.i, .slice bi y.l.length di, .slice bn y.ns.length dn] 27)))
    have hE := el_step hsz E.out L1.out W1.out (q := ⟨y, bi, di, bn, dn⟩) HR.out O.out k2 n2
    have hL : Low W3 w2 := ((G.out.trans L1.out).trans W1.out).trans_below b2 (Nat.le_refl _)
    have HE := Lib.hid hE
    have HL2 := Lib.hid hL
    have H2 := Lib.hid h2
    have hk : (∀ x ∈ l.take (i + 1), (can x).1 = 0) ∧ (ps ++ [(⟨y, bi, di, bn, dn⟩ : El)]).map (·.v) = (l.take (i + 1)).map fun x => (can x).2 := by
     rw [List.take_succ_eq_append_getElem hlt]
     refine ⟨fun x hx => ?_, ?_⟩
     ·rcases List.mem_append.1 hx with hx | hx
      ·exact K.out.1 x hx
      ·simp at hx; rw [hx]; exact HZ.out.symm
     ·rw [List.map_append, List.map_append, K.out.2, List.map_singleton, List.map_singleton, ← HY.out]
    have HK := Lib.hid hk
    clear hE hL h2 b2 k2 n2 hk
    go_wp2_with fail
    go_roundg (l.length - (i + 1))
    case measure => omega
    case rel => exact ⟨v2, i + 1, _, rfl, by go_num, by omega, by omega, HL2, HK, H2, HE⟩
   ·have he : (canL l).1 = c := by rw [HZ.out]; exact canL_at hlt K.out.1 (by rw [← HZ.out]; exact h0)
    have hcan : recS ns l = (c, V0) := by
     unfold recS
     rw [if_pos HLEN.out, he, if_neg h0]
    have HCAN := Lib.hid hcan
    obtain ⟨WE, hWE⟩ : ∃ W, W = w1.alloc (.cells #[.int .i64 y.h.k, .bool y.h.b, .int .i64 y.h.n, .string y.h.s, .string y.h.t, .string y.h.i, .slice bi y.l.length di, .slice bn y.ns.length dn] 27) := ⟨_, rfl⟩
    have LE : Hid (Low W3 WE) := Lib.hid ((G.out.trans L1.out).trans (hWE ▸ Low.alloc (Low.refl w1) _))
    have RE := Lib.hid (ST3.out.grow LE.out).res
    have hpre : ∀ {a u}, WE.cell? a = some u → (w1.alloc (.cells #[.int .i64 y.h.k, .bool y.h.b, .int .i64 y.h.n, .string y.h.s, .string y.h.t, .string y.h.i, .slice bi y.l.length di, .slice bn y.ns.length dn] 27)).cell? a = some u := fun {a u} h => hWE ▸ h
    have hpre2 : ∀ {a}, WE.frozen? a = false → (w1.alloc (.cells #[.int .i64 y.h.k, .bool y.h.b, .int .i64 y.h.n, .string y.h.s, .string y.h.t, .string y.h.i, .slice bi y.l.length di, .slice bn y.ns.length dn] 27)).frozen? a = false := fun {a} h => hWE ▸ h
    obtain ⟨⟨d0, d1, d2, d3, d4, d5, d6, d7⟩, g0, g1, g2, g3, g4, g5, g6, g7⟩ := RE.out.facts
    replace d0 := hpre d0
    replace d1 := hpre d1
    replace d2 := hpre d2
    replace d3 := hpre d3
    replace d4 := hpre d4
    replace d5 := hpre d5
    replace d6 := hpre d6
    replace d7 := hpre d7
    replace g0 := hpre2 g0
    replace g1 := hpre2 g1
    replace g2 := hpre2 g2
    replace g3 := hpre2 g3
    replace g4 := hpre2 g4
    replace g5 := hpre2 g5
    replace g6 := hpre2 g6
    replace g7 := hpre2 g7
    clear hpre hpre2 he hcan
    go_wp2_with fail
    refine bodyPost_ret (v := .tuple #[.agg #[.int .i64 0, .bool false, .int .i64 0, .string ⟨#[]⟩, .string ⟨#[]⟩, .string ⟨#[]⟩, .slice none 0 0, .slice none 0 0], .int .i64 c]) (by simp [results, Tryz.results89, go_sem, World.cell?_setCell_same', d0, d1, d2, d3, d4, d5, d6, d7]; try rfl) rfl ?_
    rw [← hWE]
    have K8 := kept8 WE (w.heap.size + 1) (.int .i64 0) (.bool false) (.int .i64 0) (.string ⟨#[]⟩) (.string ⟨#[]⟩) (.string ⟨#[]⟩) (.slice none 0 0) (.slice none 0 0)
    rw [HCAN.out]
    exact ⟨none, 0, none, 0, rfl, rep_V0 _ _, (ST3.out.low.trans LE.out).kept K8 fun g hg => by simp at hg; omega⟩
  ·have z1 : ¬ (i : Int) < (l.length : Int) := by omega
   have htk : l.take i = l := List.take_of_length_le (by omega)
   obtain ⟨lao, lcap, hv, hc1, hc2, lblk⟩ := O.out.shape
   subst hv
   by_cases hlong : 4096 < l.length
   ·have hcan : recS ns l = (12, V0) := by
     unfold recS
     rw [if_pos HLEN.out, canL_long hlong fun x hx => K.out.1 x (by rw [htk]; exact hx), if_neg (by decide)]
    have HCAN := Lib.hid hcan
    have zlong : (4096 : Int) < (ps.length : Int) := by omega
    have RE := Lib.hid (ST3.out.grow G.out).res
    obtain ⟨⟨d0, d1, d2, d3, d4, d5, d6, d7⟩, g0, g1, g2, g3, g4, g5, g6, g7⟩ := RE.out.facts
    clear hcan lblk hlong htk
    go_wp2_with fail
    refine bodyPost_ret (v := .tuple #[.agg #[.int .i64 0, .bool false, .int .i64 0, .string ⟨#[]⟩, .string ⟨#[]⟩, .string ⟨#[]⟩, .slice none 0 0, .slice none 0 0], .int .i64 12]) (by simp [results, Tryz.results89, go_sem, World.cell?_setCell_same', d0, d1, d2, d3, d4, d5, d6, d7]; try rfl) rfl ?_
    have K8 := kept8 wr (w.heap.size + 1) (.int .i64 0) (.bool false) (.int .i64 0) (.string ⟨#[]⟩) (.string ⟨#[]⟩) (.string ⟨#[]⟩) (.slice none 0 0) (.slice none 0 0)
    rw [HCAN.out]
    exact ⟨none, 0, none, 0, rfl, rep_V0 _ _, (ST3.out.low.trans G.out).kept K8 fun g hg => by simp at hg; omega⟩
   have hmid := ST3.out.mid G.out S3.out O.out E.out
   have MID := Lib.hid hmid
   have hpe : ps.length = l.length := by omega
   have HPE := Lib.hid hpe
   have hcn : ∀ q ∈ ps, Cn q.v := fun q hq => by
    have h1 : q.v ∈ ps.map (·.v) := List.mem_map.2 ⟨q, hq, rfl⟩
    rw [K.out.2, htk] at h1
    obtain ⟨x, hx, he⟩ := List.mem_map.1 h1
    rw [← he]
    exact can_cn (K.out.1 x (by rw [htk]; exact hx))
   have CNP := Lib.hid hcn
   have hcanl := canL_of (l := l) (by omega) fun x hx => K.out.1 x (by rw [htk]; exact hx)
   have hpv := K.out.2
   rw [htk] at hpv
   have z40 : ¬ (4096 : Int) < (ps.length : Int) := by omega
   have z20 : ps.length ≤ 70000 := by omega
   have LBLK := Lib.hid lblk
   have hcan : recS ns l = recC ns (ps.map (·.v)) := by
    unfold recS
    rw [if_pos HLEN.out, hcanl, if_pos rfl, hpv]
   have HCAN := Lib.hid hcan
   have wl0 : wr.cell? ⟨w.heap.size, 6, none⟩ = some (.slice vai l.length vci) := bk6
   clear hcan hcanl hpv htk hmid hcn lblk G K O E hi hlt hpl hg hpe
   go_wp2_with fail
   obtain ⟨WL, hWL⟩ : ∃ W, W = wr := ⟨_, rfl⟩
   have ML : Hid (OutSt w WL (V.mk ⟨6, b, nn, s, t, i0⟩ l ns) (.slice vai l.length vci) (.slice van ns.length vcn) (.slice lao ps.length lcap) ps 6 (.slice none 0 0) (.slice none 0 0) [] []) := by rw [hWL]; exact MID
   rw [← hWL]
   clear MID bk0 bk6 wl0 hWL LBLK
   have hnamed : ps = [] ∨ ∃ nb no, van = some ⟨nb, no, none⟩ ∧ ∀ j (hj : j < ns.length), w.cell? ⟨nb, no + j, none⟩ = some (.string ns[j]) := by
    obtain ⟨q1, q2, q3, -, -, q4⟩ := HN.out
    simp only [Value.slice.injEq] at q3
    obtain ⟨rfl, -, rfl⟩ := q3
    rcases q4 with h | ⟨nb, no, h1, -, h2⟩
    ·refine .inl (List.eq_nil_of_length_eq_zero ?_)
     have h3 := HLEN.out
     rw [h] at h3
     rw [HPE.out]
     exact h3.symm
    ·exact .inr ⟨nb, no, h1, h2⟩
   have HNB := Lib.hid hnamed
   have HSZ := Lib.hid (show ∀ x ∈ ns, x.size ≤ 9223372036854775807 by obtain ⟨_, _, _, _, h, _⟩ := HN.out; exact h)
   clear hnamed
   go_loopg [9] ps.length (fun gk vi wr => ∃ (i : Nat) (a b2 : Value) (fs : List Fd), vi = .int .i64 (i : Int) ∧ i ≤ ps.length ∧ ps.length - i ≤ gk ∧ Hid (OutSt w wr (V.mk ⟨6, b, nn, s, t, i0⟩ l ns) (.slice vai l.length vci) (.slice van ns.length vcn) (.slice lao ps.length lcap) ps 6 a b2 (fs.map (·.p)) (fs.map (·.name))) ∧ Hid (fs.Perm ((zipF ns ps).take i)) ∧ Hid (Rises cmpT (fs.map (·.name))) ∧ Hid (fs = [] → a = (.slice none 0 0) ∧ b2 = (.slice none 0 0)))
   case atStart => exact ⟨0, _, _, [], rfl, Nat.zero_le _, Nat.le_refl _, ML, Lib.hid (by rw [List.take_zero]), Lib.hid (by simp [Rises]), Lib.hid (fun _ => ⟨rfl, rfl⟩)⟩
   case round =>
    obtain ⟨i, a, b2, fs, rfl, hi, hg, ST, PRM, RIS, EMP⟩ := hrel
    obtain ⟨ao, acap, hav, ac1, ac2, ablk⟩ := OwnR.shape ST.out.its
    obtain ⟨bo, bcap, hbv, bc1, bc2, bblk⟩ := OwnR.shape ST.out.nms
    subst hav hbv
    have hfl : fs.length ≤ 70000 := by
     have h1 := PRM.out.length_eq
     rw [List.length_take] at h1
     omega
    obtain ⟨xs, hxs⟩ : ∃ xs, xs = fs.map (·.p) := ⟨_, rfl⟩
    obtain ⟨ys, hys⟩ : ∃ ys, ys = fs.map (·.name) := ⟨_, rfl⟩
    rw [← hxs] at ST ac1
    rw [← hys] at ST bc1
    have HXS := Lib.hid hxs
    have HYS := Lib.hid hys
    have hlx : xs.length = fs.length := by rw [hxs, List.length_map]
    have hly : ys.length = fs.length := by rw [hys, List.length_map]
    have HLX := Lib.hid (show xs.length ≤ fs.length ∧ fs.length ≤ xs.length by omega)
    have HLY := Lib.hid (show ys.length ≤ fs.length ∧ fs.length ≤ ys.length by omega)
    have hxl : xs.length ≤ 70000 := by omega
    have hyl : ys.length ≤ 70000 := by omega
    clear hxs hys hlx hly ablk bblk
    have bk0 : wr.cell? ⟨w.heap.size, 0, none⟩ = some (.int .i64 6) := ST.out.boxes.1
    obtain ⟨⟨oc0, oc1, oc2, oc3, oc4, oc5, oc6, oc7⟩, of6, of7⟩ : (wr.cell? ⟨w.heap.size + 1 + 1, 0, none⟩ = some (.int .i64 6) ∧ wr.cell? ⟨w.heap.size + 1 + 1, 1, none⟩ = some (.bool false) ∧ wr.cell? ⟨w.heap.size + 1 + 1, 2, none⟩ = some (.int .i64 0) ∧ wr.cell? ⟨w.heap.size + 1 + 1, 3, none⟩ = some (.string ⟨#[]⟩) ∧
     wr.cell? ⟨w.heap.size + 1 + 1, 4, none⟩ = some (.string ⟨#[]⟩) ∧ wr.cell? ⟨w.heap.size + 1 + 1, 5, none⟩ = some (.string ⟨#[]⟩) ∧ wr.cell? ⟨w.heap.size + 1 + 1, 6, none⟩ = some (.slice ao xs.length acap) ∧ wr.cell? ⟨w.heap.size + 1 + 1, 7, none⟩ = some (.slice bo ys.length bcap)) ∧ wr.frozen? ⟨w.heap.size + 1 + 1, 6, none⟩ = false ∧ wr.frozen? ⟨w.heap.size + 1 + 1, 7, none⟩ = false := ST.out.out.facts
    by_cases hlt : i < ps.length
    ·have z1 : (i : Int) < (ps.length : Int) := by omega
     have hip : i < ps.length := hlt
     obtain ⟨p, hp⟩ : ∃ p, p = ps[i] := ⟨_, rfl⟩
     obtain ⟨_, _, hlv, -, -, lbk⟩ := OwnR.shape ST.out.lrow
     simp only [Value.slice.injEq] at hlv
     obtain ⟨rfl, -, rfl⟩ := hlv
     rcases lbk with hl0 | ⟨gl, rfl, gl1, gl2⟩
     ·rw [hl0] at hip; simp at hip
     rcases HNB.out with hl0 | ⟨nb, no, rfl, hnc⟩
     ·rw [hl0] at hip; simp at hip
     have hin : i < ns.length := by rw [HLEN.out, ← HPE.out]; exact hip
     have zin : (i : Int) < (ns.length : Int) := by omega
     obtain ⟨nx, hnx⟩ : ∃ nx, nx = ns[i] := ⟨_, rfl⟩
     have NCL := Lib.hid (fun W (h : Low w W) => (by have := h.keep (hnc i hin); rwa [← hnx] at this : W.cell? ⟨nb, no + i, none⟩ = some (.string nx)))
     have HSX := Lib.hid (show nx.size ≤ 9223372036854775807 by rw [hnx]; exact HSZ.out _ (List.getElem_mem hin))
     have hzip : (zipF ns ps).take i ++ [(⟨nx, p⟩ : Fd)] = (zipF ns ps).take (i + 1) := by
      have hz : i < (zipF ns ps).length := by unfold zipF; rw [List.length_zipWith]; omega
      rw [List.take_succ_eq_append_getElem hz]
      have : (zipF ns ps)[i] = (⟨ns[i], ps[i]⟩ : Fd) := by simp [zipF]
      rw [this, ← hnx, ← hp]
     have ZIP := Lib.hid hzip
     have HNM := Lib.hid hnx
     have HP := Lib.hid hp
     have HSY := Lib.hid (show ∀ y ∈ ys, y.size ≤ 9223372036854775807 by
      intro y hy
      rw [HYS.out] at hy
      have h1 := (PRM.out.map (·.name)).mem_iff.1 hy
      rw [List.map_take, zipF_names (by rw [HPE.out]; exact HLEN.out)] at h1
      exact HSZ.out y (List.mem_of_mem_take h1))
     clear hp hnx hnc hzip gl1 gl2
     go_wp2_with fail
     go_loopg [10, 11] xs.length (fun gk va vt wr2 => ∃ k : Nat, va = .int .i64 (k : Int) ∧ vt = .bool ((ys.drop k).any fun y => cmpT y nx == 0) ∧ k ≤ xs.length ∧ k ≤ gk ∧ Hid (Low wr wr2) ∧ Hid (∀ y ∈ ys.drop k, 0 ≤ cmpT y nx))
     case atStart => exact ⟨xs.length, rfl, by rw [List.drop_eq_nil_of_le (by have := HLX.out; have := HLY.out; omega)]; rfl, Nat.le_refl _, Nat.le_refl _, Lib.hid (Low.refl _), Lib.hid (by rw [List.drop_eq_nil_of_le (by have := HLX.out; have := HLY.out; omega)]; simp)⟩
     case round =>
      clear bk0 oc0 oc1 oc2 oc3 oc4 oc5 oc6 oc7 of6 of7
      obtain ⟨k, rfl, rfl, hk, hkg, LR, UP⟩ := hrel
      have STW := Lib.hid (ST.out.grow LR.out)
      have bk0 : wr.cell? ⟨w.heap.size, 0, none⟩ = some (.int .i64 6) := STW.out.boxes.1
      have bk7 : wr.cell? ⟨w.heap.size, 7, none⟩ = some (.slice (some ⟨nb, no, none⟩) ns.length vcn) := STW.out.boxes.2.2
      have oc6 : wr.cell? ⟨w.heap.size + 1 + 1, 6, none⟩ = some (.slice ao xs.length acap) := STW.out.out.facts.1.2.2.2.2.2.2.1
      have oc7 : wr.cell? ⟨w.heap.size + 1 + 1, 7, none⟩ = some (.slice bo ys.length bcap) := STW.out.out.facts.1.2.2.2.2.2.2.2
      have of6 : wr.frozen? ⟨w.heap.size + 1 + 1, 6, none⟩ = false := STW.out.out.facts.2.1
      have of7 : wr.frozen? ⟨w.heap.size + 1 + 1, 7, none⟩ = false := STW.out.out.facts.2.2
      have cn : wr.cell? ⟨nb, no + i, none⟩ = some (.string nx) := NCL.out _ STW.out.low
      cases k with
      | zero =>
       generalize htw : ((ys.drop 0).any fun y => cmpT y nx == 0) = tw
       have HTW := Lib.hid htw
       clear htw
       by_cases hf0 : fs = []
       ·obtain ⟨hva, hvb⟩ := EMP.out hf0
        simp only [Value.slice.injEq] at hva hvb
        obtain ⟨rfl, -, rfl⟩ := hva
        obtain ⟨rfl, -, rfl⟩ := hvb
        have HX0 := Lib.hid (show xs = [] by rw [HXS.out, hf0]; rfl)
        have HY0 := Lib.hid (show ys = [] by rw [HYS.out, hf0]; rfl)
        clear hf0
        cases tw with
        | true =>
         have hcan2 : recS ns l = (13, V0) := by rw [HCAN.out]; exact rec_twice (k := 0) hin (by rw [HPE.out]; exact HLEN.out) PRM.out (by rw [← HYS.out, ← HNM.out]; exact HTW.out)
         have HCAN2 := Lib.hid hcan2
         obtain ⟨⟨d0, d1, d2, d3, d4, d5, d6, d7⟩, g0, g1, g2, g3, g4, g5, g6, g7⟩ := STW.out.res.facts
         clear hcan2
         go_wp2_with fail
         refine bodyPost_ret (v := .tuple #[.agg #[.int .i64 0, .bool false, .int .i64 0, .string ⟨#[]⟩, .string ⟨#[]⟩, .string ⟨#[]⟩, .slice none 0 0, .slice none 0 0], .int .i64 13]) (by simp [results, Tryz.results89, go_sem, World.cell?_setCell_same', d0, d1, d2, d3, d4, d5, d6, d7]; try rfl) rfl ?_
         have K8 := kept8 wr (w.heap.size + 1) (.int .i64 0) (.bool false) (.int .i64 0) (.string ⟨#[]⟩) (.string ⟨#[]⟩) (.string ⟨#[]⟩) (.slice none 0 0) (.slice none 0 0)
         rw [HCAN2.out]
         exact ⟨none, 0, none, 0, rfl, rep_V0 _ _, STW.out.low.kept K8 fun g hg => by simp at hg; omega⟩
        | false =>
         have zk0 : (0 : Int) ≤ (0 : Int) := by omega
         have zl : (xs.take (0)).length = 0 := by rw [List.length_take]; have := HLX.out; omega
         have zl2 : (xs.drop (0)).length = xs.length - (0) := by rw [List.length_drop]
         have zm : (ys.take (0)).length = 0 := by rw [List.length_take]; have := HLY.out; omega
         have zm2 : (ys.drop (0)).length = ys.length - (0) := by rw [List.length_drop]
         have ZL := Lib.hid zl
         have ZL2 := Lib.hid zl2
         have ZM := Lib.hid zm
         have ZM2 := Lib.hid zm2
         have Z00 := Lib.hid (show w.heap.size + 3 ≤ wr.heap.size by have := STW.out.out.1.1; omega)
         clear zl zl2 zm zm2
         obtain ⟨cb0, cb1, cb2, cb3, cb4, cb5, cb6, cb7⟩ := own_cells STW.out.lrow hip
         rw [← HP.out] at cb0 cb1 cb2 cb3 cb4 cb5 cb6 cb7
         go_wp2_with (first
          | (at_builtin; refine appR rfl _ _ _ rfl Tryz.underlying24 v_infov rfl (by decide) (by decide) encV_lenv encV_onev wr.heap.size (.slice none 0 0) ([]) rfl (OwnR.nil _ _ _ _ _) p ⟨wr.heap.size, 0, none⟩ 1 rfl (fun j u hj => newcell_at _ _ _ _ _ rfl hj) (by simp) (by simp) ?_; intro v2 w2 h2 b2 k2 n2; have H2 := Lib.hid h2; have Z2 := Lib.hid (show wr.heap.size ≤ w2.heap.size from (Nat.le_trans (by simp : wr.heap.size ≤ (wr.alloc _).heap.size) b2.size)); have L2 := Lib.hid ((Low.alloc (Low.refl wr) _).trans_below b2 (Nat.le_refl _)); clear h2 b2 k2 n2 bk0 bk7 oc6 oc7 of6 of7 cn cb0 cb1 cb2 cb3 cb4 cb5 cb6 cb7; have bk0 : w2.cell? ⟨w.heap.size, 0, none⟩ = some (.int .i64 6) := (STW.out.grow L2.out).boxes.1; have bk7 : w2.cell? ⟨w.heap.size, 7, none⟩ = some (.slice (some ⟨nb, no, none⟩) ns.length vcn) := (STW.out.grow L2.out).boxes.2.2; have oc6 : w2.cell? ⟨w.heap.size + 1 + 1, 6, none⟩ = some (.slice none xs.length 0) := (STW.out.grow L2.out).out.facts.1.2.2.2.2.2.2.1; have oc7 : w2.cell? ⟨w.heap.size + 1 + 1, 7, none⟩ = some (.slice none ys.length 0) := (STW.out.grow L2.out).out.facts.1.2.2.2.2.2.2.2; have of6 : w2.frozen? ⟨w.heap.size + 1 + 1, 6, none⟩ = false := (STW.out.grow L2.out).out.facts.2.1; have of7 : w2.frozen? ⟨w.heap.size + 1 + 1, 7, none⟩ = false := (STW.out.grow L2.out).out.facts.2.2; have cn : w2.cell? ⟨nb, no + i, none⟩ = some (.string nx) := NCL.out _ (STW.out.grow L2.out).low)
          | (at_builtin; refine appRn rfl _ _ _ rfl Tryz.underlying24 v_infov rfl (by decide) (by decide) encV_lenv encV_onev wr.heap.size v2 ([] ++ [p]) rfl H2.out (xs.drop (0)) _ _ _ rfl (by simp [HX0.out]) (.inl (by rw [HX0.out]; try rfl)) (by have := ZL.out; have := ZL2.out; have := HLX.out; simp; omega) Z2.out ?_; intro v3 w3 h3 b3 k3; obtain ⟨ao3, cp3, hv3, -, -, -⟩ := OwnR.shape h3; obtain ⟨n3, hn3⟩ : ∃ n, n = ([] ++ [p] ++ xs.drop (0)).length := ⟨_, rfl⟩; rw [← hn3] at hv3; clear hn3; subst hv3; have L3 := Lib.hid (L2.out.trans_below b3 (Nat.le_refl _)); have Z3 := Lib.hid (show wr.heap.size ≤ w3.heap.size from L3.out.size); have ST5 := Lib.hid ((STW.out.grow L3.out).putItems (OwnR.base h3 Z00.out) (sub_at0 STW.out.sub (by rw [HP.out]; exact List.getElem_mem hip))); clear h3 b3 k3 bk0 bk7 oc6 oc7 of6 of7 cn; have bk0 : w3.cell? ⟨w.heap.size, 0, none⟩ = some (.int .i64 6) := (STW.out.grow L3.out).boxes.1; have bk7 : w3.cell? ⟨w.heap.size, 7, none⟩ = some (.slice (some ⟨nb, no, none⟩) ns.length vcn) := (STW.out.grow L3.out).boxes.2.2; have oc6 : w3.cell? ⟨w.heap.size + 1 + 1, 6, none⟩ = some (.slice none xs.length 0) := (STW.out.grow L3.out).out.facts.1.2.2.2.2.2.2.1; have oc7 : w3.cell? ⟨w.heap.size + 1 + 1, 7, none⟩ = some (.slice none ys.length 0) := (STW.out.grow L3.out).out.facts.1.2.2.2.2.2.2.2; have of6 : w3.frozen? ⟨w.heap.size + 1 + 1, 6, none⟩ = false := (STW.out.grow L3.out).out.facts.2.1; have of7 : w3.frozen? ⟨w.heap.size + 1 + 1, 7, none⟩ = false := (STW.out.grow L3.out).out.facts.2.2; have cn : w3.cell? ⟨nb, no + i, none⟩ = some (.string nx) := NCL.out _ (STW.out.grow L3.out).low; have sk0 : (w3.setCell ⟨w.heap.size + 1 + 1, 6, none⟩ (.slice ao3 n3 cp3)).cell? ⟨w.heap.size, 0, none⟩ = some (.int .i64 6) := ST5.out.boxes.1; have sk7 : (w3.setCell ⟨w.heap.size + 1 + 1, 6, none⟩ (.slice ao3 n3 cp3)).cell? ⟨w.heap.size, 7, none⟩ = some (.slice (some ⟨nb, no, none⟩) ns.length vcn) := ST5.out.boxes.2.2; have so6 : (w3.setCell ⟨w.heap.size + 1 + 1, 6, none⟩ (.slice ao3 n3 cp3)).cell? ⟨w.heap.size + 1 + 1, 6, none⟩ = some (.slice ao3 n3 cp3) := ST5.out.out.facts.1.2.2.2.2.2.2.1; have so7 : (w3.setCell ⟨w.heap.size + 1 + 1, 6, none⟩ (.slice ao3 n3 cp3)).cell? ⟨w.heap.size + 1 + 1, 7, none⟩ = some (.slice none ys.length 0) := ST5.out.out.facts.1.2.2.2.2.2.2.2; have sf6 : (w3.setCell ⟨w.heap.size + 1 + 1, 6, none⟩ (.slice ao3 n3 cp3)).frozen? ⟨w.heap.size + 1 + 1, 6, none⟩ = false := ST5.out.out.facts.2.1; have sf7 : (w3.setCell ⟨w.heap.size + 1 + 1, 6, none⟩ (.slice ao3 n3 cp3)).frozen? ⟨w.heap.size + 1 + 1, 7, none⟩ = false := ST5.out.out.facts.2.2; have sn : (w3.setCell ⟨w.heap.size + 1 + 1, 6, none⟩ (.slice ao3 n3 cp3)).cell? ⟨nb, no + i, none⟩ = some (.string nx) := NCL.out _ ST5.out.low)
          | (at_builtin; refine appR rfl _ _ _ rfl Tryz.underlying25 n_info rfl (by decide) (by decide) encN_len encN_one w3.heap.size (.slice none 0 0) ([]) rfl (OwnR.nil _ _ _ _ _) nx ⟨w3.heap.size, 0, none⟩ 1 rfl (fun j u hj => newcell_at _ _ _ _ _ rfl hj) (by simp) (by simp) ?_; intro v2n w2n h2 b2 k2 n2; have H2n := Lib.hid h2; have Z2n := Lib.hid (show w3.heap.size ≤ w2n.heap.size from (Nat.le_trans (by simp : w3.heap.size ≤ ((w3.setCell ⟨w.heap.size + 1 + 1, 6, none⟩ (.slice ao3 n3 cp3)).alloc _).heap.size) b2.size)); have L2n := Lib.hid ((Low.alloc (Low.refl (w3.setCell ⟨w.heap.size + 1 + 1, 6, none⟩ (.slice ao3 n3 cp3))) _).trans_below b2 (by simp)); clear h2 b2 k2 n2 bk0 bk7 oc6 oc7 of6 of7 cn; have bk0 : w2n.cell? ⟨w.heap.size, 0, none⟩ = some (.int .i64 6) := (ST5.out.grow L2n.out).boxes.1; have bk7 : w2n.cell? ⟨w.heap.size, 7, none⟩ = some (.slice (some ⟨nb, no, none⟩) ns.length vcn) := (ST5.out.grow L2n.out).boxes.2.2; have oc6 : w2n.cell? ⟨w.heap.size + 1 + 1, 6, none⟩ = some (.slice ao3 n3 cp3) := (ST5.out.grow L2n.out).out.facts.1.2.2.2.2.2.2.1; have oc7 : w2n.cell? ⟨w.heap.size + 1 + 1, 7, none⟩ = some (.slice none ys.length 0) := (ST5.out.grow L2n.out).out.facts.1.2.2.2.2.2.2.2; have of6 : w2n.frozen? ⟨w.heap.size + 1 + 1, 6, none⟩ = false := (ST5.out.grow L2n.out).out.facts.2.1; have of7 : w2n.frozen? ⟨w.heap.size + 1 + 1, 7, none⟩ = false := (ST5.out.grow L2n.out).out.facts.2.2; have cn : w2n.cell? ⟨nb, no + i, none⟩ = some (.string nx) := NCL.out _ (ST5.out.grow L2n.out).low)
          | (at_builtin; refine appRn rfl _ _ _ rfl Tryz.underlying25 n_info rfl (by decide) (by decide) encN_len encN_one w3.heap.size v2n ([] ++ [nx]) rfl H2n.out (ys.drop (0)) _ _ _ rfl (by simp [HY0.out]) (.inl (by rw [HY0.out]; try rfl)) (by have := ZM.out; have := ZM2.out; have := HLY.out; simp; omega) Z2n.out ?_; intro v3 w3n h3 b3 k3; obtain ⟨ao3n, cp3n, hv3, -, -, -⟩ := OwnR.shape h3; obtain ⟨n3n, hn3⟩ : ∃ n, n = ([] ++ [nx] ++ ys.drop (0)).length := ⟨_, rfl⟩; rw [← hn3] at hv3; clear hn3; subst hv3; have L3n := Lib.hid (L2n.out.trans_below b3 (by simp)); have ST7 := Lib.hid ((ST5.out.grow L3n.out).putNames (OwnR.base h3 (Nat.le_trans Z00.out Z3.out))); clear h3 b3 k3 bk0 bk7 oc6 oc7 of6 of7 cn; have bk0 : w3n.cell? ⟨w.heap.size, 0, none⟩ = some (.int .i64 6) := (ST5.out.grow L3n.out).boxes.1; have bk7 : w3n.cell? ⟨w.heap.size, 7, none⟩ = some (.slice (some ⟨nb, no, none⟩) ns.length vcn) := (ST5.out.grow L3n.out).boxes.2.2; have oc6 : w3n.cell? ⟨w.heap.size + 1 + 1, 6, none⟩ = some (.slice ao3 n3 cp3) := (ST5.out.grow L3n.out).out.facts.1.2.2.2.2.2.2.1; have oc7 : w3n.cell? ⟨w.heap.size + 1 + 1, 7, none⟩ = some (.slice none ys.length 0) := (ST5.out.grow L3n.out).out.facts.1.2.2.2.2.2.2.2; have of6 : w3n.frozen? ⟨w.heap.size + 1 + 1, 6, none⟩ = false := (ST5.out.grow L3n.out).out.facts.2.1; have of7 : w3n.frozen? ⟨w.heap.size + 1 + 1, 7, none⟩ = false := (ST5.out.grow L3n.out).out.facts.2.2; have cn : w3n.cell? ⟨nb, no + i, none⟩ = some (.string nx) := NCL.out _ (ST5.out.grow L3n.out).low))
         all_goals
          have hfx : [] ++ [p] ++ xs.drop (0) = (fs.take (0) ++ (⟨nx, p⟩ : Fd) :: fs.drop (0)).map (·.p) := by rw [HXS.out]; simp
          have hfy : [] ++ [nx] ++ ys.drop (0) = (fs.take (0) ++ (⟨nx, p⟩ : Fd) :: fs.drop (0)).map (·.name) := by rw [HYS.out]; simp
          have hprm : (fs.take (0) ++ (⟨nx, p⟩ : Fd) :: fs.drop (0)).Perm ((zipF ns ps).take (i + 1)) := by
           have h := perm_at (x := (⟨nx, p⟩ : Fd)) (k := 0) PRM.out
           rwa [ZIP.out] at h
          have hris : Rises cmpT ((fs.take (0) ++ (⟨nx, p⟩ : Fd) :: fs.drop (0)).map (·.name)) := by
           have h := rises_at good_text (x := nx) trivial (l := ys) (fun _ _ => trivial) (by rw [HYS.out]; exact RIS.out) (k := 0) (by have := HLY.out; omega) (fun _ h => absurd h (Nat.lt_irrefl _)) UP.out HTW.out
           rw [← hfy]
           simpa using h
          have HFX := Lib.hid hfx
          have HFY := Lib.hid hfy
          have HPRM := Lib.hid hprm
          have HRIS := Lib.hid hris
          clear hfx hfy hprm hris
          go_wp2_with fail
          go_roundg (ps.length - (i + 1))
          case measure => omega
          case rel => exact ⟨i + 1, _, _, _, by go_num, by omega, by omega, Lib.hid (by rw [← HFX.out, ← HFY.out]; exact ST7.out), HPRM, HRIS, Lib.hid (fun h => absurd h (by simp))⟩
       ·have hfp : 0 < fs.length := List.length_pos_iff.2 hf0
        rcases OwnR.shape2 ST.out.its with ⟨-, h9⟩ | ⟨g, cap9, hv, hcap⟩
        ·exfalso
         have := HLX.out.2
         rw [h9, List.length_nil] at this
         omega
        simp only [Value.slice.injEq] at hv
        obtain ⟨rfl, -, rfl⟩ := hv
        rcases OwnR.shape2 ST.out.nms with ⟨-, h9⟩ | ⟨gn, cap8, hv, hcap8⟩
        ·exfalso
         have := HLY.out.2
         rw [h9, List.length_nil] at this
         omega
        simp only [Value.slice.injEq] at hv
        obtain ⟨rfl, -, rfl⟩ := hv
        clear hf0
        cases tw with
        | true =>
         have hcan2 : recS ns l = (13, V0) := by rw [HCAN.out]; exact rec_twice (k := 0) hin (by rw [HPE.out]; exact HLEN.out) PRM.out (by rw [← HYS.out, ← HNM.out]; exact HTW.out)
         have HCAN2 := Lib.hid hcan2
         obtain ⟨⟨d0, d1, d2, d3, d4, d5, d6, d7⟩, g0, g1, g2, g3, g4, g5, g6, g7⟩ := STW.out.res.facts
         clear hcan2
         go_wp2_with fail
         refine bodyPost_ret (v := .tuple #[.agg #[.int .i64 0, .bool false, .int .i64 0, .string ⟨#[]⟩, .string ⟨#[]⟩, .string ⟨#[]⟩, .slice none 0 0, .slice none 0 0], .int .i64 13]) (by simp [results, Tryz.results89, go_sem, World.cell?_setCell_same', d0, d1, d2, d3, d4, d5, d6, d7]; try rfl) rfl ?_
         have K8 := kept8 wr (w.heap.size + 1) (.int .i64 0) (.bool false) (.int .i64 0) (.string ⟨#[]⟩) (.string ⟨#[]⟩) (.string ⟨#[]⟩) (.slice none 0 0) (.slice none 0 0)
         rw [HCAN2.out]
         exact ⟨none, 0, none, 0, rfl, rep_V0 _ _, STW.out.low.kept K8 fun g hg => by simp at hg; omega⟩
        | false =>
         have zk0 : (0 : Int) ≤ (0 : Int) := by omega
         have zl : (xs.take (0)).length = 0 := by rw [List.length_take]; have := HLX.out; omega
         have zl2 : (xs.drop (0)).length = xs.length - (0) := by rw [List.length_drop]
         have zm : (ys.take (0)).length = 0 := by rw [List.length_take]; have := HLY.out; omega
         have zm2 : (ys.drop (0)).length = ys.length - (0) := by rw [List.length_drop]
         have ZL := Lib.hid zl
         have ZL2 := Lib.hid zl2
         have ZM := Lib.hid zm
         have ZM2 := Lib.hid zm2
         have Z00 := Lib.hid (show w.heap.size + 3 ≤ wr.heap.size by have := STW.out.out.1.1; omega)
         clear zl zl2 zm zm2
         have zk1 : (0 : Int) ≤ (acap : Int) := by have := HLX.out; omega
         have zk2 : (0 : Int) ≤ (xs.length : Int) := by have := HLX.out; omega
         have zk3 : (0 : Int) ≤ (bcap : Int) := by have := HLY.out; omega
         have zk4 : (0 : Int) ≤ (ys.length : Int) := by have := HLY.out; omega
         obtain ⟨cb0, cb1, cb2, cb3, cb4, cb5, cb6, cb7⟩ := own_cells STW.out.lrow hip
         rw [← HP.out] at cb0 cb1 cb2 cb3 cb4 cb5 cb6 cb7
         go_wp2_with (first
          | (at_builtin; refine appR rfl _ _ _ rfl Tryz.underlying24 v_infov rfl (by decide) (by decide) encV_lenv encV_onev wr.heap.size (.slice none 0 0) ([]) rfl (OwnR.nil _ _ _ _ _) p ⟨wr.heap.size, 0, none⟩ 1 rfl (fun j u hj => newcell_at _ _ _ _ _ rfl hj) (by simp) (by simp) ?_; intro v2 w2 h2 b2 k2 n2; have H2 := Lib.hid h2; have Z2 := Lib.hid (show wr.heap.size ≤ w2.heap.size from (Nat.le_trans (by simp : wr.heap.size ≤ (wr.alloc _).heap.size) b2.size)); have L2 := Lib.hid ((Low.alloc (Low.refl wr) _).trans_below b2 (Nat.le_refl _)); clear h2 b2 k2 n2 bk0 bk7 oc6 oc7 of6 of7 cn cb0 cb1 cb2 cb3 cb4 cb5 cb6 cb7; have bk0 : w2.cell? ⟨w.heap.size, 0, none⟩ = some (.int .i64 6) := (STW.out.grow L2.out).boxes.1; have bk7 : w2.cell? ⟨w.heap.size, 7, none⟩ = some (.slice (some ⟨nb, no, none⟩) ns.length vcn) := (STW.out.grow L2.out).boxes.2.2; have oc6 : w2.cell? ⟨w.heap.size + 1 + 1, 6, none⟩ = some (.slice (some ⟨g, 0, none⟩) xs.length acap) := (STW.out.grow L2.out).out.facts.1.2.2.2.2.2.2.1; have oc7 : w2.cell? ⟨w.heap.size + 1 + 1, 7, none⟩ = some (.slice (some ⟨gn, 0, none⟩) ys.length bcap) := (STW.out.grow L2.out).out.facts.1.2.2.2.2.2.2.2; have of6 : w2.frozen? ⟨w.heap.size + 1 + 1, 6, none⟩ = false := (STW.out.grow L2.out).out.facts.2.1; have of7 : w2.frozen? ⟨w.heap.size + 1 + 1, 7, none⟩ = false := (STW.out.grow L2.out).out.facts.2.2; have cn : w2.cell? ⟨nb, no + i, none⟩ = some (.string nx) := NCL.out _ (STW.out.grow L2.out).low)
          | (at_builtin; refine appRn rfl _ _ _ rfl Tryz.underlying24 v_infov rfl (by decide) (by decide) encV_lenv encV_onev wr.heap.size v2 ([] ++ [p]) rfl H2.out (xs.drop (0)) _ _ _ rfl (by rw [ZL2.out]; try simp) (src_drop encV_lenv (STW.out.grow L2.out).its (by have := HLX.out; omega) _ (by first | exact .inr rfl | (simp; done) | (have := HLX.out; simp; omega))) (by have := ZL.out; have := ZL2.out; have := HLX.out; simp; omega) Z2.out ?_; intro v3 w3 h3 b3 k3; obtain ⟨ao3, cp3, hv3, -, -, -⟩ := OwnR.shape h3; obtain ⟨n3, hn3⟩ : ∃ n, n = ([] ++ [p] ++ xs.drop (0)).length := ⟨_, rfl⟩; rw [← hn3] at hv3; clear hn3; subst hv3; have L3 := Lib.hid (L2.out.trans_below b3 (Nat.le_refl _)); have Z3 := Lib.hid (show wr.heap.size ≤ w3.heap.size from L3.out.size); have ST5 := Lib.hid ((STW.out.grow L3.out).putItems (OwnR.base h3 Z00.out) (sub_at0 STW.out.sub (by rw [HP.out]; exact List.getElem_mem hip))); clear h3 b3 k3 bk0 bk7 oc6 oc7 of6 of7 cn; have bk0 : w3.cell? ⟨w.heap.size, 0, none⟩ = some (.int .i64 6) := (STW.out.grow L3.out).boxes.1; have bk7 : w3.cell? ⟨w.heap.size, 7, none⟩ = some (.slice (some ⟨nb, no, none⟩) ns.length vcn) := (STW.out.grow L3.out).boxes.2.2; have oc6 : w3.cell? ⟨w.heap.size + 1 + 1, 6, none⟩ = some (.slice (some ⟨g, 0, none⟩) xs.length acap) := (STW.out.grow L3.out).out.facts.1.2.2.2.2.2.2.1; have oc7 : w3.cell? ⟨w.heap.size + 1 + 1, 7, none⟩ = some (.slice (some ⟨gn, 0, none⟩) ys.length bcap) := (STW.out.grow L3.out).out.facts.1.2.2.2.2.2.2.2; have of6 : w3.frozen? ⟨w.heap.size + 1 + 1, 6, none⟩ = false := (STW.out.grow L3.out).out.facts.2.1; have of7 : w3.frozen? ⟨w.heap.size + 1 + 1, 7, none⟩ = false := (STW.out.grow L3.out).out.facts.2.2; have cn : w3.cell? ⟨nb, no + i, none⟩ = some (.string nx) := NCL.out _ (STW.out.grow L3.out).low; have sk0 : (w3.setCell ⟨w.heap.size + 1 + 1, 6, none⟩ (.slice ao3 n3 cp3)).cell? ⟨w.heap.size, 0, none⟩ = some (.int .i64 6) := ST5.out.boxes.1; have sk7 : (w3.setCell ⟨w.heap.size + 1 + 1, 6, none⟩ (.slice ao3 n3 cp3)).cell? ⟨w.heap.size, 7, none⟩ = some (.slice (some ⟨nb, no, none⟩) ns.length vcn) := ST5.out.boxes.2.2; have so6 : (w3.setCell ⟨w.heap.size + 1 + 1, 6, none⟩ (.slice ao3 n3 cp3)).cell? ⟨w.heap.size + 1 + 1, 6, none⟩ = some (.slice ao3 n3 cp3) := ST5.out.out.facts.1.2.2.2.2.2.2.1; have so7 : (w3.setCell ⟨w.heap.size + 1 + 1, 6, none⟩ (.slice ao3 n3 cp3)).cell? ⟨w.heap.size + 1 + 1, 7, none⟩ = some (.slice (some ⟨gn, 0, none⟩) ys.length bcap) := ST5.out.out.facts.1.2.2.2.2.2.2.2; have sf6 : (w3.setCell ⟨w.heap.size + 1 + 1, 6, none⟩ (.slice ao3 n3 cp3)).frozen? ⟨w.heap.size + 1 + 1, 6, none⟩ = false := ST5.out.out.facts.2.1; have sf7 : (w3.setCell ⟨w.heap.size + 1 + 1, 6, none⟩ (.slice ao3 n3 cp3)).frozen? ⟨w.heap.size + 1 + 1, 7, none⟩ = false := ST5.out.out.facts.2.2; have sn : (w3.setCell ⟨w.heap.size + 1 + 1, 6, none⟩ (.slice ao3 n3 cp3)).cell? ⟨nb, no + i, none⟩ = some (.string nx) := NCL.out _ ST5.out.low)
          | (at_builtin; refine appR rfl _ _ _ rfl Tryz.underlying25 n_info rfl (by decide) (by decide) encN_len encN_one w3.heap.size (.slice none 0 0) ([]) rfl (OwnR.nil _ _ _ _ _) nx ⟨w3.heap.size, 0, none⟩ 1 rfl (fun j u hj => newcell_at _ _ _ _ _ rfl hj) (by simp) (by simp) ?_; intro v2n w2n h2 b2 k2 n2; have H2n := Lib.hid h2; have Z2n := Lib.hid (show w3.heap.size ≤ w2n.heap.size from (Nat.le_trans (by simp : w3.heap.size ≤ ((w3.setCell ⟨w.heap.size + 1 + 1, 6, none⟩ (.slice ao3 n3 cp3)).alloc _).heap.size) b2.size)); have L2n := Lib.hid ((Low.alloc (Low.refl (w3.setCell ⟨w.heap.size + 1 + 1, 6, none⟩ (.slice ao3 n3 cp3))) _).trans_below b2 (by simp)); clear h2 b2 k2 n2 bk0 bk7 oc6 oc7 of6 of7 cn; have bk0 : w2n.cell? ⟨w.heap.size, 0, none⟩ = some (.int .i64 6) := (ST5.out.grow L2n.out).boxes.1; have bk7 : w2n.cell? ⟨w.heap.size, 7, none⟩ = some (.slice (some ⟨nb, no, none⟩) ns.length vcn) := (ST5.out.grow L2n.out).boxes.2.2; have oc6 : w2n.cell? ⟨w.heap.size + 1 + 1, 6, none⟩ = some (.slice ao3 n3 cp3) := (ST5.out.grow L2n.out).out.facts.1.2.2.2.2.2.2.1; have oc7 : w2n.cell? ⟨w.heap.size + 1 + 1, 7, none⟩ = some (.slice (some ⟨gn, 0, none⟩) ys.length bcap) := (ST5.out.grow L2n.out).out.facts.1.2.2.2.2.2.2.2; have of6 : w2n.frozen? ⟨w.heap.size + 1 + 1, 6, none⟩ = false := (ST5.out.grow L2n.out).out.facts.2.1; have of7 : w2n.frozen? ⟨w.heap.size + 1 + 1, 7, none⟩ = false := (ST5.out.grow L2n.out).out.facts.2.2; have cn : w2n.cell? ⟨nb, no + i, none⟩ = some (.string nx) := NCL.out _ (ST5.out.grow L2n.out).low)
          | (at_builtin; refine appRn rfl _ _ _ rfl Tryz.underlying25 n_info rfl (by decide) (by decide) encN_len encN_one w3.heap.size v2n ([] ++ [nx]) rfl H2n.out (ys.drop (0)) _ _ _ rfl (by rw [ZM2.out]; try simp) (src_drop encN_len (ST5.out.grow L2n.out).nms (by have := HLY.out; omega) _ (by first | exact .inr rfl | (simp; done) | (have := HLY.out; simp; omega))) (by have := ZM.out; have := ZM2.out; have := HLY.out; simp; omega) Z2n.out ?_; intro v3 w3n h3 b3 k3; obtain ⟨ao3n, cp3n, hv3, -, -, -⟩ := OwnR.shape h3; obtain ⟨n3n, hn3⟩ : ∃ n, n = ([] ++ [nx] ++ ys.drop (0)).length := ⟨_, rfl⟩; rw [← hn3] at hv3; clear hn3; subst hv3; have L3n := Lib.hid (L2n.out.trans_below b3 (by simp)); have ST7 := Lib.hid ((ST5.out.grow L3n.out).putNames (OwnR.base h3 (Nat.le_trans Z00.out Z3.out))); clear h3 b3 k3 bk0 bk7 oc6 oc7 of6 of7 cn; have bk0 : w3n.cell? ⟨w.heap.size, 0, none⟩ = some (.int .i64 6) := (ST5.out.grow L3n.out).boxes.1; have bk7 : w3n.cell? ⟨w.heap.size, 7, none⟩ = some (.slice (some ⟨nb, no, none⟩) ns.length vcn) := (ST5.out.grow L3n.out).boxes.2.2; have oc6 : w3n.cell? ⟨w.heap.size + 1 + 1, 6, none⟩ = some (.slice ao3 n3 cp3) := (ST5.out.grow L3n.out).out.facts.1.2.2.2.2.2.2.1; have oc7 : w3n.cell? ⟨w.heap.size + 1 + 1, 7, none⟩ = some (.slice (some ⟨gn, 0, none⟩) ys.length bcap) := (ST5.out.grow L3n.out).out.facts.1.2.2.2.2.2.2.2; have of6 : w3n.frozen? ⟨w.heap.size + 1 + 1, 6, none⟩ = false := (ST5.out.grow L3n.out).out.facts.2.1; have of7 : w3n.frozen? ⟨w.heap.size + 1 + 1, 7, none⟩ = false := (ST5.out.grow L3n.out).out.facts.2.2; have cn : w3n.cell? ⟨nb, no + i, none⟩ = some (.string nx) := NCL.out _ (ST5.out.grow L3n.out).low))
         all_goals
          have hfx : [] ++ [p] ++ xs.drop (0) = (fs.take (0) ++ (⟨nx, p⟩ : Fd) :: fs.drop (0)).map (·.p) := by rw [HXS.out]; simp
          have hfy : [] ++ [nx] ++ ys.drop (0) = (fs.take (0) ++ (⟨nx, p⟩ : Fd) :: fs.drop (0)).map (·.name) := by rw [HYS.out]; simp
          have hprm : (fs.take (0) ++ (⟨nx, p⟩ : Fd) :: fs.drop (0)).Perm ((zipF ns ps).take (i + 1)) := by
           have h := perm_at (x := (⟨nx, p⟩ : Fd)) (k := 0) PRM.out
           rwa [ZIP.out] at h
          have hris : Rises cmpT ((fs.take (0) ++ (⟨nx, p⟩ : Fd) :: fs.drop (0)).map (·.name)) := by
           have h := rises_at good_text (x := nx) trivial (l := ys) (fun _ _ => trivial) (by rw [HYS.out]; exact RIS.out) (k := 0) (by have := HLY.out; omega) (fun _ h => absurd h (Nat.lt_irrefl _)) UP.out HTW.out
           rw [← hfy]
           simpa using h
          have HFX := Lib.hid hfx
          have HFY := Lib.hid hfy
          have HPRM := Lib.hid hprm
          have HRIS := Lib.hid hris
          clear hfx hfy hprm hris
          go_wp2_with fail
          go_roundg (ps.length - (i + 1))
          case measure => omega
          case rel => exact ⟨i + 1, _, _, _, by go_num, by omega, by omega, Lib.hid (by rw [← HFX.out, ← HFY.out]; exact ST7.out), HPRM, HRIS, Lib.hid (fun h => absurd h (by simp))⟩
      | succ j =>
       have hjx : j < ys.length := by have := HLX.out; have := HLY.out; omega
       rcases OwnR.shape2 ST.out.its with ⟨-, h9⟩ | ⟨g, cap9, hv, hcap⟩
       ·rw [h9] at hk; simp at hk
       simp only [Value.slice.injEq] at hv
       obtain ⟨rfl, -, rfl⟩ := hv
       rcases OwnR.shape2 ST.out.nms with ⟨-, h9⟩ | ⟨gn, cap8, hv, hcap8⟩
       ·rw [h9] at hjx; simp at hjx
       simp only [Value.slice.injEq] at hv
       obtain ⟨rfl, -, rfl⟩ := hv
       have hdp : ys.drop j = ys[j] :: ys.drop (j + 1) := drop_pred hjx
       have HDP := Lib.hid hdp
       obtain ⟨q, hq⟩ : ∃ q, q = ys[j] := ⟨_, rfl⟩
       have ca : wr.cell? ⟨gn, j, none⟩ = some (.string q) := by
        have := OwnR.cell encN_len STW.out.nms j 0 hjx (by decide)
        rw [Nat.mul_one, Nat.add_zero] at this
        rw [this, hq]
        rfl
       have up : ∀ {a : Addr} {u : Value}, wr.cell? a = some u → ∀ n os, (grow (wr.drewN n) os).cell? a = some u := fun h n os => (Gr.grow (Gr.refl wr) n os).cell h
       have uo7 := up oc7
       have uk0 := up bk0
       have uk7 := up bk7
       have ucn := up cn
       have uca := up ca
       have hc := fun n os => calls_grown (rTexts_cv q nx (by rw [hq]; exact HSY.out _ (List.getElem_mem hjx)) HSX.out (grow (wr.drewN n) os))
       obtain ⟨o, ho⟩ : ∃ o, o = cmpT q nx := ⟨_, rfl⟩
       rw [← ho] at hc
       rw [hq] at ho
       have HC := Lib.hid hc
       have HO := Lib.hid ho
       have KH := Lib.hid (fun n os => (Gr.grow (Gr.refl wr) n os).low)
       have zj0 : IntKind.i64.wrap (j : Int) = (j : Int) := by rw [IntKind.wrap_i64]; omega
       have zj1 : (j : Int) < (ys.length : Int) := by omega
       have zj2 : (0 : Int) < (j : Int) + 1 := by omega
       have HQ := Lib.hid hq
       clear hq hc ho hdp up ca
       generalize htw : ((ys.drop (j + 1)).any fun y => cmpT y nx == 0) = tw
       have HTW := Lib.hid htw
       clear htw
       go_wp2_with fail
       go_quiet_grown (with_reducible exact HC.out _ _)
       have lw := KH.out nq osq
       generalize grow (wr.drewN nq) osq = W4 at lw ⊢
       have LW := Lib.hid lw
       clear lw uo7 uk0 uk7 ucn uca bk0 bk7 oc6 oc7 of6 of7 cn
       by_cases hneg : o < 0
       ·clear STW
        have STW := Lib.hid (ST.out.grow (LR.out.trans LW.out))
        have bk0 : W4.cell? ⟨w.heap.size, 0, none⟩ = some (.int .i64 6) := STW.out.boxes.1
        have bk7 : W4.cell? ⟨w.heap.size, 7, none⟩ = some (.slice (some ⟨nb, no, none⟩) ns.length vcn) := STW.out.boxes.2.2
        have oc6 : W4.cell? ⟨w.heap.size + 1 + 1, 6, none⟩ = some (.slice (some ⟨g, 0, none⟩) xs.length acap) := STW.out.out.facts.1.2.2.2.2.2.2.1
        have oc7 : W4.cell? ⟨w.heap.size + 1 + 1, 7, none⟩ = some (.slice (some ⟨gn, 0, none⟩) ys.length bcap) := STW.out.out.facts.1.2.2.2.2.2.2.2
        have of6 : W4.frozen? ⟨w.heap.size + 1 + 1, 6, none⟩ = false := STW.out.out.facts.2.1
        have of7 : W4.frozen? ⟨w.heap.size + 1 + 1, 7, none⟩ = false := STW.out.out.facts.2.2
        have cn : W4.cell? ⟨nb, no + i, none⟩ = some (.string nx) := NCL.out _ STW.out.low
        have HNEG := Lib.hid (show ∀ (h : j + 1 - 1 < ys.length), cmpT ys[j + 1 - 1] nx < 0 from fun _ => by have h := HO.out; simp only [Nat.add_sub_cancel]; omega)
        cases tw with
        | true =>
         have hcan2 : recS ns l = (13, V0) := by rw [HCAN.out]; exact rec_twice (k := j + 1) hin (by rw [HPE.out]; exact HLEN.out) PRM.out (by rw [← HYS.out, ← HNM.out]; exact HTW.out)
         have HCAN2 := Lib.hid hcan2
         obtain ⟨⟨d0, d1, d2, d3, d4, d5, d6, d7⟩, g0, g1, g2, g3, g4, g5, g6, g7⟩ := STW.out.res.facts
         clear hcan2
         go_wp2_with fail
         refine bodyPost_ret (v := .tuple #[.agg #[.int .i64 0, .bool false, .int .i64 0, .string ⟨#[]⟩, .string ⟨#[]⟩, .string ⟨#[]⟩, .slice none 0 0, .slice none 0 0], .int .i64 13]) (by simp [results, Tryz.results89, go_sem, World.cell?_setCell_same', d0, d1, d2, d3, d4, d5, d6, d7]; try rfl) rfl ?_
         have K8 := kept8 W4 (w.heap.size + 1) (.int .i64 0) (.bool false) (.int .i64 0) (.string ⟨#[]⟩) (.string ⟨#[]⟩) (.string ⟨#[]⟩) (.slice none 0 0) (.slice none 0 0)
         rw [HCAN2.out]
         exact ⟨none, 0, none, 0, rfl, rep_V0 _ _, STW.out.low.kept K8 fun g hg => by simp at hg; omega⟩
        | false =>
         have zk0 : (0 : Int) ≤ (j + 1 : Int) := by omega
         have zl : (xs.take (j + 1)).length = j + 1 := by rw [List.length_take]; have := HLX.out; omega
         have zl2 : (xs.drop (j + 1)).length = xs.length - (j + 1) := by rw [List.length_drop]
         have zm : (ys.take (j + 1)).length = j + 1 := by rw [List.length_take]; have := HLY.out; omega
         have zm2 : (ys.drop (j + 1)).length = ys.length - (j + 1) := by rw [List.length_drop]
         have ZL := Lib.hid zl
         have ZL2 := Lib.hid zl2
         have ZM := Lib.hid zm
         have ZM2 := Lib.hid zm2
         have Z00 := Lib.hid (show w.heap.size + 3 ≤ W4.heap.size by have := STW.out.out.1.1; omega)
         clear zl zl2 zm zm2
         have zk1 : (j + 1 : Int) ≤ (acap : Int) := by have := HLX.out; omega
         have zk2 : (j + 1 : Int) ≤ (xs.length : Int) := by have := HLX.out; omega
         have zk3 : (j + 1 : Int) ≤ (bcap : Int) := by have := HLY.out; omega
         have zk4 : (j + 1 : Int) ≤ (ys.length : Int) := by have := HLY.out; omega
         go_wp2_with (first
          | (at_builtin; refine appRn rfl _ _ _ rfl Tryz.underlying24 v_infov rfl (by decide) (by decide) encV_lenv encV_onev W4.heap.size (.slice none 0 0) [] rfl (OwnR.nil _ _ _ _ _) (xs.take (j + 1)) _ _ _ rfl (by rw [ZL.out]; try rfl; try simp) (src_take STW.out.its (j + 1)) (by have := ZL.out; have := ZL2.out; have := HLX.out; simp; omega) (Nat.le_refl _) ?_; intro v1 w1 h1 b1 k1; have LA := Lib.hid (Low.trans_below (Low.refl W4) b1 (Nat.le_refl _)); have H1 := Lib.hid h1; have Z1 := Lib.hid (show W4.heap.size ≤ w1.heap.size from Nat.le_trans (Nat.le_refl _) b1.size); clear h1 b1 k1 bk0 bk7 oc6 oc7 of6 of7 cn; obtain ⟨cb0, cb1, cb2, cb3, cb4, cb5, cb6, cb7⟩ := own_cells (STW.out.grow LA.out).lrow hip; rw [← HP.out] at cb0 cb1 cb2 cb3 cb4 cb5 cb6 cb7; have bk0 : w1.cell? ⟨w.heap.size, 0, none⟩ = some (.int .i64 6) := (STW.out.grow LA.out).boxes.1; have bk7 : w1.cell? ⟨w.heap.size, 7, none⟩ = some (.slice (some ⟨nb, no, none⟩) ns.length vcn) := (STW.out.grow LA.out).boxes.2.2; have oc6 : w1.cell? ⟨w.heap.size + 1 + 1, 6, none⟩ = some (.slice (some ⟨g, 0, none⟩) xs.length acap) := (STW.out.grow LA.out).out.facts.1.2.2.2.2.2.2.1; have oc7 : w1.cell? ⟨w.heap.size + 1 + 1, 7, none⟩ = some (.slice (some ⟨gn, 0, none⟩) ys.length bcap) := (STW.out.grow LA.out).out.facts.1.2.2.2.2.2.2.2; have of6 : w1.frozen? ⟨w.heap.size + 1 + 1, 6, none⟩ = false := (STW.out.grow LA.out).out.facts.2.1; have of7 : w1.frozen? ⟨w.heap.size + 1 + 1, 7, none⟩ = false := (STW.out.grow LA.out).out.facts.2.2; have cn : w1.cell? ⟨nb, no + i, none⟩ = some (.string nx) := NCL.out _ (STW.out.grow LA.out).low)
          | (at_builtin; refine appR rfl _ _ _ rfl Tryz.underlying24 v_infov rfl (by decide) (by decide) encV_lenv encV_onev W4.heap.size v1 ([] ++ xs.take (j + 1)) rfl (OwnR.alloc H1.out _) p ⟨w1.heap.size, 0, none⟩ 1 rfl (fun j u hj => newcell_at _ _ _ _ _ rfl hj) (by have := ZL.out; have := ZL2.out; have := HLX.out; simp; omega) (by have := Z1.out; simp; omega) ?_; intro v2 w2 h2 b2 k2 n2; have H2 := Lib.hid h2; have Z2 := Lib.hid (show W4.heap.size ≤ w2.heap.size from (Nat.le_trans Z1.out (Nat.le_trans (Nat.le_of_lt (by simp) : w1.heap.size ≤ _) b2.size))); have L2 := Lib.hid ((Low.alloc LA.out _).trans_below b2 (Nat.le_refl _)); clear h2 b2 k2 n2 bk0 bk7 oc6 oc7 of6 of7 cn cb0 cb1 cb2 cb3 cb4 cb5 cb6 cb7; have bk0 : w2.cell? ⟨w.heap.size, 0, none⟩ = some (.int .i64 6) := (STW.out.grow L2.out).boxes.1; have bk7 : w2.cell? ⟨w.heap.size, 7, none⟩ = some (.slice (some ⟨nb, no, none⟩) ns.length vcn) := (STW.out.grow L2.out).boxes.2.2; have oc6 : w2.cell? ⟨w.heap.size + 1 + 1, 6, none⟩ = some (.slice (some ⟨g, 0, none⟩) xs.length acap) := (STW.out.grow L2.out).out.facts.1.2.2.2.2.2.2.1; have oc7 : w2.cell? ⟨w.heap.size + 1 + 1, 7, none⟩ = some (.slice (some ⟨gn, 0, none⟩) ys.length bcap) := (STW.out.grow L2.out).out.facts.1.2.2.2.2.2.2.2; have of6 : w2.frozen? ⟨w.heap.size + 1 + 1, 6, none⟩ = false := (STW.out.grow L2.out).out.facts.2.1; have of7 : w2.frozen? ⟨w.heap.size + 1 + 1, 7, none⟩ = false := (STW.out.grow L2.out).out.facts.2.2; have cn : w2.cell? ⟨nb, no + i, none⟩ = some (.string nx) := NCL.out _ (STW.out.grow L2.out).low)
          | (at_builtin; refine appRn rfl _ _ _ rfl Tryz.underlying24 v_infov rfl (by decide) (by decide) encV_lenv encV_onev W4.heap.size v2 ([] ++ xs.take (j + 1) ++ [p]) rfl H2.out (xs.drop (j + 1)) _ _ _ rfl (by rw [ZL2.out]; try simp) (src_drop encV_lenv (STW.out.grow L2.out).its (by have := HLX.out; omega) _ (by first | exact .inr rfl | (simp; done) | (have := HLX.out; simp; omega))) (by have := ZL.out; have := ZL2.out; have := HLX.out; simp; omega) Z2.out ?_; intro v3 w3 h3 b3 k3; obtain ⟨ao3, cp3, hv3, -, -, -⟩ := OwnR.shape h3; obtain ⟨n3, hn3⟩ : ∃ n, n = ([] ++ xs.take (j + 1) ++ [p] ++ xs.drop (j + 1)).length := ⟨_, rfl⟩; rw [← hn3] at hv3; clear hn3; subst hv3; have L3 := Lib.hid (L2.out.trans_below b3 (Nat.le_refl _)); have Z3 := Lib.hid (show W4.heap.size ≤ w3.heap.size from L3.out.size); have ST5 := Lib.hid ((STW.out.grow L3.out).putItems (OwnR.base h3 Z00.out) (sub_at STW.out.sub (by rw [HP.out]; exact List.getElem_mem hip) (j + 1))); clear h3 b3 k3 bk0 bk7 oc6 oc7 of6 of7 cn; have bk0 : w3.cell? ⟨w.heap.size, 0, none⟩ = some (.int .i64 6) := (STW.out.grow L3.out).boxes.1; have bk7 : w3.cell? ⟨w.heap.size, 7, none⟩ = some (.slice (some ⟨nb, no, none⟩) ns.length vcn) := (STW.out.grow L3.out).boxes.2.2; have oc6 : w3.cell? ⟨w.heap.size + 1 + 1, 6, none⟩ = some (.slice (some ⟨g, 0, none⟩) xs.length acap) := (STW.out.grow L3.out).out.facts.1.2.2.2.2.2.2.1; have oc7 : w3.cell? ⟨w.heap.size + 1 + 1, 7, none⟩ = some (.slice (some ⟨gn, 0, none⟩) ys.length bcap) := (STW.out.grow L3.out).out.facts.1.2.2.2.2.2.2.2; have of6 : w3.frozen? ⟨w.heap.size + 1 + 1, 6, none⟩ = false := (STW.out.grow L3.out).out.facts.2.1; have of7 : w3.frozen? ⟨w.heap.size + 1 + 1, 7, none⟩ = false := (STW.out.grow L3.out).out.facts.2.2; have cn : w3.cell? ⟨nb, no + i, none⟩ = some (.string nx) := NCL.out _ (STW.out.grow L3.out).low; have sk0 : (w3.setCell ⟨w.heap.size + 1 + 1, 6, none⟩ (.slice ao3 n3 cp3)).cell? ⟨w.heap.size, 0, none⟩ = some (.int .i64 6) := ST5.out.boxes.1; have sk7 : (w3.setCell ⟨w.heap.size + 1 + 1, 6, none⟩ (.slice ao3 n3 cp3)).cell? ⟨w.heap.size, 7, none⟩ = some (.slice (some ⟨nb, no, none⟩) ns.length vcn) := ST5.out.boxes.2.2; have so6 : (w3.setCell ⟨w.heap.size + 1 + 1, 6, none⟩ (.slice ao3 n3 cp3)).cell? ⟨w.heap.size + 1 + 1, 6, none⟩ = some (.slice ao3 n3 cp3) := ST5.out.out.facts.1.2.2.2.2.2.2.1; have so7 : (w3.setCell ⟨w.heap.size + 1 + 1, 6, none⟩ (.slice ao3 n3 cp3)).cell? ⟨w.heap.size + 1 + 1, 7, none⟩ = some (.slice (some ⟨gn, 0, none⟩) ys.length bcap) := ST5.out.out.facts.1.2.2.2.2.2.2.2; have sf6 : (w3.setCell ⟨w.heap.size + 1 + 1, 6, none⟩ (.slice ao3 n3 cp3)).frozen? ⟨w.heap.size + 1 + 1, 6, none⟩ = false := ST5.out.out.facts.2.1; have sf7 : (w3.setCell ⟨w.heap.size + 1 + 1, 6, none⟩ (.slice ao3 n3 cp3)).frozen? ⟨w.heap.size + 1 + 1, 7, none⟩ = false := ST5.out.out.facts.2.2; have sn : (w3.setCell ⟨w.heap.size + 1 + 1, 6, none⟩ (.slice ao3 n3 cp3)).cell? ⟨nb, no + i, none⟩ = some (.string nx) := NCL.out _ ST5.out.low)
          | (at_builtin; refine appRn rfl _ _ _ rfl Tryz.underlying25 n_info rfl (by decide) (by decide) encN_len encN_one w3.heap.size (.slice none 0 0) [] rfl (OwnR.nil _ _ _ _ _) (ys.take (j + 1)) _ _ _ rfl (by rw [ZM.out]; try rfl; try simp) (src_take ST5.out.nms (j + 1)) (by have := ZM.out; have := ZM2.out; have := HLY.out; simp; omega) (by simp) ?_; intro v1n w1n h1 b1 k1; have LAn := Lib.hid (Low.trans_below (Low.refl (w3.setCell ⟨w.heap.size + 1 + 1, 6, none⟩ (.slice ao3 n3 cp3))) b1 (by simp)); have H1n := Lib.hid h1; have Z1n := Lib.hid (show w3.heap.size ≤ w1n.heap.size from Nat.le_trans (by simp) b1.size); clear h1 b1 k1 bk0 bk7 oc6 oc7 of6 of7 cn; have bk0 : w1n.cell? ⟨w.heap.size, 0, none⟩ = some (.int .i64 6) := (ST5.out.grow LAn.out).boxes.1; have bk7 : w1n.cell? ⟨w.heap.size, 7, none⟩ = some (.slice (some ⟨nb, no, none⟩) ns.length vcn) := (ST5.out.grow LAn.out).boxes.2.2; have oc6 : w1n.cell? ⟨w.heap.size + 1 + 1, 6, none⟩ = some (.slice ao3 n3 cp3) := (ST5.out.grow LAn.out).out.facts.1.2.2.2.2.2.2.1; have oc7 : w1n.cell? ⟨w.heap.size + 1 + 1, 7, none⟩ = some (.slice (some ⟨gn, 0, none⟩) ys.length bcap) := (ST5.out.grow LAn.out).out.facts.1.2.2.2.2.2.2.2; have of6 : w1n.frozen? ⟨w.heap.size + 1 + 1, 6, none⟩ = false := (ST5.out.grow LAn.out).out.facts.2.1; have of7 : w1n.frozen? ⟨w.heap.size + 1 + 1, 7, none⟩ = false := (ST5.out.grow LAn.out).out.facts.2.2; have cn : w1n.cell? ⟨nb, no + i, none⟩ = some (.string nx) := NCL.out _ (ST5.out.grow LAn.out).low)
          | (at_builtin; refine appR rfl _ _ _ rfl Tryz.underlying25 n_info rfl (by decide) (by decide) encN_len encN_one w3.heap.size v1n ([] ++ ys.take (j + 1)) rfl (OwnR.alloc H1n.out _) nx ⟨w1n.heap.size, 0, none⟩ 1 rfl (fun j u hj => newcell_at _ _ _ _ _ rfl hj) (by have := ZM.out; have := ZM2.out; have := HLY.out; simp; omega) (by have := Z1n.out; simp; omega) ?_; intro v2n w2n h2 b2 k2 n2; have H2n := Lib.hid h2; have Z2n := Lib.hid (show w3.heap.size ≤ w2n.heap.size from (Nat.le_trans Z1n.out (Nat.le_trans (Nat.le_of_lt (by simp) : w1n.heap.size ≤ _) b2.size))); have L2n := Lib.hid ((Low.alloc LAn.out _).trans_below b2 (by simp)); clear h2 b2 k2 n2 bk0 bk7 oc6 oc7 of6 of7 cn; have bk0 : w2n.cell? ⟨w.heap.size, 0, none⟩ = some (.int .i64 6) := (ST5.out.grow L2n.out).boxes.1; have bk7 : w2n.cell? ⟨w.heap.size, 7, none⟩ = some (.slice (some ⟨nb, no, none⟩) ns.length vcn) := (ST5.out.grow L2n.out).boxes.2.2; have oc6 : w2n.cell? ⟨w.heap.size + 1 + 1, 6, none⟩ = some (.slice ao3 n3 cp3) := (ST5.out.grow L2n.out).out.facts.1.2.2.2.2.2.2.1; have oc7 : w2n.cell? ⟨w.heap.size + 1 + 1, 7, none⟩ = some (.slice (some ⟨gn, 0, none⟩) ys.length bcap) := (ST5.out.grow L2n.out).out.facts.1.2.2.2.2.2.2.2; have of6 : w2n.frozen? ⟨w.heap.size + 1 + 1, 6, none⟩ = false := (ST5.out.grow L2n.out).out.facts.2.1; have of7 : w2n.frozen? ⟨w.heap.size + 1 + 1, 7, none⟩ = false := (ST5.out.grow L2n.out).out.facts.2.2; have cn : w2n.cell? ⟨nb, no + i, none⟩ = some (.string nx) := NCL.out _ (ST5.out.grow L2n.out).low)
          | (at_builtin; refine appRn rfl _ _ _ rfl Tryz.underlying25 n_info rfl (by decide) (by decide) encN_len encN_one w3.heap.size v2n ([] ++ ys.take (j + 1) ++ [nx]) rfl H2n.out (ys.drop (j + 1)) _ _ _ rfl (by rw [ZM2.out]; try simp) (src_drop encN_len (ST5.out.grow L2n.out).nms (by have := HLY.out; omega) _ (by first | exact .inr rfl | (simp; done) | (have := HLY.out; simp; omega))) (by have := ZM.out; have := ZM2.out; have := HLY.out; simp; omega) Z2n.out ?_; intro v3 w3n h3 b3 k3; obtain ⟨ao3n, cp3n, hv3, -, -, -⟩ := OwnR.shape h3; obtain ⟨n3n, hn3⟩ : ∃ n, n = ([] ++ ys.take (j + 1) ++ [nx] ++ ys.drop (j + 1)).length := ⟨_, rfl⟩; rw [← hn3] at hv3; clear hn3; subst hv3; have L3n := Lib.hid (L2n.out.trans_below b3 (by simp)); have ST7 := Lib.hid ((ST5.out.grow L3n.out).putNames (OwnR.base h3 (Nat.le_trans Z00.out Z3.out))); clear h3 b3 k3 bk0 bk7 oc6 oc7 of6 of7 cn; have bk0 : w3n.cell? ⟨w.heap.size, 0, none⟩ = some (.int .i64 6) := (ST5.out.grow L3n.out).boxes.1; have bk7 : w3n.cell? ⟨w.heap.size, 7, none⟩ = some (.slice (some ⟨nb, no, none⟩) ns.length vcn) := (ST5.out.grow L3n.out).boxes.2.2; have oc6 : w3n.cell? ⟨w.heap.size + 1 + 1, 6, none⟩ = some (.slice ao3 n3 cp3) := (ST5.out.grow L3n.out).out.facts.1.2.2.2.2.2.2.1; have oc7 : w3n.cell? ⟨w.heap.size + 1 + 1, 7, none⟩ = some (.slice (some ⟨gn, 0, none⟩) ys.length bcap) := (ST5.out.grow L3n.out).out.facts.1.2.2.2.2.2.2.2; have of6 : w3n.frozen? ⟨w.heap.size + 1 + 1, 6, none⟩ = false := (ST5.out.grow L3n.out).out.facts.2.1; have of7 : w3n.frozen? ⟨w.heap.size + 1 + 1, 7, none⟩ = false := (ST5.out.grow L3n.out).out.facts.2.2; have cn : w3n.cell? ⟨nb, no + i, none⟩ = some (.string nx) := NCL.out _ (ST5.out.grow L3n.out).low))
         all_goals
          have hfx : [] ++ xs.take (j + 1) ++ [p] ++ xs.drop (j + 1) = (fs.take (j + 1) ++ (⟨nx, p⟩ : Fd) :: fs.drop (j + 1)).map (·.p) := by rw [HXS.out]; simp
          have hfy : [] ++ ys.take (j + 1) ++ [nx] ++ ys.drop (j + 1) = (fs.take (j + 1) ++ (⟨nx, p⟩ : Fd) :: fs.drop (j + 1)).map (·.name) := by rw [HYS.out]; simp
          have hprm : (fs.take (j + 1) ++ (⟨nx, p⟩ : Fd) :: fs.drop (j + 1)).Perm ((zipF ns ps).take (i + 1)) := by
           have h := perm_at (x := (⟨nx, p⟩ : Fd)) (k := j + 1) PRM.out
           rwa [ZIP.out] at h
          have hris : Rises cmpT ((fs.take (j + 1) ++ (⟨nx, p⟩ : Fd) :: fs.drop (j + 1)).map (·.name)) := by
           have h := rises_at good_text (x := nx) trivial (l := ys) (fun _ _ => trivial) (by rw [HYS.out]; exact RIS.out) (k := j + 1) (by have := HLY.out; omega) (fun h _ => HNEG.out h) UP.out HTW.out
           rw [← hfy]
           simpa using h
          have HFX := Lib.hid hfx
          have HFY := Lib.hid hfy
          have HPRM := Lib.hid hprm
          have HRIS := Lib.hid hris
          clear hfx hfy hprm hris
          go_wp2_with fail
          go_roundg (ps.length - (i + 1))
          case measure => omega
          case rel => exact ⟨i + 1, _, _, _, by go_num, by omega, by omega, Lib.hid (by rw [← HFX.out, ← HFY.out]; exact ST7.out), HPRM, HRIS, Lib.hid (fun h => absurd h (by simp))⟩
       ·have hup : ∀ y ∈ ys.drop j, 0 ≤ cmpT y nx := fun y hy => by
         rw [HDP.out] at hy
         rcases List.mem_cons.1 hy with rfl | hy
         ·have := HO.out; omega
         ·exact UP.out y hy
        have hany : ((ys.drop j).any fun y => cmpT y nx == 0) = ((o == 0) || tw) := by rw [HDP.out, List.any_cons, ← HO.out, HTW.out]
        have HUP := Lib.hid hup
        have HANY := Lib.hid hany
        clear hup hany
        cases tw with
        | true =>
         go_wp2_with fail
         go_roundg j
         case measure => omega
         case rel => exact ⟨j, by go_num, by rw [HANY.out]; simp, by omega, Nat.le_refl _, Lib.hid (LR.out.trans LW.out), HUP⟩
        | false =>
         go_wp2_with fail
         go_roundg j
         case measure => omega
         case rel => exact ⟨j, by go_num, by rw [HANY.out]; simp, by omega, Nat.le_refl _, Lib.hid (LR.out.trans LW.out), HUP⟩
    ·have z1 : ¬ (i : Int) < (ps.length : Int) := by omega
     have hie : (zipF ns ps).take i = zipF ns ps := List.take_of_length_le (by unfold zipF; rw [List.length_zipWith]; omega)
     have hcan2 : recS ns l = (0, .mk { hd0 with k := 6 } (xs.map (·.v)) ys) := by
      rw [HCAN.out, recC_ok (by rw [HPE.out]; exact HLEN.out) (by have h := PRM.out; rwa [hie] at h) RIS.out, HXS.out, HYS.out, List.map_map]
      rfl
     have hrow : RowAt (fun b => w.heap.size + 3 ≤ b) wr (xs.map (·.v)) (.slice ao xs.length acap) := ownV_row ST.out.its (A := fun b => w.heap.size + 3 ≤ b) (fun p hp => ST.out.lels p (ST.out.sub p hp)) (fun _ h => h) (fun g hg => (World.ownsRow.lt ST.out.its g hg).1)
     have hsz : ∀ y ∈ ys, y.size ≤ 9223372036854775807 := by
      intro y hy
      rw [HYS.out] at hy
      have h1 := (PRM.out.map (·.name)).mem_iff.1 hy
      rw [List.map_take, zipF_names (by rw [HPE.out]; exact HLEN.out)] at h1
      exact HSZ.out y (List.mem_of_mem_take h1)
     have hnr : NamesAt (fun b => w.heap.size + 3 ≤ b) wr ys (.slice bo ys.length bcap) := by
      refine ⟨bo, bcap, rfl, by omega, hsz, ?_⟩
      rcases OwnR.shape2 ST.out.nms with ⟨-, h⟩ | ⟨g, c9, h1, h2⟩
      ·exact .inl h
      ·have hnm := ST.out.nms
       simp only [Value.slice.injEq] at h1
       obtain ⟨rfl, -, -⟩ := h1
       refine .inr ⟨g, 0, rfl, (World.ownsRow.lt hnm g rfl).1, fun j hj => ?_⟩
       have := OwnR.cell encN_len hnm j 0 hj (by decide)
       rw [Nat.mul_one, Nat.add_zero] at this
       rw [Nat.zero_add, this]
       rfl
     obtain ⟨⟨d0, d1, d2, d3, d4, d5, d6, d7⟩, g0, g1, g2, g3, g4, g5, g6, g7⟩ := ST.out.res.facts
     have HCAN2 := Lib.hid hcan2
     have HROW := Lib.hid hrow
     have HNR := Lib.hid hnr
     clear hie hcan2 hrow hnr hsz
     go_wp2_with fail
     refine bodyPost_ret (v := .tuple #[.agg #[.int .i64 6, .bool false, .int .i64 0, .string ⟨#[]⟩, .string ⟨#[]⟩, .string ⟨#[]⟩, .slice ao xs.length acap, .slice bo ys.length bcap], .int .i64 0]) (by simp [results, Tryz.results89, go_sem, World.cell?_setCell_same', d0, d1, d2, d3, d4, d5, d6, d7]; try rfl) rfl ?_
     have K8 := kept8 wr (w.heap.size + 1) (.int .i64 6) (.bool false) (.int .i64 0) (.string ⟨#[]⟩) (.string ⟨#[]⟩) (.string ⟨#[]⟩) (.slice ao xs.length acap) (.slice bo ys.length bcap)
     rw [HCAN2.out]
     have hlm : (xs.map (·.v)).length = xs.length := List.length_map _
     refine ⟨ao, acap, bo, bcap, by simp [V.h, V.l, V.ns, hd0], ?_, ST.out.low.kept K8 fun g hg => by simp at hg; omega⟩
     show Rep _ _ _ (.slice ao (xs.map (·.v)).length acap) _
     rw [hlm]
     have hto : ∀ b, w.heap.size + 3 ≤ b → b < wr.heap.size → _ := fun b hb hlt => (⟨by omega, K8.2.2.2 b hlt (by simp; omega)⟩ : w.heap.size ≤ b ∧ _ = _)
     exact rep_v.2 ⟨⟨Nat.zero_le _, Nat.zero_le _, Nat.zero_le _⟩, NamesAt.to hto HNR.out, RowAt.to hto HROW.out⟩
end Go.Proofs.YtnchohglplobeaaGreat
