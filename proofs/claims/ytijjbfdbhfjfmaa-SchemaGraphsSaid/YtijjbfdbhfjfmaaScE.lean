/- schema.Envs: all kinds of requests, in order. Condition: no more than ten actions, and principals and resources of one. -/
import Derived.Test.YtijjbfdbhfjfmaaScT
namespace Go.Proofs.Ytijjbfdbhfjfmaa
open Go.RowKit
set_option linter.unusedVariables false
structure Ev where
  p : Nm
  a : Nm
  r : Nm
def encV (x : Ev) : List Value := [.string x.p.s, .string x.a.s, .string x.r.s]
theorem v_info : (Try.prog.info? 44).map (fun i => (i.zero, i.size, i.bytes)) = some (some (.agg #[.string ⟨#[]⟩, .string ⟨#[]⟩, .string ⟨#[]⟩]), 3, 48) := by kernel_rfl
theorem encV_len (x : Ev) : (encV x).length = 3 := rfl
theorem encV_one (x : Ev) : ∀ u ∈ encV x, u.oneCell' = true := by
  intro u hu
  simp [encV] at hu
  rcases hu with rfl | rfl | rfl <;> rfl
abbrev OwnV (B : Nat) (w : World) (v : Value) (l : List Ev) : Prop := OwnR 44 3 encV B w v l
def envR (a : Ac) (p : Nm) : List Ev := a.rs.map fun r => ⟨p, a.nm, r⟩
def envA (a : Ac) : List Ev := a.ps.flatMap (envR a)
def envs (l : List Ac) : List Ev := l.flatMap envA
def FewA (l : List Ac) : Prop := l.length ≤ 10 ∧ ∀ a ∈ l, a.ps.length ≤ 10 ∧ a.rs.length ≤ 10
def acB (x : Ac) (pi : Option Addr) (ci : Nat) (pp : Option Addr) (cp : Nat) (pr : Option Addr) (cr : Nat) (pa : Option Addr) (ca : Nat) : List Value := [.string x.nm.s, .slice pi x.ins.length ci, .slice pp x.ps.length cp, .slice pr x.rs.length cr, .slice pa x.ats.length ca]
set_option maxRecDepth 100000 in
set_option maxHeartbeats 3200000 in
theorem envs_c (n : Nat) (l : List Ac) (w : World) (vt va : Value) (hf : FewA l) (h : AcsAt n w l va) : Calls Try.prog 16 #[.agg #[vt, va]] w fun e w' => ∃ v, e = .returned v ∧ OwnV w.heap.size w' v (envs l) ∧ Low w w' := by
  obtain ⟨p, c, rfl, z1, z2⟩ := RowB.sl h
  have HA := Lib.hid h
  have HFA := Lib.hid hf
  have hl10 := hf.1
  clear h hf
  go_enter Try.func16, Try.ntmps16
  go_wp2_with fail
  go_loopg [3, 13] l.length (fun gk v vi wr => ∃ (i : Nat) (L : List Ev), vi = .int .i64 (i : Int) ∧ i ≤ l.length ∧ l.length - i ≤ gk ∧ Hid (Low w wr) ∧ w.heap.size + 1 ≤ wr.heap.size ∧ Hid (OwnV w.heap.size wr v L) ∧ L.length ≤ i * 100 ∧ Hid (L = envs (l.take i)))
  case atStart => exact ⟨0, [], rfl, Nat.zero_le _, Nat.le_refl _, Lib.hid (low_new (Low.refl w) _), by simp, Lib.hid (OwnR.nil _ _ _ _ _), Nat.zero_le _, Lib.hid rfl⟩
  case round =>
    obtain ⟨i, L, rfl, hi, hg, LL, hsz, OO, hLn, HL⟩ := hrel
    obtain ⟨ao, cap, rfl, -, -, -⟩ := OO.out.shape
    by_cases hlt : i < l.length
    · have zl : (i : Int) < (l.length : Int) := by omega
      obtain ⟨b, o, pi, ci, pp, cp, pr, cr, pa, ca, rfl, e0, e1, e2, e3, e4, -, hps, hrs, -, ⟨y1, y2⟩, ⟨y3, y4⟩, ⟨y5, y6⟩, ⟨y7, y8⟩⟩ := AcsAt.at HA.out hlt
      replace e0 := LL.out.keep e0
      replace e1 := LL.out.keep e1
      replace e2 := LL.out.keep e2
      replace e3 := LL.out.keep e3
      replace e4 := LL.out.keep e4
      obtain ⟨a, ha⟩ : ∃ a, a = l[i] := ⟨_, rfl⟩
      rw [← ha] at e0 e1 e2 e3 e4 hps hrs y1 y3 y5 y7
      have HT := Lib.hid (show envs (l.take (i + 1)) = envs (l.take i) ++ envA a by unfold envs; rw [List.take_succ_eq_append_getElem hlt, ← ha]; simp)
      have hfa := HFA.out.2 a (ha ▸ List.getElem_mem hlt)
      have HPS := Lib.hid hps
      have HRS := Lib.hid hrs
      have hnew := low_new (Low.refl wr) (.cells (acB a pi ci pp cp pr cr pa ca).toArray 37)
      have HCB := Lib.hid (show CellsAt (wr.alloc (.cells (acB a pi ci pp cp pr cr pa ca).toArray 37)) wr.heap.size 0 (acB a pi ci pp cp pr cr pa ca) from fun j u hj => by rw [Nat.zero_add, World.cell?_alloc_mark]; simpa using hj)
      have HLA := Lib.hid (LL.out.trans hnew)
      have HOA := Lib.hid (OwnR.alloc OO.out (.cells (acB a pi ci pp cp pr cr pa ca).toArray 37))
      have HNA : Hid ((Value.slice ao L.length cap).ownBlock ≠ some wr.heap.size) := Lib.hid (by intro e; have := (World.ownsRow.lt OO.out _ e).2; omega)
      have HSA : wr.heap.size + 1 ≤ (wr.alloc (.cells (acB a pi ci pp cp pr cr pa ca).toArray 37)).heap.size := by simp
      have HL0 := HL
      have hsz0 := hsz
      clear hps hrs ha hnew
      unfold acB at HCB HLA HOA HSA
      obtain ⟨cs, hcs⟩ : ∃ cs : List Value, cs = [.string a.nm.s, .slice pi a.ins.length ci, .slice pp a.ps.length cp, .slice pr a.rs.length cr, .slice pa a.ats.length ca] := ⟨_, rfl⟩
      have HC0 := Lib.hid (show cs[0]? = some (.string a.nm.s) by rw [hcs]; rfl)
      have HC3 := Lib.hid (show cs[3]? = some (.slice pr a.rs.length cr) by rw [hcs]; rfl)
      have HCC := Lib.hid (fun j u (hj : cs[j]? = some u) => HCB.out j u (by rw [← hcs]; exact hj))
      clear hcs HCB
      go_wp2_with fail
      rename World => wo
      go_loopg [3, 20] a.ps.length (fun gk v vk wr => ∃ (k : Nat) (L' : List Ev), vk = .int .i64 (k : Int) ∧ k ≤ a.ps.length ∧ a.ps.length - k ≤ gk ∧ Hid (Low w wr) ∧ wo.heap.size + 1 ≤ wr.heap.size ∧ Hid (OwnV w.heap.size wr v L') ∧ Hid (v.ownBlock ≠ some wo.heap.size) ∧ Hid (CellsAt wr wo.heap.size 0 cs) ∧ L'.length ≤ i * 100 + k * 10 ∧ Hid (L' = L ++ (a.ps.take k).flatMap (envR a)))
      case atStart => exact ⟨0, L, rfl, Nat.zero_le _, Nat.le_refl _, HLA, HSA, HOA, HNA, HCC, by omega, Lib.hid (by simp)⟩
      case round =>
        clear HLA HSA HOA HNA HCC LL OO
        obtain ⟨k, L', rfl, hk, hgk, LL, hsz, OO, NN, CB, hLn', HL'⟩ := hrel
        obtain ⟨ao2, cap2, rfl, -, -, -⟩ := OO.out.shape
        by_cases hkt : k < a.ps.length
        · have zk : (k : Int) < (a.ps.length : Int) := by omega
          obtain ⟨pb, po, rfl, f0⟩ := (HPS.out.low LL.out).at hkt
          obtain ⟨x, hx⟩ : ∃ x, x = a.ps[k] := ⟨_, rfl⟩
          rw [← hx] at f0
          have HT2 := Lib.hid (show (a.ps.take (k + 1)).flatMap (envR a) = (a.ps.take k).flatMap (envR a) ++ envR a x by rw [List.take_succ_eq_append_getElem hkt, ← hx]; simp)
          clear hx
          have g3 : wr.cell? ⟨wo.heap.size, 3, none⟩ = some (.slice pr a.rs.length cr) := by have := CB.out 3 _ HC3.out; rwa [Nat.zero_add] at this
          go_wp2_with fail
          go_loopg [3, 27] a.rs.length (fun gm v vm wr => ∃ (m : Nat) (L2 : List Ev), vm = .int .i64 (m : Int) ∧ m ≤ a.rs.length ∧ a.rs.length - m ≤ gm ∧ Hid (Low w wr) ∧ wo.heap.size + 1 ≤ wr.heap.size ∧ Hid (OwnV w.heap.size wr v L2) ∧ Hid (v.ownBlock ≠ some wo.heap.size) ∧ Hid (CellsAt wr wo.heap.size 0 cs) ∧ L2.length ≤ i * 100 + k * 10 + m ∧ Hid (L2 = L' ++ (a.rs.take m).map fun r => (⟨x, a.nm, r⟩ : Ev)))
          case atStart => exact ⟨0, L', rfl, Nat.zero_le _, Nat.le_refl _, LL, hsz, OO, NN, CB, by omega, Lib.hid (by simp)⟩
          case round =>
            clear LL hsz OO NN CB g3
            obtain ⟨m, L2, rfl, hm, hgm, LL, hsz, OO, NN, CB, hLn2, HL2⟩ := hrel
            obtain ⟨ao3, cap3, rfl, -, -, -⟩ := OO.out.shape
            by_cases hmt : m < a.rs.length
            · have zm : (m : Int) < (a.rs.length : Int) := by omega
              obtain ⟨rb, ro, rfl, r0⟩ := (HRS.out.low LL.out).at hmt
              obtain ⟨y, hy⟩ : ∃ y, y = a.rs[m] := ⟨_, rfl⟩
              rw [← hy] at r0
              have HT3 := Lib.hid (show (a.rs.take (m + 1)).map (fun r => (⟨x, a.nm, r⟩ : Ev)) = (a.rs.take m).map (fun r => (⟨x, a.nm, r⟩ : Ev)) ++ [⟨x, a.nm, y⟩] by rw [List.take_succ_eq_append_getElem hmt, ← hy]; simp)
              clear hy
              have g0 : wr.cell? ⟨wo.heap.size, 0, none⟩ = some (.string a.nm.s) := by have := CB.out 0 _ HC0.out; rwa [Nat.zero_add] at this
              have hs2 : w.heap.size ≤ wr.heap.size := LL.out.2.2.1
              go_wp2_with (at_builtin; go_loud (refine appR rfl _ _ _ rfl Try.underlying41 v_info rfl (by decide) (by decide) encV_len encV_one w.heap.size _ L2 rfl (OwnR.alloc OO.out _) (⟨x, a.nm, y⟩ : Ev) ⟨wr.heap.size, 0, none⟩ 1 rfl (fun j u hj => newcell_at _ _ _ _ _ rfl hj) (by omega) (by simp; omega) ?_); intro v5 w5 O5 B5 K5 N5)
              have HO5 := Lib.hid O5
              have HL5 := Lib.hid (low_setN (low_new LL.out (.cells #[.string x.s, .string a.nm.s, .string y.s] 44)) B5 (Nat.le_refl _))
              have HN5 : Hid (v5.ownBlock ≠ some wo.heap.size) := Lib.hid (by
                intro e
                rcases N5 with h | h
                · rw [h] at e; exact NN.out e
                · have := h _ e
                  simp at this
                  omega)
              have HC5 := Lib.hid (show CellsAt w5 wo.heap.size 0 cs from fun j u hj => by
                have h1 := CB.out j u hj
                refine (World.cell?_of_block (w := wr) (w' := w5) ?_).trans h1
                refine (K5 wo.heap.size (by simp; omega) (fun e => NN.out e.symm)).trans ?_
                exact (low_new (Low.refl wr) _).2.2.2 _ (by show wo.heap.size < wr.heap.size; omega))
              have hs5 : wo.heap.size + 1 ≤ w5.heap.size := Nat.le_trans (by simp; omega) B5.size
              clear O5 B5 K5 N5
              go_roundg (a.rs.length - (m + 1))
              case measure => omega
              case rel => exact ⟨m + 1, L2 ++ [⟨x, a.nm, y⟩], by go_num, by omega, by omega, HL5, hs5, HO5, HN5, HC5, by simp; omega, Lib.hid (by rw [HT3.out, HL2.out]; simp)⟩
            · have zm : ¬ (m : Int) < (a.rs.length : Int) := by omega
              obtain rfl : m = a.rs.length := by omega
              go_wp2_with fail
              go_roundg (a.ps.length - (k + 1))
              case measure => omega
              case rel => exact ⟨k + 1, L2, by go_num, by omega, by omega, LL, hsz, OO, NN, CB, by omega, Lib.hid (by rw [HT2.out, HL2.out, HL'.out, List.take_length]; simp [envR])⟩
        · have zk : ¬ (k : Int) < (a.ps.length : Int) := by omega
          obtain rfl : k = a.ps.length := by omega
          go_wp2_with fail
          go_roundg (l.length - (i + 1))
          case measure => omega
          case rel => exact ⟨i + 1, L', by go_num, by omega, by omega, LL, by omega, OO, by omega, Lib.hid (by rw [HT.out, HL'.out, HL0.out, List.take_length]; rfl)⟩
    · have zl : ¬ (i : Int) < (l.length : Int) := by omega
      obtain rfl : i = l.length := by omega
      go_wp2_with fail
      go_ret
      refine ⟨_, rfl, ?_, LL.out⟩
      have := HL.out
      rw [List.take_length] at this
      rw [← this]; exact OO.out
end Go.Proofs.Ytijjbfdbhfjfmaa
