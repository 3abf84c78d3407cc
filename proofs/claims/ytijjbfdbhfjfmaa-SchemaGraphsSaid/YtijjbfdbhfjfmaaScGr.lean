/- Actions one above the other in any way may be just where the document says; which is in which is what it says. No condition but that the library's variable holds a number. -/
import Derived.Test.YtijjbfdbhfjfmaaScCk
import Derived.Test.YtijjbfdbhfjfmaaScOA
import Derived.Test.YtijjbfdbhfjfmaaTyRcO
import Derived.BigQuiet
namespace Go.Proofs.Ytijjbfdbhfjfmaa
open Go.RowKit
set_option linter.unusedVariables false
def abc8 : ByteArray := ⟨#[97, 98, 99, 100, 101, 102, 103, 104]⟩
theorem slice_abc8 (w : World) (i j : Nat) (z z' : Int) (hz : z = (i : Int)) (hz' : z' = (j : Int)) (hij : i ≤ j) (hj : j ≤ 8) : (Instr.slice 9 (.string ⟨#[97, 98, 99, 100, 101, 102, 103, 104]⟩) (some (.int .i64 z)) (some (.int .i64 z')) none).run Try.prog w = .ok (.string (abc8.extract i j)) w := by
  subst hz hz'
  have h8 : abc8.size = 8 := rfl
  have h := run_slice_string (P := Try.prog) w 9 abc8 .i64 .i64 (i : Int) (j : Int) Try.underlying9 (by omega) (by omega) (by rw [h8]; omega)
  simp only [Int.toNat_natCast] at h
  exact h
theorem slice_abc8u (w : World) (i j : Nat) (z z' : Int) (hz : z = (i : Int)) (hz' : z' = (j : Int)) (hij : i ≤ j) (hj : j ≤ 8) : (Instr.slice 9 (.string ⟨#[97, 98, 99, 100, 101, 102, 103, 104]⟩) (some (.int .u8 z)) (some (.int .u8 z')) none).run Try.prog w = .ok (.string (abc8.extract i j)) w := by
  subst hz hz'
  have h8 : abc8.size = 8 := rfl
  have h := run_slice_string (P := Try.prog) w 9 abc8 .u8 .u8 (i : Int) (j : Int) Try.underlying9 (by omega) (by omega) (by rw [h8]; omega)
  simp only [Int.toNat_natCast] at h
  exact h
theorem abc_sz (i : Nat) : (abc8.extract i (i + 1)).size ≤ 9223372036854775807 := by
  have : (abc8.extract i (i + 1)).size ≤ 8 := by
    rw [ByteArray.size_extract]
    have : abc8.size = 8 := rfl
    omega
  omega
/-- The name of a number. -/
def nmI (i : Nat) : Nm := ⟨abc8.extract i (i + 1), abc_sz i⟩
theorem and7 : ∀ a : Fin 256, bits BinOp.and IntKind.u8 (a.val : Int) 7 = ((a.val % 8 : Nat) : Int) := by decide +kernel
theorem str_info : (Try.prog.info? 37).map (fun i => (i.zero, i.size, i.bytes)) = some (some (.agg #[.string ⟨#[]⟩, .slice none 0 0, .slice none 0 0, .slice none 0 0, .slice none 0 0]), 5, 112) := by kernel_rfl
structure Gw where
  i : Nat
  ins : List Nm
  pi : Option Addr
  ci : Nat
def encG (r : Gw) : List Value := [.string (nmI r.i).s, .slice r.pi r.ins.length r.ci, .slice none 0 0, .slice none 0 0, .slice none 0 0]
theorem encG_len (r : Gw) : (encG r).length = 5 := rfl
theorem encG_one (r : Gw) : ∀ u ∈ encG r, u.oneCell' = true := by
  intro u hu
  simp [encG] at hu
  rcases hu with rfl | rfl | rfl <;> rfl
abbrev OwnG5 (B : Nat) (w : World) (v : Value) (l : List Gw) : Prop := OwnR 37 5 encG B w v l
def Gw.ac (r : Gw) : Ac := ⟨nmI r.i, r.ins, [], [], []⟩
/-- A row's names lie in a block of their own. -/
structure InOk (sx : Nat) (w : World) (own : Option Nat) (r : Gw) : Prop where
  le : r.ins.length ≤ r.ci ∧ r.ci ≤ 9223372036854775807
  few : r.ins.length ≤ 6
  row : r.ins = [] ∨ ∃ g, r.pi = some ⟨g, 0, none⟩ ∧ some g ≠ own ∧ g ≠ sx ∧ g < w.heap.size ∧ ∀ j (hj : j < r.ins.length), w.cell? ⟨g, j, none⟩ = some (.string r.ins[j].s)
theorem InOk.to {sx : Nat} {w w' : World} {own own' : Option Nat} {r : Gw} (h : InOk sx w own r) (hs : w.heap.size ≤ w'.heap.size) (hb : ∀ g, g < w.heap.size → some g ≠ own → g ≠ sx → w'.heap[g]? = w.heap[g]?) (ho : ∀ g, g < w.heap.size → some g ≠ own → some g ≠ own') : InOk sx w' own' r := by
  refine ⟨h.le, h.few, ?_⟩
  rcases h.row with h0 | ⟨g, h1, h2, h3, h4, h5⟩
  · exact .inl h0
  · refine .inr ⟨g, h1, ho g h4 h2, h3, Nat.lt_of_lt_of_le h4 hs, fun j hj => ?_⟩
    exact (World.cell?_of_block (hb g h4 h2 h3)).trans (h5 j hj)
theorem InOk.ns {sx : Nat} {w : World} {own : Option Nat} {r : Gw} (h : InOk sx w own r) : NsAt w r.ins (.slice r.pi r.ins.length r.ci) := by
  refine ⟨r.pi, r.ci, rfl, h.le, fun j hj => ?_⟩
  rcases h.row with h0 | ⟨g, h1, -, -, -, h5⟩
  · rw [h0] at hj; exact absurd hj (Nat.not_lt_zero _)
  · refine ⟨g, 0, (), h1, fun c u hu => ?_, trivial⟩
    have hc : c = 0 := by
      cases c with
      | zero => rfl
      | succ c => simp [encNm] at hu
    subst hc
    rw [Nat.zero_add, Nat.add_zero, Nat.mul_one]
    rw [h5 j hj]
    simpa [encNm] using hu
theorem acs_rows {sx B : Nat} {w : World} {v : Value} {rows : List Gw} (ho : OwnG5 B w v rows) (hr : ∀ r ∈ rows, InOk sx w v.ownBlock r) : AcsAt 0 w (rows.map Gw.ac) v := by
  obtain ⟨ao, cap, rfl, h1, h2, hx⟩ := ho.shape
  refine ⟨ao, cap, by rw [List.length_map], by rw [List.length_map]; exact ⟨h1, h2⟩, fun j hj => ?_⟩
  have hj2 : j < rows.length := by simpa using hj
  rcases hx with h0 | ⟨g3, rfl, -, -⟩
  · rw [h0] at hj2; exact absurd hj2 (Nat.not_lt_zero _)
  · refine ⟨g3, 0, ((.slice rows[j].pi rows[j].ins.length rows[j].ci, .slice none 0 0), .slice none 0 0, .slice none 0 0), rfl, fun c u hu => ?_, ?_⟩
    · have hu2 : (encG rows[j])[c]? = some u := by simpa [encAc, Gw.ac, encG] using hu
      have hc : c < 5 := by have := (List.getElem?_eq_some_iff.1 hu2).1; rwa [encG_len] at this
      rw [Nat.zero_add]
      exact (ho.cell encG_len j c hj2 hc).trans hu2
    · have := (hr rows[j] (List.getElem_mem hj2)).ns
      rw [List.getElem_map]
      exact ⟨this, NsAt.nil _, NsAt.nil _, RAs.nil _ _ _⟩
set_option maxRecDepth 100000 in
set_option maxHeartbeats 6400000 in
theorem schemaGraphs_v (l : List (List (Fin 256))) (a b : Fin 256) (w : World) (v : Value) (hx : Mx w) (h : YsAt w l v) : Calls Try.prog 6 #[v, .int .u8 (a.val : Int), .int .u8 (b.val : Int)] w fun e w' => e = .returned (.bool true) ∧ Low w w' := by
  obtain ⟨py, cy, rfl, z1, z2⟩ := RowB.sl h
  have HAw := Lib.hid (awake12_c w hx)
  have HY := Lib.hid h
  have HX := Lib.hid hx
  obtain ⟨za, hza⟩ : ∃ z : Int, z = (a.val : Int) := ⟨_, rfl⟩
  obtain ⟨zb, hzb⟩ : ∃ z : Int, z = (b.val : Int) := ⟨_, rfl⟩
  rw [← hza, ← hzb]
  have HZA := Lib.hid hza
  have HZB := Lib.hid hzb
  clear h hx hza hzb
  go_enter Try.func6, Try.ntmps6
  go_wp2_with fail
  refine HAw.out.mono ?_
  rintro e w1 ⟨rfl, l1⟩
  have L1 := Lib.hid l1
  clear l1 HAw
  obtain ⟨sx, hsx⟩ : ∃ sx, sx = w1.heap.size := ⟨_, rfl⟩
  obtain ⟨S1, hS1⟩ : ∃ S, S = w1.alloc (.cells #[.slice none 0 0, .slice none 0 0] 25) := ⟨_, rfl⟩
  have HBX := Lib.hid (show BoxAt S1 sx [.slice none 0 0, .slice none 0 0] from BoxAt.made hS1 hsx.symm rfl)
  have LS := Lib.hid (show Low w S1 by rw [hS1]; exact L1.out.trans (low_new (Low.refl _) _))
  have hwsx : w.heap.size ≤ sx := by rw [hsx]; exact L1.out.size
  go_upto_region 5 with fail
  rw [← hS1, ← hsx]
  clear hS1 hsx
  go_wp2_with fail
  go_loopg [9] 9 (fun gk vi wr => ∃ (i : Nat) (rows : List Gw) (va : Value), vi = .int .i64 (i : Int) ∧ i ≤ l.length ∧ i ≤ 8 ∧ 9 - i ≤ gk ∧ rows.length = i ∧ Hid (Low w wr) ∧ Hid (BoxAt wr sx [.slice none 0 0, va]) ∧ Hid (OwnG5 (sx + 1) wr va rows) ∧ Hid (∀ r ∈ rows, InOk sx wr va.ownBlock r))
  case atStart => exact ⟨0, [], _, rfl, Nat.zero_le _, by omega, by omega, rfl, LS, HBX, Lib.hid (OwnR.nil _ _ _ _ _), Lib.hid (by intro r hr; simp at hr)⟩
  case round =>
    rename World => wo
    obtain ⟨i, rows, va, rfl, hil, hi8, hg, hrl, LL, BX, OO, IO⟩ := hrel
    obtain ⟨aoR, capR, rfl, -, -, -⟩ := OO.out.shape
    by_cases hlt : i < l.length ∧ i < 8
    · obtain ⟨hl1, hl2⟩ := hlt
      have zl : (i : Int) < (l.length : Int) := by omega
      have z8 : (i : Int) < 8 := by omega
      have hw1 : IntKind.wrap .i64 ((i : Int) + 1) = (i : Int) + 1 := by rw [IntKind.wrap_i64]; omega
      have s1 := slice_abc8 wo i (i + 1) (i : Int) ((i : Int) + 1) rfl (by omega) (by omega) (by omega)
      have zz8 : (i : Int) + 1 ≤ 8 := by omega
      obtain ⟨yb, yo, qy, dy, hpy, hcy, hby, y1, y2⟩ := HY.out.at hl1
      obtain ⟨row, hrow⟩ : ∃ row, row = l[i] := ⟨_, rfl⟩
      rw [← hrow] at hcy hby y1
      have HCY := Lib.hid hcy
      have HBY := Lib.hid hby
      clear hcy hby hrow
      subst hpy
      obtain ⟨B0, hB0⟩ : ∃ B, B = wo.alloc (.cells #[.string (abc8.extract i (i + 1)), .slice none 0 0, .slice none 0 0, .slice none 0 0, .slice none 0 0] 37) := ⟨_, rfl⟩
      obtain ⟨bx, hbx⟩ : ∃ bx, bx = wo.heap.size := ⟨_, rfl⟩
      have HBB := Lib.hid (show BoxAt B0 bx [.string (abc8.extract i (i + 1)), .slice none 0 0, .slice none 0 0, .slice none 0 0, .slice none 0 0] from BoxAt.made hB0 hbx.symm rfl)
      have LB := Lib.hid (show Low wo B0 by rw [hB0]; exact low_new (Low.refl _) _)
      have HBX := Lib.hid hbx
      go_upto_region 9 with fail
      rw [← hB0, ← hbx]
      clear hB0 hbx s1
      go_wp2_with fail
      go_loopg [11] 7 (fun gj vk wi => ∃ (k : Nat) (ins : List Nm) (pi : Option Addr) (ci : Nat), vk = .int .i64 (k : Int) ∧ k ≤ row.length ∧ k ≤ 6 ∧ 7 - k ≤ gj ∧ ins.length ≤ k ∧ Hid (Low wo wi) ∧ Hid (BoxAt wi bx [.string (abc8.extract i (i + 1)), .slice pi ins.length ci, .slice none 0 0, .slice none 0 0, .slice none 0 0]) ∧ Hid (OwnN (bx + 1) wi (.slice pi ins.length ci) ins))
      case atStart => exact ⟨0, [], none, 0, rfl, Nat.zero_le _, by omega, by omega, Nat.zero_le _, LB, HBB, Lib.hid (OwnR.nil _ _ _ _ _)⟩
      case round =>
        clear LB HBB
        obtain ⟨k, ins, pi, ci, rfl, hk1, hk2, hgj, hil2, LI, BI, OI⟩ := hrel
        have c0 := (LL.out.trans LI.out).keep HCY.out
        by_cases hkt : k < row.length ∧ k < 6
        · obtain ⟨hk3, hk4⟩ := hkt
          have zk : (k : Int) < (row.length : Int) := by omega
          have zk6 : (k : Int) < 6 := by omega
          obtain ⟨bb, bo, hqy, d0⟩ := (HBY.out.low (LL.out.trans LI.out)).at hk3
          obtain ⟨z, hz⟩ : ∃ z : Nat, z = row[k].val := ⟨_, rfl⟩
          have hz255 : z ≤ 255 := by have := row[k].isLt; omega
          rw [← hz] at d0
          obtain ⟨m, hm⟩ : ∃ m, m = z % 9 := ⟨_, rfl⟩
          have hm1 : Int.tmod (z : Int) 9 = (m : Int) := by rw [Int.tmod_eq_emod_of_nonneg (by omega)]; omega
          have hm9 : m < 9 := by omega
          have hm2 : IntKind.wrap .i64 (m : Int) = (m : Int) := by rw [IntKind.wrap_i64]; omega
          clear hz hm
          subst hqy
          by_cases hm8 : m < 8
          · have zm : (m : Int) < 8 := by omega
            have hw3 : IntKind.wrap .i64 ((m : Int) + 1) = (m : Int) + 1 := by rw [IntKind.wrap_i64]; omega
            have zm8 : (m : Int) + 1 ≤ 8 := by omega
            go_upto_region 14 with fail
            have s3 := slice_abc8 wr.drew m (m + 1) (m : Int) ((m : Int) + 1) rfl (by omega) (by omega) (by omega)
            have e1 := BI.out.at 1 _ rfl
            have e1X := fun X => (BI.out.low (low_new (Low.refl wr) X)).at 1 _ rfl
            obtain ⟨WX, hWX⟩ : ∃ W, W = wr.drew.alloc (.cells #[.string (abc8.extract m (m + 1))] 9) := ⟨_, rfl⟩
            have LX := Lib.hid (show Low wr WX by rw [hWX]; exact low_new (low_drew (Low.refl wr)) _)
            have OX := Lib.hid (OwnR.low OI.out LX.out)
            have BX2 := Lib.hid (BI.out.low LX.out)
            have hbl := BI.out.lt
            have HSX := Lib.hid (show bx + 1 ≤ WX.heap.size from Nat.le_trans hbl LX.out.size)
            rw [hWX] at OX HSX
            have HWX := Lib.hid hWX
            clear hWX c0 d0
            go_region_law (first
              | (refine ownR_step2 rfl _ _ _ rfl Try.underlying30 s_info rfl (by decide) (by decide) encS_len encS_one (bx + 1) (.slice pi ins.length ci) ins rfl OX.out (nmI m) ⟨wr.heap.size, 0, none⟩ 1 rfl (fun j u hj => newcell_at _ _ _ _ _ rfl hj) (by omega) HSX.out ?_; intro v6 w6 O6 B6 K6 N6; obtain ⟨a6, c6, hv6, -, -, -⟩ := OwnR.shape O6; replace hv6 : v6 = .slice a6 (ins.length + 1) c6 := hv6.trans (by rw [List.length_append]; rfl); subst hv6; have HO6 := Lib.hid O6; have HB6 := Lib.hid (show RowKit.Below (bx + 1) WX w6 by rw [HWX.out]; exact B6); have HK6 := Lib.hid (show ∀ b, b < WX.heap.size → some b ≠ (Value.slice pi ins.length ci).ownBlock → w6.heap[b]? = WX.heap[b]? by rw [HWX.out]; exact K6); have BE6 := Lib.hid (show BoxAt w6 bx [.string (abc8.extract i (i + 1)), .slice pi ins.length ci, .slice none 0 0, .slice none 0 0, .slice none 0 0] from BX2.out.kept (x := (Value.slice pi ins.length ci).ownBlock) ⟨HB6.out.os, HB6.out.output, HB6.out.size, HK6.out⟩ (fun e => by have := (World.ownsRow.lt OX.out bx e.symm).1; omega)); have q1 := BE6.out.open' 1; have q2 := BE6.out.at 1 _ rfl; clear O6 B6 K6 N6))
            all_goals
              obtain ⟨W5, hW5⟩ : ∃ W, W = w6.setCell ⟨bx, 1, none⟩ (.slice a6 (ins.length + 1) c6) := ⟨_, rfl⟩
              have HW5 := Lib.hid hW5
              have K5 := Lib.hid (show KeptBut w6 W5 (some bx) from hW5 ▸ kept_setCell _ _ _ _)
              have BE5 := Lib.hid (show BoxAt W5 bx [.string (abc8.extract i (i + 1)), .slice a6 (ins ++ [nmI m]).length c6, .slice none 0 0, .slice none 0 0, .slice none 0 0] by rw [hW5, List.length_append]; exact BE6.out.set 1 _)
              have L5 := Lib.hid (show Low wo W5 from low_all (low_setN (LI.out.trans LX.out) HB6.out (by have := HBX.out; omega)) (by have := HBX.out; omega) K5.out)
              have O5 := Lib.hid (show OwnN (bx + 1) W5 (.slice a6 (ins ++ [nmI m]).length c6) (ins ++ [nmI m]) by
                rw [List.length_append]
                exact HO6.out.to fun g hg => K5.out.2.2.2 g (World.ownsRow.lt HO6.out g hg).2 (fun e => by
                  have := (World.ownsRow.lt HO6.out g hg).1
                  simp at e
                  omega))
              rw [← hW5]
              clear hW5 HW5 q1 q2 e1 e1X s3
              go_wp2_with fail
              go_roundg (7 - (k + 1))
              case measure => omega
              case rel => exact ⟨k + 1, ins ++ [nmI m], a6, c6, by go_num, by omega, by omega, by omega, by simp; omega, L5, BE5, O5⟩
          · have zm : ¬ (m : Int) < 8 := by omega
            go_wp2_with fail
            go_roundg (7 - (k + 1))
            case measure => omega
            case rel => exact ⟨k + 1, ins, pi, ci, by go_num, by omega, by omega, by omega, by omega, LI, BI, OI⟩
        · have hcond : ((k : Int) < (row.length : Int) ∧ ¬ (k : Int) < 6) ∨ ¬ (k : Int) < (row.length : Int) := by omega
          have HRL := Lib.hid hrl
          clear hkt hrl
          have c1 := (BX.out.low LI.out).at 1 _ rfl
          have x0 := BI.out.at 0 _ rfl
          have x1 := BI.out.at 1 _ rfl
          have x2 := BI.out.at 2 _ rfl
          have x3 := BI.out.at 3 _ rfl
          have x4 := BI.out.at 4 _ rfl
          have HBXS := Lib.hid (show sx < bx by have := BX.out.lt; have := HBX.out; omega)
          have HOW := Lib.hid (show ∀ g, (Value.slice aoR rows.length capR).ownBlock = some g → sx + 1 ≤ g ∧ g < bx from fun g hg => by have := World.ownsRow.lt OO.out g hg; have := HBX.out; omega)
          have OA := Lib.hid (OwnR.alloc (OwnR.low OO.out LI.out) (.cells #[.string (abc8.extract i (i + 1)), .slice pi ins.length ci, .slice none 0 0, .slice none 0 0, .slice none 0 0] 37))
          have LA := Lib.hid (low_new (Low.refl wr) (.cells #[.string (abc8.extract i (i + 1)), .slice pi ins.length ci, .slice none 0 0, .slice none 0 0, .slice none 0 0] 37))
          have BXA := Lib.hid ((BX.out.low LI.out).low LA.out)
          have hsw : sx + 1 ≤ wr.heap.size := by have := (BX.out.low LI.out).lt; omega
          have hr8 : rows.length ≤ 8 := by have := HRL.out; omega
          rcases hcond with ⟨zk, zk6⟩ | zk
          all_goals
            go_wp2_with (at_builtin; go_loud (refine appR rfl _ _ _ rfl Try.underlying23 str_info rfl (by decide) (by decide) encG_len encG_one (sx + 1) _ rows rfl OA.out (⟨i, ins, pi, ci⟩ : Gw) ⟨wr.heap.size, 0, none⟩ 1 rfl (fun j u hj => newcell_at _ _ _ _ _ rfl hj) (by omega) (by simp; omega) ?_); intro v5 w5 O5 B5 K5 N5; obtain ⟨a5, c5, hv5, -, -, -⟩ := OwnR.shape O5; replace hv5 : v5 = .slice a5 (rows.length + 1) c5 := hv5.trans (by rw [List.length_append]; rfl); subst hv5; have HO5 := Lib.hid O5; have HB5 := Lib.hid B5; have HK5 := Lib.hid K5; have HN5 := Lib.hid N5; have BX5 := Lib.hid (BXA.out.kept (x := (Value.slice aoR rows.length capR).ownBlock) ⟨B5.os, B5.output, B5.size, K5⟩ (fun e => by have := (HOW.out sx e.symm).1; omega)); have q1 := BX5.out.open' 1; have q2 := BX5.out.at 1 _ rfl; clear O5 B5 K5 N5)
            obtain ⟨W6, hW6⟩ : ∃ W, W = w5.setCell ⟨sx, 1, none⟩ (.slice a5 (rows.length + 1) c5) := ⟨_, rfl⟩
            have HW6 := Lib.hid hW6
            have K6 := Lib.hid (show KeptBut w5 W6 (some sx) from hW6 ▸ kept_setCell _ _ _ _)
            have BX6 := Lib.hid (show BoxAt W6 sx [.slice none 0 0, .slice a5 (rows ++ [(⟨i, ins, pi, ci⟩ : Gw)]).length c5] by rw [hW6, List.length_append]; exact BX5.out.set 1 _)
            have L6 := Lib.hid (show Low w W6 from low_all (low_setN (LL.out.trans (LI.out.trans LA.out)) HB5.out (by omega)) (by omega) K6.out)
            have O6 := Lib.hid (show OwnG5 (sx + 1) W6 (.slice a5 (rows ++ [(⟨i, ins, pi, ci⟩ : Gw)]).length c5) (rows ++ [⟨i, ins, pi, ci⟩]) by
              rw [List.length_append]
              exact HO5.out.to fun g hg => K6.out.2.2.2 g (World.ownsRow.lt HO5.out g hg).2 (fun e => by
                have := (World.ownsRow.lt HO5.out g hg).1
                simp at e
                omega))
            have HNO := Lib.hid (show ∀ g, g < wr.heap.size → some g ≠ (Value.slice aoR rows.length capR).ownBlock → some g ≠ (Value.slice a5 (rows ++ [(⟨i, ins, pi, ci⟩ : Gw)]).length c5).ownBlock from fun g hgl hgo e => by
              rw [List.length_append] at e
              rcases HN5.out with h | h
              · exact hgo (e.trans h)
              · have := h g e.symm
                simp at this
                omega)
            have HBK := Lib.hid (show ∀ g, g < wr.heap.size → some g ≠ (Value.slice aoR rows.length capR).ownBlock → g ≠ sx → W6.heap[g]? = wr.heap[g]? from fun g hgl hgo hgs => by
              have hga : g < (wr.alloc (.cells #[.string (abc8.extract i (i + 1)), .slice pi ins.length ci, .slice none 0 0, .slice none 0 0, .slice none 0 0] 37)).heap.size := by simp; omega
              have h1 := HK5.out g hga hgo
              have h2 := K6.out.2.2.2 g (Nat.lt_of_lt_of_le hga HB5.out.size) (by simp; omega)
              exact h2.trans (h1.trans (LA.out.2.2.2 g hgl)))
            have HSZ := Lib.hid (show wr.heap.size ≤ W6.heap.size from Nat.le_trans LA.out.size (Nat.le_trans HB5.out.size K6.out.2.2.1))
            have IO6 := Lib.hid (show ∀ r ∈ rows ++ [(⟨i, ins, pi, ci⟩ : Gw)], InOk sx W6 (Value.slice a5 (rows ++ [(⟨i, ins, pi, ci⟩ : Gw)]).length c5).ownBlock r from fun r hr => by
              rcases List.mem_append.1 hr with hr | hr
              · refine (IO.out r hr).to (Nat.le_trans LI.out.size HSZ.out) (fun g hgl hgo hgs => ?_) (fun g hgl hgo => HNO.out g (Nat.lt_of_lt_of_le hgl LI.out.size) hgo)
                exact (HBK.out g (Nat.lt_of_lt_of_le hgl LI.out.size) hgo hgs).trans (LI.out.2.2.2 g hgl)
              · simp at hr
                subst hr
                obtain ⟨ao7, cap7, he7, h71, h72, hx7⟩ := OI.out.shape
                simp only [Value.slice.injEq] at he7
                obtain ⟨rfl, -, rfl⟩ := he7
                refine ⟨⟨h71, h72⟩, by show ins.length ≤ 6; omega, ?_⟩
                rcases hx7 with h0 | ⟨g, rfl, hg1, hg2⟩
                · exact .inl h0
                · have hgo : some g ≠ (Value.slice aoR rows.length capR).ownBlock := fun e => by have := (HOW.out g e.symm).2; omega
                  have hgs : g ≠ sx := by have := HBXS.out; omega
                  refine .inr ⟨g, rfl, HNO.out g hg2 hgo, hgs, Nat.lt_of_lt_of_le hg2 HSZ.out, fun j hj => ?_⟩
                  have h8 := OI.out.cell encS_len j 0 hj (by omega)
                  rw [Nat.mul_one, Nat.add_zero] at h8
                  exact (World.cell?_of_block (HBK.out g hg2 hgo hgs)).trans h8)
            rw [← hW6]
            clear hW6 HW6 q1 q2 c1 x0 x1 x2 x3 x4
            go_wp2_with fail
            go_roundg (9 - (i + 1))
            case measure => omega
            case rel => exact ⟨i + 1, rows ++ [⟨i, ins, pi, ci⟩], _, by go_num, by omega, by omega, by omega, by rw [List.length_append, HRL.out]; rfl, L6, BX6, O6, IO6⟩
    · have hcond : ((i : Int) < (l.length : Int) ∧ ¬ (i : Int) < 8) ∨ ¬ (i : Int) < (l.length : Int) := by omega
      have b0 := BX.out.at 0 _ rfl
      have b1 := BX.out.at 1 _ rfl
      obtain ⟨x, hx1⟩ : ∃ x : Nat, x = a.val % 8 := ⟨_, rfl⟩
      obtain ⟨y, hy1⟩ : ∃ y : Nat, y = b.val % 8 := ⟨_, rfl⟩
      have hx8 : x < 8 := by omega
      have hy8 : y < 8 := by omega
      have m1 : bits BinOp.and IntKind.u8 za 7 = (x : Int) := by rw [HZA.out, and7 a, hx1]
      have m2 : bits BinOp.and IntKind.u8 zb 7 = (y : Int) := by rw [HZB.out, and7 b, hy1]
      clear hx1 hy1
      have wx : IntKind.wrap .u8 (x : Int) = (x : Int) := by rw [IntKind.wrap_u8]; omega
      have wy : IntKind.wrap .u8 (y : Int) = (y : Int) := by rw [IntKind.wrap_u8]; omega
      have wx1 : IntKind.wrap .u8 ((x : Int) + 1) = (x : Int) + 1 := by rw [IntKind.wrap_u8]; omega
      have wy1 : IntKind.wrap .u8 ((y : Int) + 1) = (y : Int) + 1 := by rw [IntKind.wrap_u8]; omega
      have t1 := slice_abc8u wo x (x + 1) (x : Int) ((x : Int) + 1) rfl (by omega) (by omega) (by omega)
      have t2 := slice_abc8u wo y (y + 1) (y : Int) ((y : Int) + 1) rfl (by omega) (by omega) (by omega)
      have hr8 : rows.length ≤ 8 := by omega
      obtain ⟨acs, hacs⟩ : ∃ acs, acs = rows.map Gw.ac := ⟨_, rfl⟩
      have hlen : acs.length = rows.length := by rw [hacs, List.length_map]
      have HA := Lib.hid (show AcsAt 0 wo acs (.slice aoR rows.length capR) from hacs ▸ acs_rows OO.out IO.out)
      have HG := Lib.hid (show FewG (acs.map Ac.r) from ⟨by rw [List.length_map, hlen]; omega, fun p hp => by
        rw [hacs, List.map_map] at hp
        obtain ⟨r, hr, rfl⟩ := List.mem_map.1 hp
        have := (IO.out r hr).few
        show r.ins.length ≤ 100
        omega⟩)
      have HS := Lib.hid (show ∀ t ∈ acs, Sm (0 + 1) (recT t.ats) from fun t ht => by
        rw [hacs] at ht
        obtain ⟨r, hr, rfl⟩ := List.mem_map.1 ht
        exact ex_sm)
      have hl1 : acs.length ≤ 100000 := by omega
      obtain ⟨R, hR⟩ : ∃ R, R = chkS 0 [] acs := ⟨_, rfl⟩
      obtain ⟨I, hI⟩ : ∃ I, I = inB (acs.map Ac.r) (nmI x) (nmI y) := ⟨_, rfl⟩
      have C1 := Lib.hid fun q : InL wo => Calls.low q (check12_c 0 [] acs q.w (.slice none 0 0) _ ((HX.out.low LL.out).low q.ok) (by intro t ht; simp at ht) (by intro t ht; simp at ht) HS.out ⟨by decide, by decide⟩ HG.out (RowB.nil _ _ _ _) (HA.out.low q.ok))
      have C2 := Lib.hid fun q : InL wo => Calls.low q (rcheck12_c 0 (by omega) [] acs q.w (.slice none 0 0) _ (by intro t ht; simp at ht) HG.out (RowB.nil _ _ _ _) (HA.out.low q.ok))
      have C3 := Lib.hid fun q : InL wo => Calls.low q (actin_c 0 acs (nmI x) (nmI y) q.w (.slice none 0 0) _ hl1 HG.out (HA.out.low q.ok))
      have C4 := Lib.hid fun q : InL wo => Calls.low q (ractin_c 0 acs (nmI x) (nmI y) q.w (.slice none 0 0) _ HG.out (HA.out.low q.ok))
      rw [← hR] at C1 C2
      rw [← hI, show (nmI x).s = abc8.extract x (x + 1) from rfl, show (nmI y).s = abc8.extract y (y + 1) from rfl] at C3 C4
      have rr : (R == R) = true := by simp
      have ii : (I == I) = true := by simp
      clear hlt hrl hi8 hil hacs hlen hl1 hR hI HG HS HA
      rcases hcond with ⟨zl, z8⟩ | zl
      all_goals
        go_upto_region 18 with fail
        have b0 := fun q : InL wo => q.cell b0
        have b1 := fun q : InL wo => q.cell b1
        haveI := InL.some wo
        refine wp_region_low mixedT (by kernel_rfl) ?_
        repeat (go_big_quiet_step (first | (with_reducible exact C1.out _) | (with_reducible exact C2.out _) | (with_reducible exact C3.out _) | (with_reducible exact C4.out _)))
        refine wpQuiet_nil ?_
        rintro W8 ⟨p8, hW8⟩
        have LW := Lib.hid (show Low w W8 by rw [hW8]; exact LL.out.trans p8.ok)
        clear hW8 p8 b0 b1 this C1 C2 C3 C4
        go_wp2_with fail
        go_ret
        exact ⟨rfl, LW.out⟩
theorem schemaGraphs_w (l : List (List (Fin 256))) (a b : Int) (w : World) (v : Value) (ha : 0 ≤ a ∧ a ≤ 255) (hb : 0 ≤ b ∧ b ≤ 255) (hx : Mx w) (h : YsAt w l v) : Calls Try.prog 6 #[v, .int .u8 a, .int .u8 b] w fun e w' => e = .returned (.bool true) ∧ Low w w' := by
  obtain ⟨m, rfl⟩ := Int.eq_ofNat_of_zero_le ha.1
  obtain ⟨n, rfl⟩ := Int.eq_ofNat_of_zero_le hb.1
  exact schemaGraphs_v l ⟨m, by omega⟩ ⟨n, by omega⟩ w v hx h
end Go.Proofs.Ytijjbfdbhfjfmaa
