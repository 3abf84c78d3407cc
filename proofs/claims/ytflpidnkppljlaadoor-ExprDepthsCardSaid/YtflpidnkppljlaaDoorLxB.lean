/- Rows of bytes that a call makes itself: made, gone on with, told as a text. No condition. Package lex's gap: how many bytes of blanks and remarks stand ahead. Condition: the length that any string has. -/
import Derived.Test.YtflpidnkppljlaaDoorNms
import Derived.Deep.RegionLaw
import Derived.Test.YtflpidnkppljlaaDoorLxA
import Derived.Test.YtflpidnkppljlaaDoorExP
set_option linter.unusedVariables false
set_option linter.unnecessarySimpa false
set_option linter.unusedSimpArgs false
namespace Go.Proofs.YtflpidnkppljlaaDoor
open Go.RowKit
def byV (c : UInt8) : Value := .int .u8 (c.toNat : Int)
/-- The slice holds just these bytes, in a block of the call's own. -/
def Own (B : Nat) (w : World) (v : Value) (l : List UInt8) : Prop := w.ownsRow B 5 1 v l.length (l.map byV)
theorem u8_info : (Tryd.prog.info? 5).map (fun i => (i.zero, i.size, i.bytes)) = some (some (.int .u8 0), 1, 1) := by kernel_rfl
theorem Own.alloc {B : Nat} {w : World} {v : Value} {l : List UInt8} (h : Own B w v l) (o : Obj) : Own B (w.alloc o) v l := World.ownsRow.alloc h o
theorem Own.nil (B : Nat) (w : World) : Own B w (.slice none 0 0) [] := World.ownsRow_nil _ _ _ _
theorem Own.drewN {B : Nat} {w : World} {v : Value} {l : List UInt8} (h : Own B w v l) (n : Nat) : Own B (w.drewN n) v l := h
theorem Own.drew {B : Nat} {w : World} {v : Value} {l : List UInt8} (h : Own B w v l) : Own B w.drew v l := h
theorem own_make {ops : Array Oper} {rest : List Oper} {o : Oper} {a : Act} {w : World} {Q : Exit → Act → World → Prop} (hgd : o.guard = none) (s x : Operand) (hop : o.op = Op.makeSlice 80 s x)
    (B n : Nat) (C : Int) (hs : a.eval s = .int .i64 0) (hx : a.eval x = .int .i64 C) (hC : C = (n : Int)) (hn : n ≤ 140737488355328) (hb : B ≤ w.heap.size)
    (h : ∀ v' w', Own B w' v' [] → Below B w w' → wpList Tryd.prog ops Q rest (a.put o.dst v') w') : wpList Tryd.prog ops Q (o :: rest) a w := by
  obtain ⟨i0, hi, hz0, hz1, hz2⟩ := info_parts u8_info
  exact wpList_make_own w hgd s x 80 hop B 5 i0 (.int .u8 0) 1 Tryd.underlying80 hi hz0 hz1 .i64 .i64 C n hs hx hC (by rw [hz2]; omega) (by unfold maxLen; omega) hb
    fun w' h1 h2 => h _ w' h1 ((Below.refl _ _).grown h2 hb (by simp))
theorem own_app {ops : Array Oper} {rest : List Oper} {o : Oper} {a : Act} {w : World} {Q : Exit → Act → World → Prop} (hgd : o.guard = none) (s x : Operand) (t : TypeId)
    (ho : o.op = .call { callee := .builtin .append, args := #[s, x], argTypes := #[t, t] }) (ht : Tryd.prog.underlying t = some (.slice 5))
    (B : Nat) (v : Value) (l news : List UInt8) (hs : a.eval s = v) (hown : Own B w v l) (ad : Addr) (m c : Nat) (hm : news.length = m) (hx : a.eval x = .slice (some ad) m c)
    (hnews : ∀ j (hj : j < news.length), w.cell? (ad.add j) = some (byV news[j])) (hlen : l.length + m ≤ 140737488355328) (hb : B ≤ w.heap.size)
    (h : ∀ v' w', Own B w' v' (l ++ news) → Below B w w' → wpList Tryd.prog ops Q rest (a.put o.dst v') w') : wpList Tryd.prog ops Q (o :: rest) a w := by
  subst hm
  obtain ⟨i0, hi, hz0, hz1, hz2⟩ := info_parts u8_info
  refine wpList_append_own w hgd s x t ho B 5 i0 (.int .u8 0) 1 1 ht hi hz0 hz1 hz2 rfl (by decide) v l.length (l.map byV) hs hown ad news.length c (news.map byV) hx (by simp) (fun j u hj => ?_) (fun u hu => ?_)
    (by unfold maxLen; omega) (by omega) hb fun v' w' h1 h2 _ => h v' w' ?_ ((Below.refl _ _).grown h2 hb fun k hk => (World.ownsRow.lt hown k hk).1)
  · rw [List.getElem?_map] at hj
    rcases Nat.lt_or_ge j news.length with hlt | hge
    · rw [List.getElem?_eq_getElem hlt] at hj
      rw [hnews j hlt]; exact hj
    · rw [List.getElem?_eq_none hge] at hj; simp at hj
  · simp at hu; obtain ⟨c, _, rfl⟩ := hu; rfl
  · unfold Own; rw [List.map_append, List.length_append]; exact h1
theorem own_step {ops : Array Oper} {o : Oper} {a : Act} {w : World} {K : Act → World → Prop} {Q : Exit → Act → World → Prop} {E : Prop} (hgd : o.guard = none) (s x : Operand) (t : TypeId)
    (ho : o.op = .call { callee := .builtin .append, args := #[s, x], argTypes := #[t, t] }) (ht : Tryd.prog.underlying t = some (.slice 5))
    (B : Nat) (v : Value) (l news : List UInt8) (hs : a.eval s = v) (hown : Own B w v l) (ad : Addr) (m c : Nat) (hm : news.length = m) (hx : a.eval x = .slice (some ad) m c)
    (hnews : ∀ j (hj : j < news.length), w.cell? (ad.add j) = some (byV news[j])) (hlen : l.length + m ≤ 140737488355328) (hb : B ≤ w.heap.size)
    (h : ∀ v' w', Own B w' v' (l ++ news) → Below B w w' → K (a.put o.dst v') w') : if Region.wanted o (yielded ops a.tmps) = true then Oper.wp Tryd.prog o a w K Q else E := by
  have hw : Region.wanted o (yielded ops a.tmps) = true := by simp [Region.wanted, hgd]
  rw [if_pos hw]
  subst hm
  obtain ⟨i0, hi, hz0, hz1, hz2⟩ := info_parts u8_info
  refine wp_append_own w s x t ho B 5 i0 (.int .u8 0) 1 1 ht hi hz0 hz1 hz2 rfl (by decide) v l.length (l.map byV) hs hown ad news.length c (news.map byV) hx (by simp) (fun j u hj => ?_) (fun u hu => ?_)
    (by unfold maxLen; omega) (by omega) hb fun v' w' h1 h2 _ => h v' w' ?_ ((Below.refl _ _).grown h2 hb fun k hk => (World.ownsRow.lt hown k hk).1)
  · rw [List.getElem?_map] at hj
    rcases Nat.lt_or_ge j news.length with hlt | hge
    · rw [List.getElem?_eq_getElem hlt] at hj
      rw [hnews j hlt]; exact hj
    · rw [List.getElem?_eq_none hge] at hj; simp at hj
  · simp at hu; obtain ⟨c, _, rfl⟩ := hu; rfl
  · unfold Own; rw [List.map_append, List.length_append]; exact h1
theorem own_conv {B : Nat} {w : World} {v : Value} {l : List UInt8} (h : Own B w v l) : (convert 80 9 v).run Tryd.prog w = .ok (.string ⟨l.toArray⟩) w := by
  have hc := fun g hg => World.ownsRow.cells h (g := g) hg
  rcases h.2 with ⟨rfl, hn⟩ | ⟨g, cap, cur, rfl, _⟩
  · have : l = [] := List.eq_nil_of_length_eq_zero hn
    subst this
    exact run_convert_bytes_nil (P := Tryd.prog) w 80 5 Tryd.underlying80 Tryd.underlying5 0 0 9 Tryd.underlying9
  · refine run_convert_bytes_back w _ _ 5 _ cap l Tryd.underlying80 Tryd.underlying5 Tryd.underlying9 fun j hj => ?_
    exact hc g rfl j _ (by rw [List.getElem?_map, List.getElem?_eq_getElem hj]; rfl)
theorem cell_one (w : World) (u : Value) (t : TypeId) : (w.alloc (.cells #[u] t)).cell? ⟨w.heap.size, 0, none⟩ = some u := by
  rw [World.cell?_alloc_mark]; rfl
theorem cells_new (w : World) (l : List UInt8) (C : Array Value) (t : TypeId) (hC : C = (l.map byV).toArray) :
    ∀ j (hj : j < l.length), (w.alloc (.cells C t)).cell? ((⟨w.heap.size, 0, none⟩ : Addr).add j) = some (byV l[j]) := by
  intro j hj
  have e : (⟨w.heap.size, 0, none⟩ : Addr).add j = ⟨w.heap.size, j, none⟩ := by simp [Addr.add]; omega
  rw [e, World.cell?_alloc_mark, hC]
  simp [hj]
end Go.Proofs.YtflpidnkppljlaaDoor
namespace Go.Proofs.YtflpidnkppljlaaDoor
open Go.RowKit
theorem spanG_c (d : ByteArray) (hd : d.size ≤ 9223372036854775807) (b0 : Nat) (w : World) (hb : w.cell? ⟨b0, 0, none⟩ = some (.string d)) :
    Calls Tryd.prog 19 #[.string d, .func (.func 20) #[] #[.pointer (some ⟨b0, 0, none⟩)]] w fun e w' => e = .returned (.int .i64 (spanN blkB d.data.toList : Nat)) ∧ w = w' := by
  refine (lenG_c (fun i => blkB (gb d i)) (fun _ w' => w = w') d hd b0 w rfl (fun i hi w' hw => ?_)).mono ?_
  · subst hw; exact gap1_c d i hi b0 w hb
  · rintro e w' ⟨k, rfl, hk, h1, h0, j, rfl⟩
    exact ⟨by rw [span_gb hk h1 h0], rfl⟩
theorem spanH_c (d : ByteArray) (hd : d.size ≤ 9223372036854775807) (b0 : Nat) (w : World) (hb : w.cell? ⟨b0, 0, none⟩ = some (.string d)) :
    Calls Tryd.prog 19 #[.string d, .func (.func 23) #[] #[.pointer (some ⟨b0, 0, none⟩)]] w fun e w' => e = .returned (.int .i64 (spanN notLf d.data.toList : Nat)) ∧ w = w' := by
  refine (lenH_c (fun i => notLf (gb d i)) (fun _ w' => w = w') d hd b0 w rfl (fun i hi w' hw => ?_)).mono ?_
  · subst hw; exact gap2_c d i hi b0 w hb
  · rintro e w' ⟨k, rfl, hk, h1, h0, j, rfl⟩
    exact ⟨by rw [span_gb hk h1 h0], rfl⟩
theorem spanD_c (d : ByteArray) (hd : d.size ≤ 9223372036854775807) (b0 : Nat) (w : World) (hb : w.cell? ⟨b0, 0, none⟩ = some (.string d)) :
    Calls Tryd.prog 19 #[.string d, .func (.func 38) #[] #[.pointer (some ⟨b0, 0, none⟩)]] w fun e w' => e = .returned (.int .i64 (spanN digB d.data.toList : Nat)) ∧ w = w' := by
  refine (lenN_c (fun i => digB (gb d i)) (fun _ w' => w = w') d hd b0 w rfl (fun i hi w' hw => ?_)).mono ?_
  · subst hw; exact num1_c d i hi b0 w hb
  · rintro e w' ⟨k, rfl, hk, h1, h0, j, rfl⟩
    exact ⟨by rw [span_gb hk h1 h0], rfl⟩
theorem nam_gb {d : ByteArray} {k : Nat} (hk : k ≤ d.size) (h1 : ∀ i, i < k → namQ d i = true) (h0 : k < d.size → namQ d k = false) : nameN d.data.toList = k := by
  have e : ∀ i, gb d i = d.data.toList.getD i 0 := fun _ => rfl
  have hz : d.size = d.data.toList.length := by simp
  rw [hz] at hk h0
  unfold namQ at h1 h0
  simp only [e] at h1 h0
  generalize d.data.toList = l at *
  match l with
  | [] => simp at hk; simp [nameN, hk]
  | c :: r =>
    show (if letR c = true then spanN namB r + 1 else 0) = k
    match k with
    | 0 =>
      have h := h0 (by simp)
      simp at h
      rw [if_neg (by simp [h])]
    | k + 1 =>
      have h := h1 0 (by omega)
      simp at h
      rw [if_pos h, spanN_eq (k := k) (by simpa using hk) (fun i hl hi => ?_) (fun hl => ?_)]
      · have := h1 (i + 1) (by omega)
        simp [hl] at this
        rw [namB_r]; simpa using this
      · have := h0 (by simpa using hl)
        simp [hl] at this
        rw [namB_r]; simpa using this
theorem spanM_c (d : ByteArray) (hd : d.size ≤ 9223372036854775807) (b0 : Nat) (w : World) (hb : w.cell? ⟨b0, 0, none⟩ = some (.string d)) :
    Calls Tryd.prog 19 #[.string d, .func (.func 40) #[] #[.pointer (some ⟨b0, 0, none⟩)]] w fun e w' => e = .returned (.int .i64 (nameN d.data.toList : Nat)) ∧ w = w' := by
  refine (lenM_c (namQ d) (fun _ w' => w = w') d hd b0 w rfl (fun i hi w' hw => ?_)).mono ?_
  · subst hw; exact nam1_c d hd i hi b0 w hb
  · rintro e w' ⟨k, rfl, hk, h1, h0, j, rfl⟩
    exact ⟨by rw [nam_gb hk h1 h0], rfl⟩
theorem quo_gb {d : ByteArray} {k : Nat} (h34 : d.data.toList.head? = some 34) (hk : k ≤ d.size) (h1 : ∀ i, i < k → quoQ d i = true) (h0 : k < d.size → quoQ d k = false) : k = endQ false (d.data.toList.drop 1) + 1 := by
  have e : ∀ i, gb d i = d.data.toList.getD i 0 := fun _ => rfl
  have hz : d.size = d.data.toList.length := by simp
  rw [hz] at hk h0
  unfold quoQ at h1 h0
  simp only [e] at h1 h0
  generalize d.data.toList = l at *
  match l with
  | [] => simp at h34
  | c :: r =>
    simp at h34
    subst h34
    match k with
    | 0 => have h := h0 (by simp); simp at h
    | k + 1 =>
      have key : ∀ i, oddS false (34 :: r) (i + 1) = oddS false r i := fun i => oddS_cons false 34 r i
      rw [List.drop_succ_cons, List.drop_zero, endQ_eq false r k (by simpa using hk) (fun i hi => ?_) (fun hl => ?_)]
      · have := h1 (i + 1) (by omega)
        rw [key] at this
        rw [List.getD_cons_succ] at this
        revert this
        cases (r.getD i 0 == 34) <;> cases oddS false r i <;> simp
      · have := h0 (by simpa using hl)
        rw [key, List.getD_cons_succ] at this
        revert this
        cases (r.getD k 0 == 34) <;> cases oddS false r k <;> simp
theorem spanQ_c (W0 : World) (d : ByteArray) (h34 : d.data.toList.head? = some 34) (hd : d.size ≤ 9223372036854775807) (b0 b1 : Nat) (w : World) (hb : OddSt W0 d b0 b1 false w) :
    Calls Tryd.prog 19 #[.string d, .func (.func 36) #[] #[.pointer (some ⟨b0, 0, none⟩), .pointer (some ⟨b1, 0, none⟩)]] w fun e w' => e = .returned (.int .i64 ((endQ false (d.data.toList.drop 1) + 1 : Nat) : Int)) ∧ w'.cell? ⟨b0, 0, none⟩ = some (.string d) ∧ Low W0 w' := by
  refine (lenQ_c (quoQ d) (fun i w' => OddSt W0 d b0 b1 (oddS false d.data.toList i) w') d hd b0 b1 w hb (fun i hi w' hw => quo1_c W0 d i hi b0 b1 w' hw)).mono ?_
  rintro e w' ⟨k, rfl, hk, h1, h0, j, hj⟩
  exact ⟨by rw [← quo_gb h34 hk h1 h0], hj.s, hj.low⟩
theorem gap_end {l : List UInt8} (h : Lib.hasPrefix (l.drop (spanN blkB l)) [47, 47] = false) : skp false l = spanN blkB l := by
  rw [skp_blanks]
  have e : skp false (l.drop (spanN blkB l)) = 0 := by
    rcases Nat.lt_or_ge (spanN blkB l) l.length with hl | hl
    · have hs := spanN_stop hl
      rw [List.drop_eq_getElem_cons hl] at h ⊢
      refine skp_stop hs fun ⟨h1, h2⟩ => ?_
      rw [h1] at h
      match hd : l.drop (spanN blkB l + 1) with
      | [] => rw [hd] at h2; simp at h2
      | d :: r =>
        rw [hd] at h h2
        simp at h2
        subst h2
        simp [Lib.hasPrefix] at h
    · rw [List.drop_eq_nil_of_le hl]; rfl
  rw [e]; rfl
theorem gap_next {l : List UInt8} (h : Lib.hasPrefix (l.drop (spanN blkB l)) [47, 47] = true) :
    2 ≤ spanN notLf (l.drop (spanN blkB l)) ∧ skp false l = spanN blkB l + (spanN notLf (l.drop (spanN blkB l)) + skp false ((l.drop (spanN blkB l)).drop (spanN notLf (l.drop (spanN blkB l))))) := by
  rw [skp_blanks]
  generalize l.drop (spanN blkB l) = m at *
  obtain ⟨r, rfl⟩ : ∃ r, m = 47 :: 47 :: r := by
    unfold Lib.hasPrefix at h
    match m with
    | [] => simp at h
    | [c] => simp at h
    | c :: d :: r => simp at h; exact ⟨r, by rw [← h.1, ← h.2]⟩
  refine ⟨?_, by rw [← skp_remark]⟩
  show 2 ≤ spanN notLf r + 1 + 1
  omega
set_option maxHeartbeats 800000 in
theorem gap_c (s : ByteArray) (hs : s.size ≤ 9223372036854775807) (w : World) : Calls Tryd.prog 13 #[.string s] w fun e w' => e = .returned (.int .i64 (skp false s.data.toList : Nat)) ∧ Low w w' := by
  go_enter Tryd.func13, Tryd.ntmps13
  go_wp2_with fail
  go_loopg [3] s.size (fun gk va wr => ∃ k : Nat, va = .int .i64 (k : Int) ∧ k ≤ s.size ∧ s.size - k ≤ gk ∧ Hid (Low w wr) ∧ Hid (skp false s.data.toList = k + skp false (s.data.toList.drop k)))
  case atStart => exact ⟨0, rfl, Nat.zero_le _, Nat.le_refl _, Lib.hid (Low.refl _), Lib.hid (by simp)⟩
  case round =>
    obtain ⟨k, rfl, hk, hg, G, K⟩ := hrel
    have zk : (k : Int) ≤ (s.size : Int) := by omega
    have DL : Hid ((s.extract k s.size).size ≤ 9223372036854775807) := Lib.hid (Nat.le_trans (ext_le _ _ _) hs)
    obtain ⟨a, ha⟩ : ∃ a, spanN blkB (s.extract k s.size).data.toList = a := ⟨_, rfl⟩
    have A := Lib.hid ha
    clear ha
    have BA : k + a ≤ s.size ∧ Hid (s.data.toList.drop (k + a) = (s.data.toList.drop k).drop a) := by
      have := spanN_le blkB (s.extract k s.size).data.toList
      rw [A.out, ext_to, List.length_drop] at this
      have hz : s.data.toList.length = s.size := by simp
      exact ⟨by omega, Lib.hid (by rw [List.drop_drop])⟩
    obtain ⟨zka, DD⟩ := BA
    have zka2 : (k : Int) + (a : Int) ≤ (s.size : Int) := by omega
    have D2 : Hid ((s.extract (k + a) s.size).size ≤ 9223372036854775807) := Lib.hid (Nat.le_trans (ext_le _ _ _) hs)
    obtain ⟨P, hP⟩ : ∃ P, Lib.hasPrefix (s.extract (k + a) s.size).data.toList [47, 47] = P := ⟨_, rfl⟩
    have HP := Lib.hid hP
    clear hP
    go_wp2_with fail
    refine (spanG_c _ DL.out _ _ (cell_one _ _ _)).mono ?_
    rintro e w' ⟨rfl, rfl⟩
    rw [A.out]
    go_wp2_with fail
    refine (Tryd.strings_HasPrefix _ _ _).mono ?_
    rintro e w' ⟨rfl, hw⟩
    rw [hw]
    clear hw
    rw [HP.out]
    cases P with
    | false =>
      have E := Lib.hid (show (Ending.returned (.int .i64 ((k : Int) + (a : Int)))) = Ending.returned (.int .i64 (skp false s.data.toList : Nat)) by
        have h1 := gap_end (l := s.data.toList.drop k) (by have := HP.out; have hA := A.out; rw [ext_to] at this hA; rw [hA, ← DD.out]; exact this)
        have hA := A.out
        rw [ext_to] at hA
        rw [K.out, h1, hA]; rfl)
      go_wp2_with fail
      go_ret
      exact ⟨E.out, low_new G.out _⟩
    | true =>
      obtain ⟨b, hb⟩ : ∃ b, spanN notLf (s.extract (k + a) s.size).data.toList = b := ⟨_, rfl⟩
      have N : 2 ≤ b ∧ k + a + b ≤ s.size ∧ Hid (skp false s.data.toList = k + a + b + skp false (s.data.toList.drop (k + a + b))) := by
        have hA := A.out
        have hb' := hb
        rw [ext_to] at hA hb'
        have h1 := gap_next (l := s.data.toList.drop k) (by have := HP.out; rw [ext_to] at this; rw [hA, ← DD.out]; exact this)
        rw [hA, ← DD.out, hb'] at h1
        have h2 := spanN_le notLf (s.data.toList.drop (k + a))
        rw [hb', List.length_drop] at h2
        have hz : s.data.toList.length = s.size := by simp
        refine ⟨h1.1, by omega, Lib.hid ?_⟩
        rw [K.out, h1.2, List.drop_drop]; omega
      have B := Lib.hid hb
      clear hb
      obtain ⟨n1, n2, n3⟩ := N
      have zkab : (k : Int) + (a : Int) + (b : Int) ≤ (s.size : Int) := by omega
      go_wp2_with fail
      refine (spanH_c _ D2.out _ _ (cell_one _ _ _)).mono ?_
      rintro e w' ⟨rfl, rfl⟩
      rw [B.out]
      go_wp2_with fail
      go_roundg (s.size - (k + a + b))
      case measure => omega
      case rel => exact ⟨k + a + b, by go_num, by omega, by omega, Lib.hid (low_new G.out _), n3⟩
set_option maxHeartbeats 400000 in
theorem nameLength_c (s : ByteArray) (hs : s.size ≤ 9223372036854775807) (w : World) : Calls Tryd.prog 28 #[.string s] w fun e w' => e = .returned (.int .i64 (nameN s.data.toList : Nat)) ∧ Low w w' := by
  go_enter Tryd.func28, Tryd.ntmps28
  go_wp2_with fail
  refine (spanM_c _ hs _ _ (cell_one _ _ _)).mono ?_
  rintro e w' ⟨rfl, rfl⟩
  go_wp2_with fail
  go_ret
  exact ⟨rfl, low_new (Low.refl _) _⟩
end Go.Proofs.YtflpidnkppljlaaDoor
