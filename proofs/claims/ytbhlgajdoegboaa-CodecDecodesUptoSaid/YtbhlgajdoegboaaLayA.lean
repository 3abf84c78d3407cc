/- The bytes of a value, by definition; facts on these. No condition. Rows of bytes that calls make, behind one another: what each call leaves as it was. No condition. codec.layNumber, layText, layTruth: bytes behind a row of bytes. Condition: the row is no longer than 2^46. codec.layValue, layItems: a value's bytes behind a row of bytes; too long, it may be left off. Condition: the bytes are no more than 2^46. codec.layValue: a value's bytes behind a row of bytes. Condition: the bytes are no more than 2^46. -/
import Derived.Test.YtbhlgajdoegboaaBytes
import Derived.Test.YtbhlgajdoegboaaVals
import Derived.Lib.AppendStr
import Derived.Lib.Hide
import Derived.Deep.LoopGhost
import Derived.Test.YtbhlgajdoegboaaDeps
import Derived.Deep.RegionLaw
namespace Go.Proofs.Ytbhlgajdoegboaa
open Go.RowKit
/-- A number's bytes, so many, the highest first. -/
def be : Nat → Nat → List UInt8
  | 0, _ => []
  | w + 1, n => UInt8.ofNat (n / 256 ^ w) :: be w n
theorem be_len : ∀ w n, (be w n).length = w
  | 0, _ => rfl
  | w + 1, n => by rw [be, List.length_cons, be_len w n]
/-- A text's bytes. -/
def layT (s : ByteArray) : List UInt8 := be 4 s.size ++ s.data.toList
theorem layT_len (s : ByteArray) : (layT s).length = 4 + s.size := by
  unfold layT
  rw [List.length_append, be_len]
  rfl
mutual
/-- A value's bytes. -/
def lay : V → List UInt8
  | .mk h l ns => be 1 h.k.toNat ++
    (if h.k = 1 then be 1 (if h.b then 1 else 0)
     else if h.k = 2 then be 8 (h.n % 18446744073709551616).toNat
     else if h.k = 3 then layT h.s
     else if h.k = 4 then layT h.t ++ layT h.i
     else be 4 l.length ++ layL (decide (h.k = 6)) l ns)
/-- Items' bytes; a record's with their names. -/
def layL : Bool → List V → List ByteArray → List UInt8
  | _, [], _ => []
  | r, x :: l, ns => (if r then layT (ns.headD ⟨#[]⟩) else []) ++ lay x ++ layL r l ns.tail
end
/-- What stands behind a value's kind. -/
def layR (v : V) : List UInt8 :=
  if v.h.k = 1 then be 1 (if v.h.b then 1 else 0)
  else if v.h.k = 2 then be 8 (v.h.n % 18446744073709551616).toNat
  else if v.h.k = 3 then layT v.h.s
  else if v.h.k = 4 then layT v.h.t ++ layT v.h.i
  else be 4 v.l.length ++ layL (decide (v.h.k = 6)) v.l v.ns
theorem lay_v (v : V) : lay v = be 1 v.h.k.toNat ++ layR v := by cases v; rw [lay]; rfl
/-- The bytes of the first items. -/
theorem layL_take (r : Bool) : ∀ (l : List V) (ns : List ByteArray) (i : Nat) (hi : i < l.length) (hn : i < ns.length), layL r (l.take (i + 1)) (ns.take (i + 1)) = layL r (l.take i) (ns.take i) ++ ((if r then layT ns[i] else []) ++ lay l[i])
  | [], _, _, hi, _ => absurd hi (Nat.not_lt_zero _)
  | x :: l, [], _, _, hn => absurd hn (Nat.not_lt_zero _)
  | x :: l, n :: ns, 0, _, _ => by simp [layL]
  | x :: l, n :: ns, i + 1, hi, hn => by
    rw [List.take_succ_cons, List.take_succ_cons, layL, List.take_succ_cons, List.take_succ_cons, layL, List.tail_cons, List.tail_cons, layL_take r l ns i (by simpa using hi) (by simpa using hn)]
    simp [List.append_assoc]
theorem layL_false : ∀ l : List V, ∀ ns ms : List ByteArray, layL false l ns = layL false l ms
  | [], _, _ => by rw [layL, layL]
  | x :: l, ns, ms => by rw [layL, layL, layL_false l ns.tail ms.tail]; simp
theorem layL_take_set (l : List V) (i : Nat) (hi : i < l.length) : layL false (l.take (i + 1)) [] = layL false (l.take i) [] ++ lay l[i] := by
  have h := layL_take false l (List.replicate l.length ⟨#[]⟩) i hi (by simpa using hi)
  rw [layL_false (l.take (i + 1)) [] ((List.replicate l.length ⟨#[]⟩).take (i + 1)), layL_false (l.take i) [] ((List.replicate l.length ⟨#[]⟩).take i), h]
  simp
/-- The bytes of what is a prefix are no longer. -/
theorem layL_le (r : Bool) (l : List V) (ns : List ByteArray) (i : Nat) (hl : l.length = ns.length) : (layL r (l.take i) (ns.take i)).length ≤ (layL r l ns).length := by
  induction l generalizing ns i with
  | nil => simp [layL]
  | cons x l ih =>
    cases ns with
    | nil => simp at hl
    | cons n ns =>
      cases i with
      | zero => simp [layL]
      | succ i =>
        have := ih ns i (by simpa using hl)
        rw [List.take_succ_cons, List.take_succ_cons, layL, layL]
        simp only [List.tail_cons, List.length_append, List.headD_cons] at *
        omega
/-! ### How much there is of a value -/
mutual
def vb : V → Nat
  | .mk h l ns => 8 + h.s.size + h.t.size + h.i.size + vbL l + nbL ns
def vbL : List V → Nat
  | [] => 0
  | x :: l => vb x + vbL l
def nbL : List ByteArray → Nat
  | [] => 0
  | s :: l => s.size + 1 + nbL l
end
theorem vb_v (v : V) : vb v = 8 + v.h.s.size + v.h.t.size + v.h.i.size + vbL v.l + nbL v.ns := by cases v; rw [vb]; rfl
end Go.Proofs.Ytbhlgajdoegboaa
namespace Go.Proofs.Ytbhlgajdoegboaa
open Go.RowKit
/-- Blocks that hold no bytes are as they were. -/
def Oth (w w' : World) : Prop := ∀ (b : Nat) (c : Array Value) (t : TypeId), w.heap[b]? = some (.cells c t) → t ≠ 5 → w'.heap[b]? = some (.cells c t)
theorem Oth.refl (w : World) : Oth w w := fun _ _ _ h _ => h
theorem Oth.trans {a b c : World} (h : Oth a b) (k : Oth b c) : Oth a c := fun _ _ _ h1 h2 => k _ _ _ (h _ _ _ h1 h2) h2
theorem Oth.alloc {a b : World} (h : Oth a b) (o : Obj) : Oth a (b.alloc o) := fun x c t h1 h2 => by
  have h3 := h x c t h1 h2
  have hlt : x < b.heap.size := by
    rcases Nat.lt_or_ge x b.heap.size with k | k
    · exact k
    · rw [Array.getElem?_eq_none k] at h3; simp at h3
  exact (heap_alloc_old b o hlt).trans h3
theorem Oth.of_low {a b : World} (h : Low a b) : Oth a b := fun x c t h1 _ => by
  have hlt : x < a.heap.size := by
    rcases Nat.lt_or_ge x a.heap.size with k | k
    · exact k
    · rw [Array.getElem?_eq_none k] at h1; simp at h1
  rw [h.2.2.2 x hlt]; exact h1
theorem Oth.drewN {a b : World} (h : Oth a b) (n : Nat) : Oth a (b.drewN n) := h
theorem Oth.drew {a b : World} (h : Oth a b) : Oth a b.drew := h
theorem oth_of {w w' : World} {B : Nat} {v : Value} {l : List UInt8} (hown : Own B w v l) (g : w.grownBy w' v.ownBlock) : Oth w w' := fun b c t h1 h2 => by
  have hlt : b < w.heap.size := by
    rcases Nat.lt_or_ge b w.heap.size with k | k
    · exact k
    · rw [Array.getElem?_eq_none k] at h1; simp at h1
  have hne : some b ≠ v.ownBlock := fun e => by
    rcases hown.2 with ⟨rfl, -⟩ | ⟨g', cap, cur, rfl, -, h3, -⟩
    · simp [Value.ownBlock] at e
    · have : b = g' := by simpa [Value.ownBlock] using e
      subst this
      rw [h1] at h3
      simp only [Option.some.injEq, Obj.cells.injEq] at h3
      exact h2 h3.2.1
  rw [g.block b hlt hne]; exact h1
theorem Oth.cell {w w' : World} (h : Oth w w') {b : Nat} {c : Array Value} {t : TypeId} (h1 : w.heap[b]? = some (.cells c t)) (h2 : t ≠ 5) {o : Nat} {v : Value} (hc : w.cell? ⟨b, o, none⟩ = some v) : w'.cell? ⟨b, o, none⟩ = some v := by
  rw [World.cell?_of_block (w := w) (w' := w') (a := ⟨b, o, none⟩) ((h b c t h1 h2).trans h1.symm)]; exact hc
theorem byV_eq (l : List UInt8) : l.map byV = l.map fun b => Value.int .u8 b.toNat := rfl
theorem Own.base {B B' : Nat} {w : World} {v : Value} {l : List UInt8} (h : Own B w v l) (hb : B' ≤ B) : Own B' w v l := by
  refine ⟨h.1, ?_⟩
  rcases h.2 with hn | ⟨g, cap, cur, rfl, h1, h2, h3⟩
  · exact .inl hn
  · exact .inr ⟨g, cap, cur, rfl, Nat.le_trans hb h1, h2, h3⟩
theorem Own.low {B : Nat} {w w' : World} {v : Value} {l : List UInt8} (h : Own B w v l) (hl : Low w w') : Own B w' v l := by
  refine ⟨h.1, ?_⟩
  have hlt := World.ownsRow.lt h
  rcases h.2 with hn | ⟨g, cap, cur, rfl, h1, h2, h3⟩
  · exact .inl hn
  · exact .inr ⟨g, cap, cur, rfl, h1, (hl.2.2.2 g (hlt g rfl).2).trans h2, h3⟩
theorem Own.shape {B : Nat} {w : World} {v : Value} {l : List UInt8} (h : Own B w v l) : ∃ ao cap, v = .slice ao l.length cap ∧ l.length ≤ cap ∧ cap ≤ 9223372036854775807 := by
  rcases h.2 with ⟨rfl, hn⟩ | ⟨g, cap, cur, rfl, h1, h2, h3, h4, h5⟩
  · exact ⟨none, 0, by rw [hn], by omega, by omega⟩
  · exact ⟨_, cap, rfl, h3, by unfold maxLen at h4; omega⟩
/-- append of some bytes. -/
theorem own_app2 {ops : Array Oper} {rest : List Oper} {o : Oper} {a : Act} {w : World} {Q : Exit → Act → World → Prop} (hgd : o.guard = none) (s x : Operand) (t : TypeId)
    (ho : o.op = .call { callee := .builtin .append, args := #[s, x], argTypes := #[t, t] }) (ht : Try.prog.underlying t = some (.slice 5))
    (B : Nat) (v : Value) (l news : List UInt8) (hs : a.eval s = v) (hown : Own B w v l) (ad : Addr) (m c : Nat) (hm : news.length = m) (hx : a.eval x = .slice (some ad) m c)
    (hnews : ∀ j (hj : j < news.length), w.cell? (ad.add j) = some (byV news[j])) (hlen : l.length + m ≤ 140737488355328) (hb : B ≤ w.heap.size)
    (h : ∀ v' w', Own B w' v' (l ++ news) → Below B w w' → Oth w w' → wpList Try.prog ops Q rest (a.put o.dst v') w') : wpList Try.prog ops Q (o :: rest) a w := by
  subst hm
  obtain ⟨i0, hi, hz0, hz1, hz2⟩ := info_parts u8_info
  refine wpList_append_own w hgd s x t ho B 5 i0 (.int .u8 0) 1 1 ht hi hz0 hz1 hz2 rfl (by decide) v l.length (l.map byV) hs hown ad news.length c (news.map byV) hx (by simp) (fun j u hj => ?_) (fun u hu => ?_)
    (by unfold maxLen; omega) (by omega) hb fun v' w' h1 h2 _ => h v' w' ?_ ((Below.refl _ _).grown h2 hb fun k hk => (World.ownsRow.lt hown k hk).1) (oth_of hown h2)
  · rw [List.getElem?_map] at hj
    rcases Nat.lt_or_ge j news.length with hlt | hge
    · rw [List.getElem?_eq_getElem hlt] at hj
      rw [hnews j hlt]; exact hj
    · rw [List.getElem?_eq_none hge] at hj; simp at hj
  · simp at hu; obtain ⟨c, _, rfl⟩ := hu; rfl
  · unfold Own; rw [List.map_append, List.length_append]; exact h1
/-- append of a text's bytes. -/
theorem own_str {ops : Array Oper} {rest : List Oper} {o : Oper} {a : Act} {w : World} {Q : Exit → Act → World → Prop} (hgd : o.guard = none) (sl x : Operand) (t u : TypeId)
    (ho : o.op = .call { callee := .builtin .append, args := #[sl, x], argTypes := #[t, u] }) (ht : Try.prog.underlying t = some (.slice 5)) (hu : Try.prog.underlying u = some .string)
    (B : Nat) (v : Value) (l : List UInt8) (hs : a.eval sl = v) (hown : Own B w v l) (s : ByteArray) (hx : a.eval x = .string s) (hlen : l.length + s.size ≤ 140737488355328) (hb : B ≤ w.heap.size)
    (h : ∀ v' w', Own B w' v' (l ++ s.data.toList) → Below B w w' → Oth w w' → wpList Try.prog ops Q rest (a.put o.dst v') w') : wpList Try.prog ops Q (o :: rest) a w := by
  obtain ⟨i0, hi, hz0, hz1, hz2⟩ := info_parts u8_info
  refine Lib.wpList_append_own_string w hgd sl x t u ho B 5 i0 ht hu hi hz0 hz1 hz2 v l.length (l.map byV) hs hown s hx (by unfold maxLen; omega) hlen hb fun v' w' h1 h2 _ => h v' w' ?_ ((Below.refl _ _).grown h2 hb fun k hk => (World.ownsRow.lt hown k hk).1) (oth_of hown h2)
  unfold Own
  rw [List.map_append, List.length_append]
  exact h1
/-- .. as a step of a region that draws its order. -/
theorem own_step2 {ops : Array Oper} {o : Oper} {a : Act} {w : World} {K : Act → World → Prop} {Q : Exit → Act → World → Prop} {E : Prop} (hgd : o.guard = none) (s x : Operand) (t : TypeId)
    (ho : o.op = .call { callee := .builtin .append, args := #[s, x], argTypes := #[t, t] }) (ht : Try.prog.underlying t = some (.slice 5))
    (B : Nat) (v : Value) (l news : List UInt8) (hs : a.eval s = v) (hown : Own B w v l) (ad : Addr) (m c : Nat) (hm : news.length = m) (hx : a.eval x = .slice (some ad) m c)
    (hnews : ∀ j (hj : j < news.length), w.cell? (ad.add j) = some (byV news[j])) (hlen : l.length + m ≤ 140737488355328) (hb : B ≤ w.heap.size)
    (h : ∀ v' w', Own B w' v' (l ++ news) → Below B w w' → Oth w w' → K (a.put o.dst v') w') : if Region.wanted o (yielded ops a.tmps) = true then Oper.wp Try.prog o a w K Q else E := by
  have hw : Region.wanted o (yielded ops a.tmps) = true := by simp [Region.wanted, hgd]
  rw [if_pos hw]
  subst hm
  obtain ⟨i0, hi, hz0, hz1, hz2⟩ := info_parts u8_info
  refine wp_append_own w s x t ho B 5 i0 (.int .u8 0) 1 1 ht hi hz0 hz1 hz2 rfl (by decide) v l.length (l.map byV) hs hown ad news.length c (news.map byV) hx (by simp) (fun j u hj => ?_) (fun u hu => ?_)
    (by unfold maxLen; omega) (by omega) hb fun v' w' h1 h2 _ => h v' w' ?_ ((Below.refl _ _).grown h2 hb fun k hk => (World.ownsRow.lt hown k hk).1) (oth_of hown h2)
  · rw [List.getElem?_map] at hj
    rcases Nat.lt_or_ge j news.length with hlt | hge
    · rw [List.getElem?_eq_getElem hlt] at hj
      rw [hnews j hlt]; exact hj
    · rw [List.getElem?_eq_none hge] at hj; simp at hj
  · simp at hu; obtain ⟨c, _, rfl⟩ := hu; rfl
  · unfold Own; rw [List.map_append, List.length_append]; exact h1
/-- What a call answers that goes on with a row of bytes. -/
def App (B : Nat) (w : World) (l : List UInt8) (e : Ending) (w' : World) : Prop := ∃ v', e = .returned v' ∧ Own B w' v' l ∧ Below B w w' ∧ Oth w w'
end Go.Proofs.Ytbhlgajdoegboaa
namespace Go.Proofs.Ytbhlgajdoegboaa
open Go.RowKit
theorem be_take {w n : Nat} : ∀ {i : Nat}, i < w → (be w n).take (i + 1) = (be w n).take i ++ [UInt8.ofNat (n / 256 ^ (w - 1 - i))] := by
  induction w with
  | zero => intro i h; omega
  | succ w ih =>
    intro i h
    cases i with
    | zero => simp [be]
    | succ i =>
      have := ih (i := i) (by omega)
      rw [be, List.take_succ_cons, List.take_succ_cons, this]
      rw [show w - 1 - i = w + 1 - 1 - (i + 1) by omega]
      rfl
theorem byte_at (n e : Nat) (m : Int) (hm : m = n) : Value.int .u8 (m / 2 ^ (8 * e) % 256) = byV (UInt8.ofNat (n / 256 ^ e)) := by
  subst hm
  have h : (2 : Int) ^ (8 * e) = ((256 ^ e : Nat) : Int) := by rw [Int.pow_mul]; simp
  unfold byV
  rw [h, ← Int.natCast_ediv]
  simp
theorem one_byte {u : Value} {c : UInt8} (h : u = byV c) : (#[u] : Array Value) = ([c].map byV).toArray := by rw [h]; rfl
set_option maxHeartbeats 1600000 in
set_option maxRecDepth 100000 in
theorem layN_c (wd : Nat) (hwd : wd ≤ 8) (n : Nat) (m : Int) (hm : m = (n : Int)) (_ : 0 ≤ m) (h1 : m < 18446744073709551616) (B : Nat) (v : Value) (l : List UInt8) (w : World) (O : Own B w v l) (hl : l.length ≤ 70368744177664) (hB : B ≤ w.heap.size) :
    Calls Try.prog 54 #[v, .int .u64 m, .int .i64 wd] w (App B w (l ++ be wd n)) := by
  have HO := Lib.hid O
  have HM := Lib.hid hm
  have H1 := Lib.hid h1
  clear O hm h1
  go_enter Try.func54, Try.ntmps54
  go_wp2_with fail
  go_loopg [0, 9] wd (fun gk vs vi wr => ∃ (v : Value) (i : Nat), v = vs ∧ vi = .int .i64 (i : Int) ∧ i ≤ wd ∧ wd - i ≤ gk ∧ Hid (Own B wr v (l ++ (be wd n).take i)) ∧ Hid (Below B w wr) ∧ Hid (Oth w wr))
  case atStart => exact ⟨_, 0, rfl, rfl, Nat.zero_le _, Nat.le_refl _, Lib.hid (by simpa using HO.out), Lib.hid (Below.refl _ _), Lib.hid (Oth.refl _)⟩
  case round =>
    obtain ⟨v, i, rfl, rfl, hi, hg, O, BL, OT⟩ := hrel
    by_cases hlt : i < wd
    · have z1 : (i : Int) < (wd : Int) := by omega
      have hbl : ((be wd n).take i).length ≤ 8 := by rw [List.length_take, be_len]; omega
      have hwr : B ≤ wr.heap.size := Nat.le_trans hB BL.out.size
      go_wp2_with (first
        | (at_builtin; refine own_app2 rfl _ _ _ rfl Try.underlying38 B v _ [UInt8.ofNat (n / 256 ^ (wd - 1 - i))] rfl (O.out.alloc _) ⟨wr.heap.size, 0, none⟩ 1 _ rfl rfl (cells_new _ [UInt8.ofNat (n / 256 ^ (wd - 1 - i))] _ _ (one_byte (byte_at n (wd - 1 - i) m HM.out))) (by simp; omega) (by simp; omega) ?_; intro v2 w2 h2 b2 t2))
      have O2 := Lib.hid h2
      have B2 := Lib.hid ((BL.out.trans ((Below.refl B wr).alloc hwr _)).trans b2)
      have T2 := Lib.hid ((OT.out.alloc _).trans t2)
      clear h2 b2 t2
      go_wp2_with fail
      go_roundg (wd - (i + 1))
      case measure => omega
      case rel => exact ⟨v2, i + 1, rfl, by go_num, by omega, by omega, Lib.hid (by rw [be_take hlt, ← List.append_assoc]; exact O2.out), B2, T2⟩
    · have z1 : ¬ (i : Int) < (wd : Int) := by omega
      have e : (be wd n).take i = be wd n := List.take_of_length_le (by rw [be_len]; omega)
      rw [e] at O
      go_wp2_with fail
      go_ret
      exact ⟨v, rfl, O.out, BL.out, OT.out⟩
set_option maxHeartbeats 1600000 in
theorem layT_c (s : ByteArray) (B : Nat) (v : Value) (l : List UInt8) (w : World) (O : Own B w v l) (hl : (l ++ layT s).length ≤ 70368744177664) (hB : B ≤ w.heap.size) :
    Calls Try.prog 56 #[v, .string s] w (App B w (l ++ layT s)) := by
  have HO := Lib.hid O
  rw [List.length_append, layT_len] at hl
  obtain ⟨m, hm⟩ : ∃ m : Int, m = (s.size : Int) := ⟨_, rfl⟩
  have HM := Lib.hid hm
  have hm0 : 0 ≤ m := by omega
  have hm1 : m ≤ 70368744177664 := by omega
  clear O
  go_enter Try.func56, Try.ntmps56
  go_wp2_with (first
    | (go_at_call 54; rw [← HM.out]; refine (layN_c 4 (by decide) s.size m HM.out hm0 (by omega) B _ l _ HO.out (by omega) hB).mono ?_; rintro e w1 ⟨v1, rfl, O1, B1, T1⟩; have s1 := B1.size; have hl1 : (l ++ be 4 s.size).length + s.size ≤ 70368744177664 := by rw [List.length_append, be_len]; omega)
    | (at_builtin; refine own_str rfl _ _ _ _ rfl Try.underlying38 Try.underlying9 B _ _ rfl O1 s rfl (by omega) (by omega) ?_; intro v2 w2 O2 B2 T2))
  go_ret
  exact ⟨v2, rfl, by rw [layT, ← List.append_assoc]; exact O2, B1.trans B2, T1.trans T2⟩
set_option maxHeartbeats 1600000 in
set_option maxRecDepth 100000 in
theorem layB_c (b : Bool) (B : Nat) (v : Value) (l : List UInt8) (w : World) (O : Own B w v l) (hl : l.length ≤ 70368744177664) (hB : B ≤ w.heap.size) :
    Calls Try.prog 55 #[v, .bool b] w (App B w (l ++ be 1 (if b then 1 else 0))) := by
  have HO := Lib.hid O
  clear O
  have H0 := Lib.hid (layN_c 1 (by decide) 0 0 rfl (by omega) (by omega) B v l w HO.out hl hB)
  have H1 := Lib.hid (layN_c 1 (by decide) 1 1 rfl (by omega) (by omega) B v l w HO.out hl hB)
  cases b with
  | false =>
    go_enter Try.func55, Try.ntmps55
    go_wp2_with (first
      | (go_at_call 54; refine H0.out.mono ?_; rintro e w1 ⟨v1, rfl, O1, B1, T1⟩))
    go_ret
    exact ⟨v1, rfl, O1, B1, T1⟩
  | true =>
    go_enter Try.func55, Try.ntmps55
    go_wp2_with (first
      | (go_at_call 54; refine H1.out.mono ?_; rintro e w1 ⟨v1, rfl, O1, B1, T1⟩))
    go_ret
    exact ⟨v1, rfl, O1, B1, T1⟩
end Go.Proofs.Ytbhlgajdoegboaa
namespace Go.Proofs.Ytbhlgajdoegboaa
open Go.RowKit
theorem othbox {w w' : World} {c0 c1 c2 c3 c4 c5 c6 c7 : Value} (h : Oth (w.alloc (.cells #[c0, c1, c2, c3, c4, c5, c6, c7] 29)) w') :
    w'.cell? ⟨w.heap.size, 0, none⟩ = some c0 ∧ w'.cell? ⟨w.heap.size, 1, none⟩ = some c1 ∧ w'.cell? ⟨w.heap.size, 2, none⟩ = some c2 ∧ w'.cell? ⟨w.heap.size, 3, none⟩ = some c3 ∧
    w'.cell? ⟨w.heap.size, 4, none⟩ = some c4 ∧ w'.cell? ⟨w.heap.size, 5, none⟩ = some c5 ∧ w'.cell? ⟨w.heap.size, 6, none⟩ = some c6 ∧ w'.cell? ⟨w.heap.size, 7, none⟩ = some c7 := by
  have key : ∀ (k : Nat) (u : Value), (#[c0, c1, c2, c3, c4, c5, c6, c7] : Array Value)[k]? = some u → w'.cell? ⟨w.heap.size, k, none⟩ = some u := fun k u hu =>
    h.cell (heap_alloc_new w _) (by decide) (by rw [World.cell?_alloc_mark]; exact hu)
  exact ⟨key 0 _ rfl, key 1 _ rfl, key 2 _ rfl, key 3 _ rfl, key 4 _ rfl, key 5 _ rfl, key 6 _ rfl, key 7 _ rfl⟩
theorem below_rep {B : Nat} {w w' : World} (h : Below B w w') {v : V} {it nm : Value} (hr : Rep (fun b => b < B) w v it nm) : Rep (fun b => b < B) w' v it nm :=
  Rep.to (fun b ha _ => ⟨ha, h.block b ha⟩) v hr
theorem below_drewN {B : Nat} {w w' : World} (h : Below B w w') (n : Nat) : Below B w (w'.drewN n) := ⟨h.os, h.tape, h.output, h.size, h.block⟩
theorem lt_of_heap {w : World} {b : Nat} {o : Obj} (h : w.heap[b]? = some o) : b < w.heap.size := (Array.getElem?_eq_some_iff.1 h).1
theorem cast_lt {n : Nat} (h : n ≤ 9223372036854775807) : (n : Int) < 18446744073709551616 := by omega
/-- What is there so far: all of it, or too much already. -/
def Cut (l L : List UInt8) : Prop := l = L ∨ (65536 < l.length ∧ 65536 < L.length ∧ l.length ≤ L.length)
theorem Cut.refl (l : List UInt8) : Cut l l := .inl rfl
theorem Cut.short {l L : List UInt8} (h : Cut l L) (hl : ¬ 65536 < l.length) : l = L := h.resolve_right fun k => hl k.1
theorem Cut.long {l L : List UInt8} (h : Cut l L) (hl : 65536 < l.length) {M : List UInt8} (hM : L.length ≤ M.length) : Cut l M := by
  rcases h with rfl | ⟨h1, h2, h3⟩
  · exact .inr ⟨hl, by omega, hM⟩
  · exact .inr ⟨h1, by omega, by omega⟩
theorem Cut.le {l L : List UInt8} (h : Cut l L) : l.length ≤ L.length := by
  rcases h with rfl | ⟨-, -, h3⟩
  · exact Nat.le_refl _
  · exact h3
def AppC (B : Nat) (w : World) (l L : List UInt8) (e : Ending) (w' : World) : Prop := ∃ l', App B w l' e w' ∧ Cut l' L ∧ l.length ≤ l'.length
def LayC (f : Nat) (v : V) : Prop := ∀ (B : Nat) (bv : Value) (l : List UInt8) (w : World) (it nm : Value), Own B w bv l → Rep (fun b => b < B) w v it nm → B ≤ w.heap.size → Cn v → (l ++ lay v).length ≤ 70368744177664 →
  Calls Try.prog f #[bv, av v.h it nm] w (AppC B w l (l ++ lay v))
/-- The bytes of the first items. -/
def pre (r : Bool) (l : List V) (ns : List ByteArray) (i : Nat) : List UInt8 := layL r (l.take i) (if r then ns.take i else [])
theorem pre_zero (r : Bool) (l : List V) (ns : List ByteArray) : pre r l ns 0 = [] := by simp [pre, layL]
theorem pre_set (l : List V) (ns : List ByteArray) (i : Nat) (hi : i < l.length) : pre false l ns (i + 1) = pre false l ns i ++ lay l[i] := layL_take_set l i hi
theorem pre_rec (l : List V) (ns : List ByteArray) (i : Nat) (hi : i < l.length) (hn : i < ns.length) : pre true l ns (i + 1) = pre true l ns i ++ (layT ns[i] ++ lay l[i]) := layL_take true l ns i hi hn
theorem pre_full (r : Bool) (l : List V) (ns : List ByteArray) (i : Nat) (hi : l.length ≤ i) (hn : r = true → ns.length = l.length) : pre r l ns i = layL r l ns := by
  unfold pre
  rw [List.take_of_length_le hi]
  cases r with
  | true => rw [if_pos rfl, List.take_of_length_le (by have := hn rfl; omega)]
  | false => exact layL_false l _ _
theorem pre_le (r : Bool) (l : List V) (ns : List ByteArray) (hn : r = true → ns.length = l.length) (i : Nat) : (pre r l ns i).length ≤ (layL r l ns).length := by
  unfold pre
  cases r with
  | true => rw [if_pos rfl]; exact layL_le true l ns i (by have := hn rfl; omega)
  | false =>
    have h := layL_le false l (List.replicate l.length ⟨#[]⟩) i (by simp)
    rw [layL_false (l.take i) _ [], layL_false l _ ns] at h
    simpa using h
set_option maxHeartbeats 4000000 in
theorem layI_c (v : V) (r : Bool) (hk : v.h.k = if r then 6 else 5) (hn : r = true → v.ns.length = v.l.length) (hc : ∀ x ∈ v.l, Cn x) (ih : ∀ x ∈ v.l, LayC 31 x) (B : Nat) (bv : Value) (l : List UInt8) (w : World) (it nm : Value)
    (O : Own B w bv l) (hr : Rep (fun b => b < B) w v it nm) (hB : B ≤ w.heap.size) (hlen : (l ++ (be 4 v.l.length ++ layL r v.l v.ns)).length ≤ 70368744177664) :
    Calls Try.prog 57 #[bv, av v.h it nm] w (AppC B w l (l ++ (be 4 v.l.length ++ layL r v.l v.ns))) := by
  obtain ⟨-, hnm, ai, ci, rfl, ⟨hli, hci⟩, hx⟩ := rep_v.1 hr
  obtain ⟨an, cn, rfl, hln, hns, hnx⟩ := hnm
  simp only [List.length_append, be_len] at hlen
  have HO := Lib.hid O
  have HX := Lib.hid hx
  have HN := Lib.hid hnx
  have HI := Lib.hid ih
  have HC := Lib.hid hc
  have HNN := Lib.hid hn
  have HK := Lib.hid hk
  have HN4 := Lib.hid (fun W (h : Own B W bv l) (hb : B ≤ W.heap.size) => layN_c 4 (by decide) v.l.length (v.l.length : Int) rfl (by omega) (cast_lt (by omega)) B bv l W h (by omega) hb)
  have hple := pre_le r v.l v.ns hn
  have HPL := Lib.hid hple
  clear O hr hx hnx ih hc hple hn hk
  unfold av
  go_enter Try.func57, Try.ntmps57
  go_wp2_with (first
    | (go_at_call 54; refine (HN4.out _ (HO.out.alloc _) (by simp; omega)).mono ?_; rintro e w1 ⟨v1, rfl, O1, B1, T1⟩; obtain ⟨c0, c1, c2, c3, c4, c5, c6, c7⟩ := othbox T1))
  have OA := Lib.hid O1
  have BA := Lib.hid (((Below.refl B w).alloc hB _).trans B1)
  have TA := Lib.hid T1
  clear O1 B1 T1 c0 c1 c2 c3 c4 c5 c6 c7
  go_loopg [0, 16] v.l.length (fun gk vs vi wr => ∃ (bv : Value) (i : Nat) (l' : List UInt8), bv = vs ∧ vi = .int .i64 (i : Int) ∧ i ≤ v.l.length ∧ v.l.length - i ≤ gk ∧ Hid (Own B wr bv l') ∧ Hid (Below B w wr) ∧ Hid (Oth (w.alloc (.cells #[.int .i64 v.h.k, .bool v.h.b, .int .i64 v.h.n, .string v.h.s, .string v.h.t, .string v.h.i, .slice ai v.l.length ci, .slice an v.ns.length cn] 29)) wr) ∧ Hid (Cut l' (l ++ (be 4 v.l.length ++ pre r v.l v.ns i)) ∧ l.length ≤ l'.length))
  case atStart => exact ⟨_, 0, _, rfl, rfl, Nat.zero_le _, Nat.le_refl _, OA, BA, TA, Lib.hid ⟨by rw [pre_zero, List.append_nil]; exact Cut.refl _, by simp⟩⟩
  case round =>
    obtain ⟨bv2, i, l', rfl, rfl, hi, hg, O, BL, OT, CU⟩ := hrel
    clear OA BA TA
    obtain ⟨c0, c1, c2, c3, c4, c5, c6, c7⟩ := othbox OT.out
    by_cases hlt : i < v.l.length
    · have z1 : (i : Int) < (v.l.length : Int) := by omega
      rcases HX.out with hx0 | ⟨xb, xo, rfl, hxb, hxf⟩
      · rw [hx0] at hlt; exact absurd hlt (Nat.not_lt_zero _)
      obtain ⟨xit, xnm, hcs, hrx⟩ := repF_at hxf i hlt
      obtain ⟨-, ⟨xan, xcn, rfl, -⟩, xai, xci, rfl, -⟩ := rep_v.1 hrx
      have hcs2 : CellsAt wr xb (xo + i * 8) (hdc v.l[i].h (.slice xai v.l[i].l.length xci) (.slice xan v.l[i].ns.length xcn)) := fun j u hu => cell_to (hcs j u hu) fun _ => BL.out.block xb hxb
      obtain ⟨e0, e1, e2, e3, e4, e5, e6, e7⟩ := cells8 hcs2
      have HRX := Lib.hid (below_rep BL.out hrx)
      have hwr : B ≤ wr.heap.size := Nat.le_trans hB BL.out.size
      obtain ⟨ao, cap, hbv, hcap, hcm⟩ := O.out.shape
      subst hbv
      clear hxf hcs hrx hcs2
      by_cases hbig : 65536 < l'.length
      · have zb : (65536 : Int) < (l'.length : Int) := by omega
        have hcu := CU.out.1.long hbig (M := l ++ (be 4 v.l.length ++ layL r v.l v.ns)) (by simp only [List.length_append]; have := HPL.out i; omega)
        have HCU := Lib.hid hcu
        clear hcu
        go_wp2_with fail
        go_ret
        exact ⟨l', ⟨_, rfl, O.out.alloc _, (BL.out.trans ((RowKit.Below.refl B wr).alloc hwr _)), (fun b c t h1 h2 => (OT.out.alloc _) b c t ((heap_alloc_old w _ (lt_of_heap h1)).trans h1) h2)⟩, HCU.out, CU.out.2⟩
      · have zb : ¬ (65536 : Int) < (l'.length : Int) := by omega
        have hex := CU.out.1.short hbig
        have HEX := Lib.hid hex
        have hl46 : l'.length + 5 ≤ 70368744177664 := by
          have h1 := congrArg List.length hex
          simp only [List.length_append, be_len] at h1
          have := HPL.out i
          omega
        have WB := Lib.hid (fun W (k : Below B wr W) => below_rep k HRX.out)
        have CNX := Lib.hid (HC.out _ (List.getElem_mem hlt))
        have b0 : Below B wr (wr.alloc (.cells #[.int .i64 v.l[i].h.k, .bool v.l[i].h.b, .int .i64 v.l[i].h.n, .string v.l[i].h.s, .string v.l[i].h.t, .string v.l[i].h.i, .slice xai v.l[i].l.length xci, .slice xan v.l[i].ns.length xcn] 29)) := (Below.refl B wr).alloc hwr _
        have t0 : Oth wr (wr.alloc (.cells #[.int .i64 v.l[i].h.k, .bool v.l[i].h.b, .int .i64 v.l[i].h.n, .string v.l[i].h.s, .string v.l[i].h.t, .string v.l[i].h.i, .slice xai v.l[i].l.length xci, .slice xan v.l[i].ns.length xcn] 29)) := (Oth.refl wr).alloc _
        have OB := Lib.hid b0
        have TB := Lib.hid t0
        obtain ⟨f0, f1, f2, f3, f4, f5, f6, f7⟩ : (_ ∧ _) := othbox (OT.out.trans t0)
        clear hex b0 t0
        cases r with
        | false =>
          have hk5 : v.h.k = 5 := HK.out
          have hpe := pre_set v.l v.ns i hlt
          have hpl := HPL.out (i + 1)
          rw [hpe] at hpl
          have hl2 : (l' ++ lay v.l[i]).length ≤ 70368744177664 := by
            rw [HEX.out]
            simp only [List.length_append, be_len] at hpl ⊢
            omega
          have HVX := Lib.hid (HI.out _ (List.getElem_mem hlt) B _ l' _ _ _ (O.out.alloc _) (WB.out _ OB.out) (by simp; omega) CNX.out hl2)
          unfold av at HVX
          have HPE := Lib.hid hpe
          rw [hk5] at f0
          clear hk5 hpe hpl hl2
          go_wp2_with (first
            | (go_at_call 31; refine HVX.out.mono ?_; rintro e w3 ⟨l3, ⟨v3, rfl, O3, B3, T3⟩, C3, L3⟩))
          have O4 := Lib.hid O3
          have B4 := Lib.hid ((BL.out.trans OB.out).trans B3)
          have T4 := Lib.hid ((OT.out.trans TB.out).trans T3)
          have C4 := Lib.hid C3
          have L4 := Lib.hid L3
          clear O3 B3 T3 C3 L3
          go_wp2_with fail
          go_roundg (v.l.length - (i + 1))
          case measure => omega
          case rel => exact ⟨v3, i + 1, l3, rfl, by go_num, by omega, by omega, O4, B4, T4, Lib.hid ⟨by
            have h := C4.out
            rw [HEX.out] at h
            rw [HPE.out]
            simpa only [List.append_assoc] using h, Nat.le_trans CU.out.2 L4.out⟩⟩
        | true =>
          have hk6 : v.h.k = 6 := HK.out
          have hnl : v.ns.length = v.l.length := HNN.out rfl
          have hin : i < v.ns.length := by omega
          have zin : (i : Int) < (v.ns.length : Int) := by omega
          rcases HN.out with hn0 | ⟨nb, no, rfl, hnb, hnc⟩
          · rw [hn0] at hin; exact absurd hin (Nat.not_lt_zero _)
          obtain ⟨nx, hnx⟩ : ∃ nx, nx = v.ns[i] := ⟨_, rfl⟩
          have cn1 : (wr.alloc (.cells #[.int .i64 v.l[i].h.k, .bool v.l[i].h.b, .int .i64 v.l[i].h.n, .string v.l[i].h.s, .string v.l[i].h.t, .string v.l[i].h.i, .slice xai v.l[i].l.length xci, .slice xan v.l[i].ns.length xcn] 29)).cell? ⟨nb, no + i, none⟩ = some (.string nx) := by rw [hnx]; exact cell_to (hnc i hin) fun _ => (BL.out.trans OB.out).block nb hnb
          have hpe := pre_rec v.l v.ns i hlt hin
          rw [← hnx] at hpe
          have hpl := HPL.out (i + 1)
          rw [hpe] at hpl
          have hl2 : ((l' ++ layT nx) ++ lay v.l[i]).length ≤ 70368744177664 := by
            rw [HEX.out]
            simp only [List.length_append, be_len] at hpl ⊢
            omega
          have hl1 : (l' ++ layT nx).length ≤ 70368744177664 := by
            simp only [List.length_append] at hl2 ⊢
            omega
          have HTX := Lib.hid (layT_c nx B _ l' (wr.alloc (.cells #[.int .i64 v.l[i].h.k, .bool v.l[i].h.b, .int .i64 v.l[i].h.n, .string v.l[i].h.s, .string v.l[i].h.t, .string v.l[i].h.i, .slice xai v.l[i].l.length xci, .slice xan v.l[i].ns.length xcn] 29)) (O.out.alloc _) hl1 (by simp; omega))
          have HL2 := Lib.hid hl2
          have HVX := Lib.hid (fun W bw (h : Own B W bw (l' ++ layT nx)) (k : Below B wr W) (hb : B ≤ W.heap.size) => HI.out _ (List.getElem_mem hlt) B bw (l' ++ layT nx) W _ _ h (WB.out W k) hb CNX.out HL2.out)
          unfold av at HVX
          have HPE := Lib.hid hpe
          have HNL := Lib.hid hnl
          rw [hk6] at f0
          clear hk6 hpe hpl hl2 hl1 hnx hnc hnl
          go_wp2_with (first
            | (go_at_call 56; refine HTX.out.mono ?_; rintro e w2 ⟨v2, rfl, O2, B2, T2⟩; obtain ⟨d0, d1, d2, d3, d4, d5, d6, d7⟩ := othbox T2)
            | (go_at_call 31; refine (HVX.out _ _ O2 (OB.out.trans B2) (Nat.le_trans hwr (OB.out.trans B2).size)).mono ?_; rintro e w3 ⟨l3, ⟨v3, rfl, O3, B3, T3⟩, C3, L3⟩))
          have O4 := Lib.hid O3
          have B4 := Lib.hid (((BL.out.trans OB.out).trans B2).trans B3)
          have T4 := Lib.hid (((OT.out.trans TB.out).trans T2).trans T3)
          have C4 := Lib.hid C3
          have L4 := Lib.hid L3
          clear O3 B3 T3 C3 L3 O2 B2 T2 d0 d1 d2 d3 d4 d5 d6 d7
          go_wp2_with fail
          go_roundg (v.l.length - (i + 1))
          case measure => omega
          case rel => exact ⟨v3, i + 1, l3, rfl, by go_num, by omega, by omega, O4, B4, T4, Lib.hid ⟨by
            have h := C4.out
            rw [HEX.out] at h
            rw [HPE.out]
            simpa only [List.append_assoc] using h, Nat.le_trans CU.out.2 (Nat.le_trans (by simp) L4.out)⟩⟩
    · have z1 : ¬ (i : Int) < (v.l.length : Int) := by omega
      have hcu := CU.out
      rw [pre_full r v.l v.ns i (by omega) HNN.out] at hcu
      have HCU := Lib.hid hcu
      clear hcu
      go_wp2_with fail
      go_ret
      exact ⟨l', ⟨_, rfl, O.out, BL.out, fun b c t h1 h2 => OT.out b c t ((heap_alloc_old w _ (lt_of_heap h1)).trans h1) h2⟩, HCU.out.1, HCU.out.2⟩
end Go.Proofs.Ytbhlgajdoegboaa
namespace Go.Proofs.Ytbhlgajdoegboaa
open Go.RowKit
theorem ret_app {B : Nat} {w w0 w' : World} {l l' L : List UInt8} {v' : Value} (o : Obj) (hw : w0 = w.alloc o) (O : Own B w' v' l') (h : l' = L) (b : Below B w w') (t : Oth w0 w') (hl : l.length ≤ L.length) : AppC B w l L (.returned v') w' := by
  subst h
  exact ⟨l', ⟨v', rfl, O, b, fun b c t' h1 h2 => t b c t' (by rw [hw]; exact (heap_alloc_old w _ (lt_of_heap h1)).trans h1) h2⟩, Cut.refl _, hl⟩
theorem ret_appC {B : Nat} {w w0 w' : World} {l l' L M : List UInt8} {v' : Value} (o : Obj) (hw : w0 = w.alloc o) (O : Own B w' v' l') (c : Cut l' M) (h : M = L) (b : Below B w w') (t : Oth w0 w') (hl : l.length ≤ l'.length) : AppC B w l L (.returned v') w' := by
  subst h
  exact ⟨l', ⟨v', rfl, O, b, fun b c t' h1 h2 => t b c t' (by rw [hw]; exact (heap_alloc_old w _ (lt_of_heap h1)).trans h1) h2⟩, c, hl⟩
theorem layN1_c (n : Nat) (m : Int) (hm : m = (n : Int)) (h0 : 0 ≤ m) (h1 : m < 18446744073709551616) (B : Nat) (v : Value) (l : List UInt8) (w : World) (O : Own B w v l) (hl : l.length ≤ 70368744177664) (hB : B ≤ w.heap.size) :
    Calls Try.prog 54 #[v, .int .u64 m, .int .i64 1] w (App B w (l ++ be 1 n)) := layN_c 1 (by decide) n m hm h0 h1 B v l w O hl hB
theorem layN8_c (n : Nat) (m : Int) (hm : m = (n : Int)) (h0 : 0 ≤ m) (h1 : m < 18446744073709551616) (B : Nat) (v : Value) (l : List UInt8) (w : World) (O : Own B w v l) (hl : l.length ≤ 70368744177664) (hB : B ≤ w.heap.size) :
    Calls Try.prog 54 #[v, .int .u64 m, .int .i64 8] w (App B w (l ++ be 8 n)) := layN_c 8 (by decide) n m hm h0 h1 B v l w O hl hB
set_option maxHeartbeats 8000000 in
set_option maxRecDepth 100000 in
theorem layV_n (n : Nat) : ∀ v : V, dep v ≤ n → LayC 31 v := by
  induction n with
  | zero => intro v h; rw [dep_v] at h; omega
  | succ n ih =>
    intro v hd B bv l w it nm O hr hB hc hlen
    rw [lay_v] at hlen ⊢
    obtain ⟨-, ⟨an, cn, rfl, -, -, -⟩, ai, ci, rfl, ⟨hli, hci⟩, -⟩ := rep_v.1 hr
    have HO := Lib.hid O
    have HR := Lib.hid hr
    have hl0 : l.length + 1 ≤ 70368744177664 := by simp only [List.length_append, be_len] at hlen; omega
    have N1 := Lib.hid (fun (k : Nat) (m : Int) (hm : m = (k : Int)) (h0 : 0 ≤ m) (h1 : m < 18446744073709551616) W (h : Own B W bv l) (hb : B ≤ W.heap.size) => layN1_c k m hm h0 h1 B bv l W h (by omega) hb)
    rcases cn_v.1 hc with ⟨e, el, en⟩ | ⟨e, el, en⟩ | ⟨e, el, en⟩ | ⟨e, el, en⟩ | ⟨e, en, hci'⟩ | ⟨e, en, hci'⟩
    · obtain ⟨x, hx⟩ : ∃ x, x = v.h.b := ⟨_, rfl⟩
      rw [← hx] at e
      have hR : layR v = be 1 (if x then 1 else 0) := by
        unfold layR
        rw [e]
        simp
      rw [hR, e] at hlen ⊢
      obtain ⟨L, hL⟩ : ∃ L, L = l ++ (be 1 1 ++ (be 1 (if x then 1 else 0))) := ⟨_, rfl⟩
      show Calls _ _ #[bv, .agg #[.int .i64 1, .bool x, .int .i64 0, .string ⟨#[]⟩, .string ⟨#[]⟩, .string ⟨#[]⟩, _, _]] _ (AppC B w l (l ++ (be 1 1 ++ (be 1 (if x then 1 else 0)))))
      rw [← hL]
      have HL := Lib.hid hL
      have hlL : l.length ≤ L.length := by rw [hL, List.length_append]; omega
      have N2 := Lib.hid (N1.out 1 1 rfl (by omega) (by omega) _ (HO.out.alloc (.cells #[.int .i64 1, .bool x, .int .i64 0, .string ⟨#[]⟩, .string ⟨#[]⟩, .string ⟨#[]⟩, .slice ai v.l.length ci, .slice an v.ns.length cn] 29)) (by simp; omega))
      have B0 := Lib.hid ((Below.refl B w).alloc hB (.cells #[.int .i64 1, .bool x, .int .i64 0, .string ⟨#[]⟩, .string ⟨#[]⟩, .string ⟨#[]⟩, .slice ai v.l.length ci, .slice an v.ns.length cn] 29))
      simp only [List.length_append, be_len] at hlen
      have N3 := Lib.hid (fun W bw (h : Own B W bw (l ++ be 1 1)) (hb : B ≤ W.heap.size) => layB_c x B bw (l ++ be 1 1) W h (by rw [List.length_append, be_len]; omega) hb)
      clear hR e hr hc N1 O hlen el en hL hx
      go_enter Try.func31, Try.ntmps31
      go_wp2_with (first
        | ((fail_if_success (have := O1)); go_at_call 54; refine N2.out.mono ?_; rintro e w1 ⟨v1, rfl, O1, B1, T1⟩; obtain ⟨c0, c1, c2, c3, c4, c5, c6, c7⟩ := othbox T1; have s1 := (B0.out.trans B1).size)
        | (go_at_call 55; refine (N3.out _ _ O1 (Nat.le_trans hB s1)).mono ?_; rintro e w2 ⟨v2, rfl, O2, B2, T2⟩))
      go_ret
      exact ret_app _ rfl O2 (by rw [HL.out, List.append_assoc]) ((B0.out.trans B1).trans B2) (T1.trans T2) hlL
    · obtain ⟨x, hx⟩ : ∃ x, x = v.h.n := ⟨_, rfl⟩
      rw [← hx] at e
      have hR : layR v = be 8 (x % 18446744073709551616).toNat := by
        unfold layR
        rw [e]
        simp
      rw [hR, e] at hlen ⊢
      obtain ⟨L, hL⟩ : ∃ L, L = l ++ (be 1 2 ++ (be 8 (x % 18446744073709551616).toNat)) := ⟨_, rfl⟩
      show Calls _ _ #[bv, .agg #[.int .i64 2, .bool false, .int .i64 x, .string ⟨#[]⟩, .string ⟨#[]⟩, .string ⟨#[]⟩, _, _]] _ (AppC B w l (l ++ (be 1 2 ++ (be 8 (x % 18446744073709551616).toNat))))
      rw [← hL]
      have HL := Lib.hid hL
      have hlL : l.length ≤ L.length := by rw [hL, List.length_append]; omega
      have N2 := Lib.hid (N1.out 2 2 rfl (by omega) (by omega) _ (HO.out.alloc (.cells #[.int .i64 2, .bool false, .int .i64 x, .string ⟨#[]⟩, .string ⟨#[]⟩, .string ⟨#[]⟩, .slice ai v.l.length ci, .slice an v.ns.length cn] 29)) (by simp; omega))
      have B0 := Lib.hid ((Below.refl B w).alloc hB (.cells #[.int .i64 2, .bool false, .int .i64 x, .string ⟨#[]⟩, .string ⟨#[]⟩, .string ⟨#[]⟩, .slice ai v.l.length ci, .slice an v.ns.length cn] 29))
      simp only [List.length_append, be_len] at hlen
      obtain ⟨m, hm⟩ : ∃ m : Int, m = x % 18446744073709551616 := ⟨_, rfl⟩
      have HW := Lib.hid (show IntKind.u64.wrap x = m by rw [IntKind.wrap_u64]; exact hm.symm)
      have hm0 : 0 ≤ m := by omega
      have hm1 : m < 18446744073709551616 := by omega
      rw [← hm] at HL
      have N3 := Lib.hid (fun W bw (h : Own B W bw (l ++ be 1 2)) (hb : B ≤ W.heap.size) => layN8_c m.toNat m (by omega) hm0 hm1 B bw (l ++ be 1 2) W h (by rw [List.length_append, be_len]; omega) hb)
      clear hR e hr hc N1 O hlen el en hL hx hm hm0 hm1
      go_enter Try.func31, Try.ntmps31
      go_wp2_with (first
        | (go_at_call 54; rw [HW.out]; refine (N3.out _ _ O1 (Nat.le_trans hB s1)).mono ?_; rintro e w2 ⟨v2, rfl, O2, B2, T2⟩)
        | ((fail_if_success (have := O1)); go_at_call 54; refine N2.out.mono ?_; rintro e w1 ⟨v1, rfl, O1, B1, T1⟩; obtain ⟨c0, c1, c2, c3, c4, c5, c6, c7⟩ := othbox T1; have s1 := (B0.out.trans B1).size))
      go_ret
      exact ret_app _ rfl O2 (by rw [HL.out, List.append_assoc]) ((B0.out.trans B1).trans B2) (T1.trans T2) hlL
    · obtain ⟨x, hx⟩ : ∃ x, x = v.h.s := ⟨_, rfl⟩
      rw [← hx] at e
      have hR : layR v = layT x := by
        unfold layR
        rw [e]
        simp
      rw [hR, e] at hlen ⊢
      obtain ⟨L, hL⟩ : ∃ L, L = l ++ (be 1 3 ++ (layT x)) := ⟨_, rfl⟩
      show Calls _ _ #[bv, .agg #[.int .i64 3, .bool false, .int .i64 0, .string x, .string ⟨#[]⟩, .string ⟨#[]⟩, _, _]] _ (AppC B w l (l ++ (be 1 3 ++ (layT x))))
      rw [← hL]
      have HL := Lib.hid hL
      have hlL : l.length ≤ L.length := by rw [hL, List.length_append]; omega
      have N2 := Lib.hid (N1.out 3 3 rfl (by omega) (by omega) _ (HO.out.alloc (.cells #[.int .i64 3, .bool false, .int .i64 0, .string x, .string ⟨#[]⟩, .string ⟨#[]⟩, .slice ai v.l.length ci, .slice an v.ns.length cn] 29)) (by simp; omega))
      have B0 := Lib.hid ((Below.refl B w).alloc hB (.cells #[.int .i64 3, .bool false, .int .i64 0, .string x, .string ⟨#[]⟩, .string ⟨#[]⟩, .slice ai v.l.length ci, .slice an v.ns.length cn] 29))
      simp only [List.length_append, be_len, layT_len] at hlen
      have N3 := Lib.hid (fun W bw (h : Own B W bw (l ++ be 1 3)) (hb : B ≤ W.heap.size) => layT_c x B bw (l ++ be 1 3) W h (by rw [List.length_append, List.length_append, be_len, layT_len]; omega) hb)
      clear hR e hr hc N1 O hlen el en hL hx
      go_enter Try.func31, Try.ntmps31
      go_wp2_with (first
        | ((fail_if_success (have := O1)); go_at_call 54; refine N2.out.mono ?_; rintro e w1 ⟨v1, rfl, O1, B1, T1⟩; obtain ⟨c0, c1, c2, c3, c4, c5, c6, c7⟩ := othbox T1; have s1 := (B0.out.trans B1).size)
        | (go_at_call 56; refine (N3.out _ _ O1 (Nat.le_trans hB s1)).mono ?_; rintro e w2 ⟨v2, rfl, O2, B2, T2⟩))
      go_ret
      exact ret_app _ rfl O2 (by rw [HL.out, List.append_assoc]) ((B0.out.trans B1).trans B2) (T1.trans T2) hlL
    · obtain ⟨x, hx⟩ : ∃ x, x = v.h.t := ⟨_, rfl⟩
      obtain ⟨y, hy⟩ : ∃ y, y = v.h.i := ⟨_, rfl⟩
      rw [← hx, ← hy] at e
      have hR : layR v = layT x ++ layT y := by
        unfold layR
        rw [e]
        simp
      rw [hR, e] at hlen ⊢
      obtain ⟨L, hL⟩ : ∃ L, L = l ++ (be 1 4 ++ (layT x ++ layT y)) := ⟨_, rfl⟩
      show Calls _ _ #[bv, .agg #[.int .i64 4, .bool false, .int .i64 0, .string ⟨#[]⟩, .string x, .string y, _, _]] _ (AppC B w l (l ++ (be 1 4 ++ (layT x ++ layT y))))
      rw [← hL]
      have HL := Lib.hid hL
      have hlL : l.length ≤ L.length := by rw [hL, List.length_append]; omega
      have N2 := Lib.hid (N1.out 4 4 rfl (by omega) (by omega) _ (HO.out.alloc (.cells #[.int .i64 4, .bool false, .int .i64 0, .string ⟨#[]⟩, .string x, .string y, .slice ai v.l.length ci, .slice an v.ns.length cn] 29)) (by simp; omega))
      have B0 := Lib.hid ((Below.refl B w).alloc hB (.cells #[.int .i64 4, .bool false, .int .i64 0, .string ⟨#[]⟩, .string x, .string y, .slice ai v.l.length ci, .slice an v.ns.length cn] 29))
      simp only [List.length_append, be_len, layT_len] at hlen
      have N3 := Lib.hid (fun W bw (h : Own B W bw (l ++ be 1 4)) (hb : B ≤ W.heap.size) => layT_c x B bw (l ++ be 1 4) W h (by rw [List.length_append, List.length_append, be_len, layT_len]; omega) hb)
      have N4 := Lib.hid (fun W bw (h : Own B W bw (l ++ be 1 4 ++ layT x)) (hb : B ≤ W.heap.size) => layT_c y B bw (l ++ be 1 4 ++ layT x) W h (by rw [List.length_append, List.length_append, List.length_append, be_len, layT_len, layT_len]; omega) hb)
      clear hR e hr hc N1 O hlen el en hL hx hy
      go_enter Try.func31, Try.ntmps31
      go_wp2_with (first
        | ((fail_if_success (have := O1)); go_at_call 54; refine N2.out.mono ?_; rintro e w1 ⟨v1, rfl, O1, B1, T1⟩; obtain ⟨c0, c1, c2, c3, c4, c5, c6, c7⟩ := othbox T1; have s1 := (B0.out.trans B1).size))
      have H3 := Lib.hid (N3.out w1.drew v1 O1.drew (Nat.le_trans hB s1))
      go_region_law (first
        | (go_simp; go_at_call 56; (with_reducible refine H3.out.mono ?_); rintro e w2 ⟨v2, rfl, O2, B2, T2⟩; obtain ⟨d0, d1, d2, d3, d4, d5, d6, d7⟩ := othbox (T1.trans T2); have s2 := Nat.le_trans s1 B2.size; have H4 := Lib.hid (N4.out w2 v2 O2 (Nat.le_trans hB s2)))
        | (go_simp; go_at_call 56; (with_reducible refine H4.out.mono ?_); rintro e w3 ⟨v3, rfl, O3, B3, T3⟩))
      all_goals
        go_wp2_with fail
        go_ret
        exact ret_app _ rfl O3 (by rw [HL.out]; simp only [List.append_assoc]) ((((B0.out.trans B1).drew).trans B2).trans B3) ((T1.trans T2).trans T3) hlL
    · have hR : layR v = be 4 v.l.length ++ layL false v.l v.ns := by
        unfold layR
        rw [e]
        simp
      rw [hR, e] at hlen ⊢
      obtain ⟨L, hL⟩ : ∃ L, L = l ++ (be 1 5 ++ (be 4 v.l.length ++ layL false v.l v.ns)) := ⟨_, rfl⟩
      show Calls _ _ #[bv, .agg #[.int .i64 5, .bool false, .int .i64 0, .string ⟨#[]⟩, .string ⟨#[]⟩, .string ⟨#[]⟩, _, _]] _ (AppC B w l (l ++ (be 1 5 ++ (be 4 v.l.length ++ layL false v.l v.ns))))
      rw [← hL]
      have HL := Lib.hid hL
      have hlL : l.length ≤ L.length := by rw [hL, List.length_append]; omega
      have N2 := Lib.hid (N1.out 5 5 rfl (by omega) (by omega) _ (HO.out.alloc (.cells #[.int .i64 5, .bool false, .int .i64 0, .string ⟨#[]⟩, .string ⟨#[]⟩, .string ⟨#[]⟩, .slice ai v.l.length ci, .slice an v.ns.length cn] 29)) (by simp; omega))
      have B0 := Lib.hid ((Below.refl B w).alloc hB (.cells #[.int .i64 5, .bool false, .int .i64 0, .string ⟨#[]⟩, .string ⟨#[]⟩, .string ⟨#[]⟩, .slice ai v.l.length ci, .slice an v.ns.length cn] 29))
      simp only [List.length_append, be_len] at hlen
      have N3 := Lib.hid (fun W bw (h : Own B W bw (l ++ be 1 5)) (k : Below B w W) (hb : B ≤ W.heap.size) => (by
        have q := layI_c v false (by rw [e]; rfl) (by simp) hci' (fun x hx => ih x (by have := dep_mem hx; rw [dep_v] at hd; omega)) B bw (l ++ be 1 5) W _ _ h (below_rep k HR.out) hb (by simp only [List.length_append, be_len]; omega)
        rw [e] at q
        exact q : Calls Try.prog 57 #[bw, .agg #[.int .i64 5, .bool false, .int .i64 0, .string ⟨#[]⟩, .string ⟨#[]⟩, .string ⟨#[]⟩, .slice ai v.l.length ci, .slice an v.ns.length cn]] W (AppC B W (l ++ be 1 5) (l ++ be 1 5 ++ (be 4 v.l.length ++ layL false v.l v.ns)))))
      clear hR e hr hc N1 O hlen en hL hci'
      go_enter Try.func31, Try.ntmps31
      go_wp2_with (first
        | ((fail_if_success (have := O1)); go_at_call 54; refine N2.out.mono ?_; rintro e w1 ⟨v1, rfl, O1, B1, T1⟩; obtain ⟨c0, c1, c2, c3, c4, c5, c6, c7⟩ := othbox T1; have s1 := (B0.out.trans B1).size)
        | (go_at_call 57; refine (N3.out _ _ O1 (B0.out.trans B1) (Nat.le_trans hB s1)).mono ?_; rintro e w2 ⟨l2, ⟨v2, rfl, O2, B2, T2⟩, C2, L2⟩))
      go_ret
      exact ret_appC _ rfl O2 C2 (by rw [HL.out, List.append_assoc]) ((B0.out.trans B1).trans B2) (T1.trans T2) (by rw [List.length_append] at L2; omega)
    · have hR : layR v = be 4 v.l.length ++ layL true v.l v.ns := by
        unfold layR
        rw [e]
        simp
      rw [hR, e] at hlen ⊢
      obtain ⟨L, hL⟩ : ∃ L, L = l ++ (be 1 6 ++ (be 4 v.l.length ++ layL true v.l v.ns)) := ⟨_, rfl⟩
      show Calls _ _ #[bv, .agg #[.int .i64 6, .bool false, .int .i64 0, .string ⟨#[]⟩, .string ⟨#[]⟩, .string ⟨#[]⟩, _, _]] _ (AppC B w l (l ++ (be 1 6 ++ (be 4 v.l.length ++ layL true v.l v.ns))))
      rw [← hL]
      have HL := Lib.hid hL
      have hlL : l.length ≤ L.length := by rw [hL, List.length_append]; omega
      have N2 := Lib.hid (N1.out 6 6 rfl (by omega) (by omega) _ (HO.out.alloc (.cells #[.int .i64 6, .bool false, .int .i64 0, .string ⟨#[]⟩, .string ⟨#[]⟩, .string ⟨#[]⟩, .slice ai v.l.length ci, .slice an v.ns.length cn] 29)) (by simp; omega))
      have B0 := Lib.hid ((Below.refl B w).alloc hB (.cells #[.int .i64 6, .bool false, .int .i64 0, .string ⟨#[]⟩, .string ⟨#[]⟩, .string ⟨#[]⟩, .slice ai v.l.length ci, .slice an v.ns.length cn] 29))
      simp only [List.length_append, be_len] at hlen
      have N3 := Lib.hid (fun W bw (h : Own B W bw (l ++ be 1 6)) (k : Below B w W) (hb : B ≤ W.heap.size) => (by
        have q := layI_c v true (by rw [e]; rfl) (fun _ => en) hci' (fun x hx => ih x (by have := dep_mem hx; rw [dep_v] at hd; omega)) B bw (l ++ be 1 6) W _ _ h (below_rep k HR.out) hb (by simp only [List.length_append, be_len]; omega)
        rw [e] at q
        exact q : Calls Try.prog 57 #[bw, .agg #[.int .i64 6, .bool false, .int .i64 0, .string ⟨#[]⟩, .string ⟨#[]⟩, .string ⟨#[]⟩, .slice ai v.l.length ci, .slice an v.ns.length cn]] W (AppC B W (l ++ be 1 6) (l ++ be 1 6 ++ (be 4 v.l.length ++ layL true v.l v.ns)))))
      clear hR e hr hc N1 O hlen en hL hci'
      go_enter Try.func31, Try.ntmps31
      go_wp2_with (first
        | ((fail_if_success (have := O1)); go_at_call 54; refine N2.out.mono ?_; rintro e w1 ⟨v1, rfl, O1, B1, T1⟩; obtain ⟨c0, c1, c2, c3, c4, c5, c6, c7⟩ := othbox T1; have s1 := (B0.out.trans B1).size)
        | (go_at_call 57; refine (N3.out _ _ O1 (B0.out.trans B1) (Nat.le_trans hB s1)).mono ?_; rintro e w2 ⟨l2, ⟨v2, rfl, O2, B2, T2⟩, C2, L2⟩))
      go_ret
      exact ret_appC _ rfl O2 C2 (by rw [HL.out, List.append_assoc]) ((B0.out.trans B1).trans B2) (T1.trans T2) (by rw [List.length_append] at L2; omega)
theorem layV_c (v : V) : LayC 31 v := layV_n (dep v) v (Nat.le_refl _)
end Go.Proofs.Ytbhlgajdoegboaa
