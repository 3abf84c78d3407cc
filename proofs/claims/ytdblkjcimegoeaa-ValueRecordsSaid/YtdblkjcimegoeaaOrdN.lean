/- The order of rows of names; the order handed on as a function value in a closure; a record's items that have a name. No condition. -/
import Derived.Test.YtdblkjcimegoeaaOrdU
namespace Go.Proofs.Ytdblkjcimegoeaa
open Go.RowKit Go.Sort
def Na (w : World) (ns : List ByteArray) (nm : Value) : Prop := NamesAt (fun _ => True) w ns nm
theorem Na.low {w w' : World} {l : List ByteArray} {it : Value} (hr : Na w l it) (h : Low w w') : Na w' l it := NamesAt.low hr h
theorem na_at {w : World} {l : List ByteArray} {ao : Option Addr} {n cap i : Nat} (hr : Na w l (.slice ao n cap)) (hi : i < l.length) : ∃ b o, ao = some ⟨b, o, none⟩ ∧ w.cell? ⟨b, o + i, none⟩ = some (.string l[i]) ∧ l[i].size ≤ 9223372036854775807 := by
  obtain ⟨ai, ci, he, hli, hs, hx⟩ := hr
  simp only [Value.slice.injEq] at he
  obtain ⟨rfl, rfl, rfl⟩ := he
  rcases hx with h0 | ⟨b, o, rfl, ha, hf⟩
  · rw [h0] at hi; exact absurd hi (Nat.not_lt_zero _)
  · exact ⟨b, o, rfl, hf i hi, hs _ (List.getElem_mem hi)⟩
theorem cmpN_cons (x y : ByteArray) (l m : List ByteArray) : cmpN (x :: l) (y :: m) = orI (cmpT x y) (cmpN l m) := rfl
set_option maxHeartbeats 1600000 in
theorem cmpNm_c (l m : List ByteArray) (w : World) (it it' : Value) (hl : Na w l it) (hm : Na w m it') :
    Calls Try.prog 43 #[it, it', .func (.func 20) #[] #[]] w fun e w' => e = .returned (.int .i64 (cmpN l m)) ∧ w = w' := by
  obtain ⟨al, cl, rfl, zl, -⟩ := id hl
  obtain ⟨am, cm, rfl, zm, -⟩ := id hm
  have HL := Lib.hid hl
  have HM := Lib.hid hm
  clear hl hm
  obtain ⟨r, hr⟩ : ∃ r, r = cmpN l m := ⟨_, rfl⟩
  have HR := Lib.hid hr
  rw [← hr]
  clear hr
  go_enter Try.func43, Try.ntmps43
  go_wp2_with fail
  go_loopg [13] l.length (fun gk vi wr => ∃ i : Nat, vi = .int .i64 (i : Int) ∧ i ≤ l.length ∧ i ≤ m.length ∧ l.length - i ≤ gk ∧ Hid (w = wr) ∧ Hid (r = cmpN (l.drop i) (m.drop i)))
  case atStart => exact ⟨0, rfl, Nat.zero_le _, Nat.zero_le _, Nat.le_refl _, rfl, HR⟩
  case round =>
    obtain ⟨i, rfl, hi, hi', hg, G, K⟩ := hrel
    have G' : w = wr := G
    subst G'
    by_cases hlt : i < l.length
    · have z1 : (i : Int) < (l.length : Int) := by omega
      obtain ⟨b, o, rfl, hc, -⟩ := na_at HL.out hlt
      by_cases hlm : i < m.length
      · have z2 : (i : Int) < (m.length : Int) := by omega
        obtain ⟨b', o', rfl, hc', -⟩ := na_at HM.out hlm
        obtain ⟨c, hcc⟩ : ∃ c, c = cmpT l[i] m[i] := ⟨_, rfl⟩
        have hst : r = orI c (cmpN (l.drop (i + 1)) (m.drop (i + 1))) := by rw [hcc, ← cmpN_cons, ← drop_cons hlt, ← drop_cons hlm]; exact K.out
        have hcon := sCmp_c l[i] m[i] w
        rw [← hcc] at hcon
        have HC := Lib.hid hcon
        have HS := Lib.hid hst
        clear hst hcon hcc
        go_wp2_with fail
        refine HC.out.mono ?_
        rintro e w' ⟨rfl, rfl⟩
        by_cases h0 : c = 0
        · subst h0
          have HS' : Hid (r = cmpN (l.drop (i + 1)) (m.drop (i + 1))) := HS
          go_wp2_with fail
          go_roundg (l.length - (i + 1))
          case measure => omega
          case rel => exact ⟨i + 1, by go_num, by omega, by omega, by omega, rfl, HS'⟩
        · have hr : r = c := by rw [HS.out, orI, if_neg h0]
          go_wp2_with fail
          go_ret
          exact ⟨retI hr, rfl⟩
      · have z2 : ¬ (i : Int) < (m.length : Int) := by omega
        have hr : r = 1 := by
          rw [K.out, drop_cons hlt, List.drop_eq_nil_of_le (show m.length ≤ i by omega)]; rfl
        have HQ := Lib.hid hr
        clear hr
        go_wp2_with fail
        go_ret
        exact ⟨retI HQ.out, rfl⟩
    · have z1 : ¬ (i : Int) < (l.length : Int) := by omega
      by_cases hlm : l.length < m.length
      · have z2 : (l.length : Int) < (m.length : Int) := by omega
        have hr : r = -1 := by
          rw [K.out, List.drop_eq_nil_of_le (show l.length ≤ i by omega), drop_cons (show i < m.length by omega)]; rfl
        have HQ := Lib.hid hr
        clear hr
        go_wp2_with fail
        go_ret
        exact ⟨retI HQ.out, rfl⟩
      · have z2 : ¬ (l.length : Int) < (m.length : Int) := by omega
        have hr : r = 0 := by
          rw [K.out, List.drop_eq_nil_of_le (show l.length ≤ i by omega), List.drop_eq_nil_of_le (show m.length ≤ i by omega)]; rfl
        have HQ := Lib.hid hr
        clear hr
        go_wp2_with fail
        go_ret
        exact ⟨retI HQ.out, rfl⟩
/-! ### The closures -/
def ordV : Value := .func (.func 9) #[] #[]
def cmpV : Value := .func (.func 20) #[] #[]
theorem byItem_c (w : World) : Calls Try.prog 22 #[ordV] w fun e w' => ∃ bx, e = .returned (.func (.func 33) #[] #[.pointer (some ⟨bx, 0, none⟩)]) ∧ w'.cell? ⟨bx, 0, none⟩ = some ordV ∧ Gr w w' := by
  unfold ordV
  go_enter Try.func22, Try.ntmps22
  go_wp2_with fail
  go_ret
  exact ⟨_, rfl, by simp [go_sem], Gr.alloc (Gr.refl w) _⟩
theorem byName_c (w : World) : Calls Try.prog 35 #[cmpV] w fun e w' => ∃ bx, e = .returned (.func (.func 42) #[] #[.pointer (some ⟨bx, 0, none⟩)]) ∧ w'.cell? ⟨bx, 0, none⟩ = some cmpV ∧ Gr w w' := by
  unfold cmpV
  go_enter Try.func35, Try.ntmps35
  go_wp2_with fail
  go_ret
  exact ⟨_, rfl, by simp [go_sem], Gr.alloc (Gr.refl w) _⟩
theorem cloV_c (l m : List V) (ih : ∀ x ∈ l, ∀ y ∈ m, OrdC 9 x y) (bx : Nat) (w : World) (it it' : Value) (hb : w.cell? ⟨bx, 0, none⟩ = some ordV) (hl : Ro w l it) (hm : Ro w m it') :
    Calls Try.prog 33 #[it, it', .pointer (some ⟨bx, 0, none⟩)] w fun e w' => e = .returned (.int .i64 (ordL l m)) ∧ Gr w w' := by
  unfold ordV at hb
  have HC := Lib.hid (cmpF_c l m ih w it it' hl hm)
  clear ih hl hm
  generalize ordL l m = r at HC ⊢
  go_enter Try.func33, Try.ntmps33
  go_wp2_with fail
  refine HC.out.mono ?_
  rintro e w' ⟨rfl, g⟩
  go_wp2_with fail
  go_ret
  exact ⟨rfl, g⟩
theorem cloN_c (l m : List ByteArray) (bx : Nat) (w : World) (it it' : Value) (hb : w.cell? ⟨bx, 0, none⟩ = some cmpV) (hl : Na w l it) (hm : Na w m it') :
    Calls Try.prog 42 #[it, it', .pointer (some ⟨bx, 0, none⟩)] w fun e w' => e = .returned (.int .i64 (cmpN l m)) ∧ w = w' := by
  unfold cmpV at hb
  have HC := Lib.hid (cmpNm_c l m w it it' hl hm)
  clear hl hm
  generalize cmpN l m = r at HC ⊢
  go_enter Try.func42, Try.ntmps42
  go_wp2_with fail
  refine HC.out.mono ?_
  rintro e w' ⟨rfl, rfl⟩
  go_wp2_with fail
  go_ret
  exact ⟨rfl, rfl⟩
end Go.Proofs.Ytdblkjcimegoeaa
