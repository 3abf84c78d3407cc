/- Order is the order by definition. No condition. -/
import Derived.Test.YtdblkjcimegoeaaOrdV
namespace Go.Proofs.Ytdblkjcimegoeaa
open Go.RowKit Go.Sort
theorem iCmp_c (a b : Int) (w : World) : Calls Try.prog 17 #[.int .i64 a, .int .i64 b] w fun e w' => e = .returned (.int .i64 (cmpI a b)) ∧ w = w' :=
  (Try.cmp_Compare_int a b w).mono fun _ _ ⟨h, k⟩ => ⟨h, k.symm⟩
theorem i64Cmp_c (a b : Int) (w : World) : Calls Try.prog 19 #[.int .i64 a, .int .i64 b] w fun e w' => e = .returned (.int .i64 (cmpI a b)) ∧ w = w' :=
  (Try.cmp_Compare_int_f19 a b w).mono fun _ _ ⟨h, k⟩ => ⟨h, k.symm⟩
set_option maxHeartbeats 4000000 in
theorem order_n (n : Nat) : ∀ a b : V, dep a ≤ n → OrdC 9 a b := by
  induction n with
  | zero => intro a b h; rw [dep_v] at h; omega
  | succ n ih =>
    intro a b hd w it nm it' nm' ha hb
    have ih' : ∀ x ∈ a.l, ∀ y ∈ b.l, OrdC 9 x y := fun x hx y _ => ih x y (by have := dep_mem hx; rw [dep_v] at hd; omega)
    obtain ⟨ai, ci, an, cn, rfl, rfl⟩ := r_slices ha
    obtain ⟨ai', ci', an', cn', rfl, rfl⟩ := r_slices hb
    obtain ⟨r, hr⟩ : ∃ r, r = ord a b := ⟨_, rfl⟩
    have hr2 := hr
    rw [ord_eq] at hr2
    rw [← hr]
    clear hr
    have CR := Lib.hid (recs_c a b ih')
    have CL := Lib.hid (cloV_c a.l b.l ih')
    have ra : Ro w a.l (.slice ai a.l.length ci) := (rep_v.1 ha).2.2
    have rb : Ro w b.l (.slice ai' b.l.length ci') := (rep_v.1 hb).2.2
    generalize ordL a.l b.l = rl at hr2 CL
    generalize orI (cmpN a.ns b.ns) (ordL a.named b.named) = rr at hr2 CR
    have RA := Lib.hid ra
    have RB := Lib.hid rb
    have HA := Lib.hid ha
    have HB := Lib.hid hb
    clear ra rb ha hb ih ih' hd
    generalize a.l.length = la at *
    generalize b.l.length = lb at *
    generalize a.ns.length = na at *
    generalize b.ns.length = nb at *
    unfold av
    by_cases hk : a.h.k = b.h.k
    · rw [if_pos hk] at hr2
      by_cases k1 : a.h.k = 1
      · rw [if_pos k1] at hr2
        have kb : b.h.k = 1 := hk ▸ k1
        have HR := Lib.hid hr2
        clear hr2 hk
        rw [k1, kb]
        clear k1 kb
        go_enter Try.func9, Try.ntmps9
        go_wp2_with fail
        refine (truths_c a.h.b b.h.b _).mono ?_
        rintro e w' ⟨rfl, rfl⟩
        go_wp2_with fail
        go_ret
        exact ⟨retI HR.out, Gr.alloc (Gr.alloc (Gr.refl w) _) _⟩
      rw [if_neg k1] at hr2
      by_cases k2 : a.h.k = 2
      · rw [if_pos k2] at hr2
        have kb : b.h.k = 2 := hk ▸ k2
        have HR := Lib.hid hr2
        clear hr2 hk
        rw [k2, kb]
        clear k2 kb
        go_enter Try.func9, Try.ntmps9
        go_wp2_with fail
        refine (i64Cmp_c a.h.n b.h.n _).mono ?_
        rintro e w' ⟨rfl, rfl⟩
        go_wp2_with fail
        go_ret
        exact ⟨retI HR.out, Gr.alloc (Gr.alloc (Gr.refl w) _) _⟩
      rw [if_neg k2] at hr2
      by_cases k3 : a.h.k = 3
      · rw [if_pos k3] at hr2
        have kb : b.h.k = 3 := hk ▸ k3
        have HR := Lib.hid hr2
        clear hr2 hk
        rw [k3, kb]
        clear k3 kb
        go_enter Try.func9, Try.ntmps9
        go_wp2_with fail
        refine (sCmp_c a.h.s b.h.s _).mono ?_
        rintro e w' ⟨rfl, rfl⟩
        go_wp2_with fail
        go_ret
        exact ⟨retI HR.out, Gr.alloc (Gr.alloc (Gr.refl w) _) _⟩
      rw [if_neg k3] at hr2
      by_cases k4 : a.h.k = 4
      · rw [if_pos k4] at hr2
        have kb : b.h.k = 4 := hk ▸ k4
        have HR := Lib.hid hr2
        clear hr2 hk
        rw [k4, kb]
        clear k4 kb
        go_enter Try.func9, Try.ntmps9
        go_wp2_with fail
        refine (uids_c a.h.t a.h.i b.h.t b.h.i _).mono ?_
        rintro e w' ⟨rfl, g⟩
        go_wp2_with fail
        go_ret
        exact ⟨retI HR.out, (Gr.alloc (Gr.alloc (Gr.refl w) _) _).trans g⟩
      rw [if_neg k4] at hr2
      by_cases k5 : a.h.k = 5
      · rw [if_pos k5] at hr2
        have kb : b.h.k = 5 := hk ▸ k5
        have HR := Lib.hid hr2
        clear hr2 hk
        rw [k5, kb]
        clear k5 kb
        go_enter Try.func9, Try.ntmps9
        go_wp2_with fail
        obtain ⟨W, hW⟩ : ∃ W, W = (w.alloc (.cells #[.int .i64 5, .bool a.h.b, .int .i64 a.h.n, .string a.h.s, .string a.h.t, .string a.h.i, .slice ai la ci, .slice an na cn] 29)).alloc (.cells #[.int .i64 5, .bool b.h.b, .int .i64 b.h.n, .string b.h.s, .string b.h.t, .string b.h.i, .slice ai' lb ci', .slice an' nb cn'] 29) := ⟨_, rfl⟩
        have g1 : Gr (w.alloc (.cells #[.int .i64 5, .bool a.h.b, .int .i64 a.h.n, .string a.h.s, .string a.h.t, .string a.h.i, .slice ai la ci, .slice an na cn] 29)) W := hW ▸ Gr.alloc (Gr.refl _) _
        have g2 : Gr ((w.alloc (.cells #[.int .i64 5, .bool a.h.b, .int .i64 a.h.n, .string a.h.s, .string a.h.t, .string a.h.i, .slice ai la ci, .slice an na cn] 29)).alloc (.cells #[.int .i64 5, .bool b.h.b, .int .i64 b.h.n, .string b.h.s, .string b.h.t, .string b.h.i, .slice ai' lb ci', .slice an' nb cn'] 29)) W := hW ▸ Gr.refl _
        have G0 := Lib.hid (((Gr.alloc (Gr.refl w) _).trans g1).drew)
        have a6 := (gr_box g1).2.2.2.2.2.2.1
        have b6 := (gr_box g2).2.2.2.2.2.2.1
        rw [show (w.alloc (.cells #[.int .i64 5, .bool a.h.b, .int .i64 a.h.n, .string a.h.s, .string a.h.t, .string a.h.i, .slice ai la ci, .slice an na cn] 29)).heap.size = w.heap.size + 1 by simp] at b6
        rw [← hW]
        clear hW g1 g2
        go_region_held3 (fun w' => w'.cell? ⟨w.heap.size, 6, none⟩ = some (.slice ai la ci) ∧ w'.cell? ⟨w.heap.size + 1, 6, none⟩ = some (.slice ai' lb ci')) (go_keep) (first
          | (go_at_call 22; refine (byItem_c _).mono ?_; rintro e w1 ⟨bx, rfl, hb, g⟩; have a6 := g.cell a6; have b6 := g.cell b6; have G := Lib.hid (G0.out.trans g))
          | (go_at_call 33; refine (CL.out bx _ _ _ hb (RA.out.low G.out.low) (RB.out.low G.out.low)).mono ?_; rintro e w2 ⟨rfl, g⟩; have a6 := g.cell a6; have b6 := g.cell b6; have G := Lib.hid (G.out.trans g)))
        all_goals
          go_wp2_with fail
          go_ret
          exact ⟨retI HR.out, G.out⟩
      rw [if_neg k5] at hr2
      by_cases k6 : a.h.k = 6
      · rw [if_pos k6] at hr2
        have kb : b.h.k = 6 := hk ▸ k6
        have HR := Lib.hid hr2
        have hcon := CR.out _ _ _ _ _ (HA.out.low (Gr.alloc (Gr.alloc (Gr.refl w) _) _ : Gr w ((w.alloc (.cells #[.int .i64 6, .bool a.h.b, .int .i64 a.h.n, .string a.h.s, .string a.h.t, .string a.h.i, .slice ai la ci, .slice an na cn] 29)).alloc (.cells #[.int .i64 6, .bool b.h.b, .int .i64 b.h.n, .string b.h.s, .string b.h.t, .string b.h.i, .slice ai' lb ci', .slice an' nb cn'] 29))).low) (HB.out.low (Gr.alloc (Gr.alloc (Gr.refl w) _) _ : Gr w ((w.alloc (.cells #[.int .i64 6, .bool a.h.b, .int .i64 a.h.n, .string a.h.s, .string a.h.t, .string a.h.i, .slice ai la ci, .slice an na cn] 29)).alloc (.cells #[.int .i64 6, .bool b.h.b, .int .i64 b.h.n, .string b.h.s, .string b.h.t, .string b.h.i, .slice ai' lb ci', .slice an' nb cn'] 29))).low)
        unfold av at hcon
        rw [k6, kb] at hcon
        have HC := Lib.hid hcon
        clear hr2 hk hcon
        rw [k6, kb]
        clear k6 kb
        go_enter Try.func9, Try.ntmps9
        go_wp2_with fail
        refine HC.out.mono ?_
        rintro e w' ⟨rfl, g⟩
        go_wp2_with fail
        go_ret
        exact ⟨retI HR.out, (Gr.alloc (Gr.alloc (Gr.refl w) _) _).trans g⟩
      · rw [if_neg k6] at hr2
        subst hr2
        go_enter Try.func9, Try.ntmps9
        go_wp2_with fail
        go_ret
        exact ⟨rfl, Gr.alloc (Gr.alloc (Gr.refl w) _) _⟩
    · rw [if_neg hk] at hr2
      have HR := Lib.hid hr2
      clear hr2
      go_enter Try.func9, Try.ntmps9
      go_wp2_with fail
      refine (iCmp_c a.h.k b.h.k _).mono ?_
      rintro e w' ⟨rfl, rfl⟩
      go_wp2_with fail
      go_ret
      exact ⟨retI HR.out, Gr.alloc (Gr.alloc (Gr.refl w) _) _⟩
theorem order_c (a b : V) : OrdC 9 a b := order_n (dep a) a b (Nat.le_refl _)
end Go.Proofs.Ytdblkjcimegoeaa
