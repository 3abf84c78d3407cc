/- A record of numbers: as it must be, and what is found in it. No condition. -/
import Derived.Test.YtdblkjcimegoeaaRecQ
namespace Go.Proofs.Ytdblkjcimegoeaa
open Go.RowKit Go.Sort
theorem can_nV (z : Int) : can (nV z) = (0, nV z) := by
  have h : (nV z).h.k = 2 := rfl
  rw [can_v, if_neg (by rw [h]; decide), if_pos h]
  rfl
theorem dpt_nV (z : Int) : dpt (nV z) = 1 := dpt_one (k := 2) rfl (by decide) (by decide) _ _
/-- A record of so many names and numbers. -/
def recV (ns : List ByteArray) (zs : List Int) : V := .mk { hd0 with k := 6 } (zs.map nV) ns
theorem canD_rec {ns : List ByteArray} {zs : List Int} (h15 : zs.length ≤ 4096) (hl : ns.length = zs.length) : canD (recV ns zs) = recC ns (zs.map nV) := by
  have hd : dpt (recV ns zs) ≤ 2 := by
    unfold recV
    rw [dpt_up (.inr rfl)]
    have : dptL (zs.map nV) ≤ 1 := dptL_le.2 fun x hx => by
      obtain ⟨z, -, rfl⟩ := List.mem_map.1 hx
      rw [dpt_nV]
      exact Nat.le_refl _
    omega
  have hc : canL (zs.map nV) = (0, zs.map nV) := by
    rw [canL_of (by rw [List.length_map]; exact h15) fun x hx => by obtain ⟨z, -, rfl⟩ := List.mem_map.1 hx; rw [can_nV]]
    congr 1
    rw [List.map_map]
    exact List.map_congr_left fun z _ => by simp [can_nV]
  have h6 : (recV ns zs).h.k = 6 := rfl
  have hll : (recV ns zs).l = zs.map nV := rfl
  have hnn : (recV ns zs).ns = ns := rfl
  unfold canD
  rw [if_neg (by omega), can_v, h6, hll, hnn, if_neg (by decide), if_neg (by decide), if_neg (by decide), if_neg (by decide), if_neg (by decide), if_pos rfl, if_pos (by rw [List.length_map]; exact hl), hc, if_pos rfl]
theorem rec_is {ns : List ByteArray} {zs : List Int} (hn : ns.Nodup) (hl : ns.length = zs.length) : ∃ fs : List (ByteArray × V), recC ns (zs.map nV) = (0, .mk { hd0 with k := 6 } (fs.map (·.2)) (fs.map (·.1))) ∧ fs.length = ns.length ∧ Rises cmpP fs ∧
    ∀ i (h : i < ns.length) (k : i < zs.length), ∃ j, ∃ hj : j < fs.length, fs[j] = (ns[i], nV zs[i]) := by
  refine ⟨uniq cmpP (ns.zip (zs.map nV)), by unfold recC; rw [if_pos hn], ?_, ?_, fun i h k => ?_⟩
  · have gz : Good cmpP fun p => p ∈ ns.zip (zs.map nV) := good_pair.mono fun _ _ => trivial
    have hr : Rises cmpP (uniq cmpP (ns.zip (zs.map nV))) := uniq_rises gz (fun _ _ hy hx h => zip_only hn hy hx h) fun _ h => h
    have h1 : (uniq cmpP (ns.zip (zs.map nV))).Nodup := hr.imp fun {a b} h e => by
      subst e
      have := good_pair.refl (a := a) trivial
      omega
    have h2 : (ns.zip (zs.map nV)).Nodup := by
      have h3 : ((ns.zip (zs.map nV)).map (·.1)).Nodup := by
        rw [List.map_fst_zip (by rw [List.length_map]; omega)]
        exact hn
      exact (List.pairwise_map.1 h3).imp fun h e => h (by rw [e])
    have hp : (uniq cmpP (ns.zip (zs.map nV))).Perm (ns.zip (zs.map nV)) := (List.perm_ext_iff_of_nodup h1 h2).2 fun z => recC_mem hn z
    rw [hp.length_eq, List.length_zip, List.length_map]
    omega
  · exact uniq_rises (good_pair.mono (T := fun p => p ∈ ns.zip (zs.map nV)) fun _ _ => trivial) (fun _ _ hy hx h => zip_only hn hy hx h) fun _ h => h
  · have hm : (ns[i], nV zs[i]) ∈ ns.zip (zs.map nV) := by
      have hz : i < (ns.zip (zs.map nV)).length := by rw [List.length_zip, List.length_map]; omega
      have : (ns.zip (zs.map nV))[i] = (ns[i], nV zs[i]) := by simp
      rw [← this]
      exact List.getElem_mem hz
    obtain ⟨j, hj, he⟩ := List.getElem_of_mem ((recC_mem hn _).2 hm)
    exact ⟨j, hj, he⟩
theorem rises_names {fs : List (ByteArray × V)} (hr : Rises cmpP fs) {a b : Nat} (hb : b < fs.length) (h : a < b) : cmpT (fs[a]'(by omega)).1 fs[b].1 < 0 := List.pairwise_iff_getElem.1 hr a b (by omega) hb h
theorem get_rec {fs : List (ByteArray × V)} (hr : Rises cmpP fs) {j : Nat} (hj : j < fs.length) {nm : ByteArray} {x : V} (h : fs[j] = (nm, x)) :
    getI (.mk { hd0 with k := 6 } (fs.map (·.2)) (fs.map (·.1))) nm = (j : Int) ∧ getV (.mk { hd0 with k := 6 } (fs.map (·.2)) (fs.map (·.1))) nm = x := by
  have hi : Lib.idxOfS (fs.map (·.1)) nm = (j : Int) := idx_hit (by simpa using hj) (by simp [h]) fun q hq hlt e => by
    have hq2 : q < fs.length := by simpa using hq
    have h1 := rises_names hr hj hlt
    rw [h] at h1
    have h2 : (fs[q]).1 = nm := by simpa using e
    rw [h2, good_text.refl trivial] at h1
    omega
  obtain ⟨v, hv⟩ : ∃ v, v = V.mk { hd0 with k := 6 } (fs.map (·.2)) (fs.map (·.1)) := ⟨_, rfl⟩
  have hk : v.h.k = 6 := by rw [hv]; rfl
  have hn : v.ns = fs.map (·.1) := by rw [hv]; rfl
  have hl : v.l = fs.map (·.2) := by rw [hv]; rfl
  rw [← hv]
  have hg : getI v nm = (j : Int) := by
    unfold getI
    rw [if_pos hk, hn, hl, hi, if_neg (by simp; omega)]
  refine ⟨hg, ?_⟩
  unfold getV
  rw [hg, if_pos (by omega), hl]
  simp [List.getD, h, hj]
end Go.Proofs.Ytdblkjcimegoeaa
