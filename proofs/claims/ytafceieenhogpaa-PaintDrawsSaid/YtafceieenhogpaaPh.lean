/-
  What is proved: plain facts on what is drawn by a layer that is solid and covers all. No conditions but bounds.
-/
import Derived.Test.YtafceieenhogpaaPp
import Derived.Test.YtafceieenhogpaaZj
namespace Go.Proofs.Ytafceieenhogpaa
open Go.RowKit Go.Sort

theorem fill_all {W H : Nat} {q : Int} {L : List Int} (hl : L.length = W * H) (h1 : 1 ≤ W) : fillR W 0 W q L (List.range' 0 (H - 0)) = List.replicate (W * H) q := by
  apply List.ext_getElem?
  intro i
  rw [fillR_get W 0 W q (Nat.zero_le _) (Nat.le_refl _) h1, List.getElem?_replicate]
  by_cases h : i < W * H
  · rw [if_pos h, if_pos ⟨by omega, Nat.zero_le _, Nat.mod_lt _ h1, by rw [List.mem_range'_1]; have := Nat.div_lt_of_lt_mul h; generalize i / W = z at *; omega⟩]
  · rw [if_neg h, if_neg (fun hh => h (by rw [← hl]; exact hh.1)), List.getElem?_eq_none (by omega)]
theorem solid_all {W H : Nat} {r g b : Int} {L : List Int} {R : List Rc} (hW : 1 ≤ W) (hL : L.length = W * H) (hr : By r) (hg : By g) (hb : By b)
    (hQ : OfQ g256 g256 (cutL (lyCut ⟨0, 0, W, H⟩ W H 1 0 0 W H) [⟨0, 0, W, H⟩]) R) :
    drawP W (lyF W H (List.replicate (W * H) (mk 255 r g b)) 1 0 0 255) L (ptsL R) = List.replicate (W * H) (mk 255 r g b) := by
  apply List.ext_getElem?
  intro k
  have hi : ∀ p ∈ ptsL R, InP W H p := fun p hp => by
    rw [ptsL_mem, hQ.has, cutL_has] at hp
    exact lyCut_in _ _ _ _ _ _ _ (by omega) p.1 p.2 (Bool.and_eq_true_iff.1 hp).1
  by_cases h : k < W * H
  · obtain ⟨d1, d2, d3⟩ := div_of (k := k) (H := H) hW h
    generalize k % W = i at *
    generalize k / W = j at *
    have hp : InP W H ((i : Int), (j : Int)) := ⟨by omega, by omega, by omega, by omega⟩
    have hm : ((i : Int), (j : Int)) ∈ ptsL R := by
      rw [ptsL_mem, hQ.has, cutL_has, lyCut_has _ _ _ _ _ _ _ (by omega)]
      simp only [lyHas, hasL, List.any_cons, List.any_nil, Int.sub_zero, Int.ediv_one, Bool.or_false]
      have h1 : hasB 0 0 W H (i : Int) (j : Int) = true := by unfold hasB; exact decide_eq_true (by omega)
      simp only [h1, Bool.and_self]
    have hg1 := drawP_get W H (lyF W H (List.replicate (W * H) (mk 255 r g b)) 1 0 0 255) (ptsL R) L hi (reg_nodup hQ.reg) _ hp
    rw [ixP_nat, d3, if_pos hm] at hg1
    have ha := atV_nat (L := List.replicate (W * H) (mk 255 r g b)) (by simp) d1 d2
    rw [d3, List.getElem?_replicate, if_pos h] at ha
    injection ha with ha
    have hf : ∀ q, lyF W H (List.replicate (W * H) (mk 255 r g b)) 1 0 0 255 ((i : Int), (j : Int)) q = mk 255 r g b := fun q => by
      unfold lyF
      simp only [Int.sub_zero, Int.ediv_one]
      rw [← ha, fd_all (mk_c32 _ _ _ _), ov_solid q hr hg hb]
    rw [hg1, List.getElem?_replicate, if_pos h, List.getElem?_eq_getElem (by omega), Option.map_some, hf]
  · rw [List.getElem?_eq_none (by rw [drawP_len]; omega), List.getElem?_eq_none (by simp; omega)]
theorem cut_whole {W H : Nat} (hW : 1 ≤ W) (hH : 1 ≤ H) : cutR 0 0 W H 0 0 W H = ⟨((0 : Nat) : Int), ((0 : Nat) : Int), (W : Int), (H : Int)⟩ := by
  unfold cutR emptyB
  rw [if_neg (by simp; omega)]
  simp
theorem whole_ly {W H : Nat} (hW : 1 ≤ W) (hw : W ≤ 256) (hH : 1 ≤ H) (hh : H ≤ 256) : lyMay W H 1 255 0 0 = true := by
  unfold lyMay inB
  simp only [decide_eq_true_eq]
  omega
theorem solid_may {r g b : Int} {k : Nat} : MayL (List.replicate k (mk 255 r g b)) := fun c hc => by
  rw [(List.mem_replicate.1 hc).2]
  refine ⟨mk_c32 _ _ _ _, ?_⟩
  rw [may_mk]
  have h : ∀ x, cl x ≤ cl 255 := fun x => by unfold cl; omega
  exact decide_eq_true ⟨h r, h g, h b⟩

end Go.Proofs.Ytafceieenhogpaa
