/-
  What is proved: plain facts: a rectangle filled is its points drawn, one by one. No conditions but bounds.
-/
import Derived.Test.YtafceieenhogpaaPh
namespace Go.Proofs.Ytafceieenhogpaa
open Go.RowKit Go.Sort

theorem inp_nat {W H i j : Nat} (h1 : i < W) (h2 : j < H) : InP W H ((i : Int), (j : Int)) := ⟨by omega, by omega, by omega, by omega⟩
/-- A rectangle of an image, filled, is drawn point by point. -/
theorem fill_draw {W H : Nat} {q : Int} {L : List Int} (hl : L.length = W * H) (h1 : 1 ≤ W) {x0 y0 x1 y1 : Nat} (hx : x0 ≤ x1) (hw : x1 ≤ W) (hy : y0 ≤ y1) (hh : y1 ≤ H) :
    fillR W x0 x1 q L (List.range' y0 (y1 - y0)) = drawP W (fun _ _ => q) L (rectP x0 y0 (x1 - x0) (y1 - y0)) := by
  apply List.ext_getElem?
  intro k
  have hi : ∀ p ∈ rectP (x0 : Int) (y0 : Int) (x1 - x0) (y1 - y0), InP W H p := fun p hp => by
    rw [rectP_mem] at hp
    unfold InP
    omega
  rw [fillR_get W x0 x1 q hx hw h1]
  by_cases h : k < W * H
  · obtain ⟨d1, d2, d3⟩ := div_of (k := k) (H := H) h1 h
    have hg := drawP_get W H (fun _ _ => q) (rectP (x0 : Int) (y0 : Int) (x1 - x0) (y1 - y0)) L hi (rectP_nodup _ _ _ _) (((k % W : Nat) : Int), ((k / W : Nat) : Int)) (inp_nat d1 d2)
    rw [ixP_nat, d3] at hg
    rw [hg]
    have hk : k < L.length := by omega
    generalize k % W = i at *
    generalize k / W = j at *
    rw [List.getElem?_eq_getElem hk, Option.map_some]
    have e : (k < L.length ∧ x0 ≤ i ∧ i < x1 ∧ j ∈ List.range' y0 (y1 - y0)) ↔ ((i : Int), (j : Int)) ∈ rectP (x0 : Int) (y0 : Int) (x1 - x0) (y1 - y0) := by
      rw [rectP_mem, List.mem_range'_1]
      dsimp only
      omega
    by_cases hm : ((i : Int), (j : Int)) ∈ rectP (x0 : Int) (y0 : Int) (x1 - x0) (y1 - y0)
    · rw [if_pos hm, if_pos (e.2 hm)]
    · rw [if_neg hm, if_neg (fun h => hm (e.1 h))]
  · rw [if_neg (fun hh => h (by rw [← hl]; exact hh.1)), List.getElem?_eq_none (by omega), List.getElem?_eq_none (by rw [drawP_len]; omega)]
theorem rectP_area {x0 y0 x1 y1 : Nat} (hx : x0 ≤ x1) (hy : y0 ≤ y1) : areaI x0 y0 x1 y1 = ((rectP (x0 : Int) (y0 : Int) (x1 - x0) (y1 - y0)).length : Nat) := by
  rw [rectP_len]
  unfold areaI
  rw [Int.natCast_mul, Int.mul_comm, Int.natCast_sub hx, Int.natCast_sub hy]
theorem ptsL_take (R : List Rc) (k : Nat) : (ptsL (R.take k)).length ≤ (ptsL R).length := by
  have h : ptsL R = ptsL (R.take k) ++ ptsL (R.drop k) := by
    unfold ptsL
    rw [← List.flatMap_append, List.take_append_drop]
  rw [h, List.length_append]
  omega
/-- What Fill makes of a rectangle whose points are all the image's. -/
theorem cut_draw {W H : Nat} {q : Int} {L : List Int} (hl : L.length = W * H) (h1 : 1 ≤ W) {r : Rc} (hin : ∀ x y, hasB r.a r.b r.c r.d x y = true → InP W H (x, y)) {x0 y0 x1 y1 : Nat} (hcut : cutR r.a r.b r.c r.d 0 0 W H = ⟨x0, y0, x1, y1⟩)
    (hx : x0 ≤ x1) (hw : x1 ≤ W) (hy : y0 ≤ y1) (hh : y1 ≤ H) :
    fillR W x0 x1 q L (List.range' y0 (y1 - y0)) = drawP W (fun _ _ => q) L (rectP r.a r.b (nX r) (nY r)) ∧ areaI x0 y0 x1 y1 = ((rectP r.a r.b (nX r) (nY r)).length : Nat) := by
  have hmr : ∀ p, p ∈ rectP r.a r.b (nX r) (nY r) ↔ hasB r.a r.b r.c r.d p.1 p.2 = true := fun p => by
    rw [rectP_mem]
    unfold hasB nX nY
    simp only [decide_eq_true_eq]
    omega
  have hp : (rectP r.a r.b (nX r) (nY r)).Perm (rectP (x0 : Int) (y0 : Int) (x1 - x0) (y1 - y0)) := (List.perm_ext_iff_of_nodup (rectP_nodup _ _ _ _) (rectP_nodup _ _ _ _)).2 fun p => by
    rw [hmr]
    have h2 := cutR_has r.a r.b r.c r.d 0 0 W H p.1 p.2
    rw [hcut] at h2
    dsimp only at h2
    have h3 : p ∈ rectP (x0 : Int) (y0 : Int) (x1 - x0) (y1 - y0) ↔ hasB x0 y0 x1 y1 p.1 p.2 = true := by
      rw [rectP_mem]
      unfold hasB
      simp only [decide_eq_true_eq]
      omega
    rw [h3, h2]
    constructor
    · intro h
      obtain ⟨k1, k2, k3, k4⟩ := hin p.1 p.2 h
      rw [h]
      unfold hasB
      simp only [Bool.true_and, decide_eq_true_eq]
      exact ⟨k1, k2, k3, k4⟩
    · intro h
      exact (Bool.and_eq_true_iff.1 h).1
  refine ⟨?_, by rw [rectP_area hx hy, hp.length_eq]⟩
  rw [fill_draw hl h1 hx hw hy hh]
  exact (drawP_perm (W := W) (H := H) (fun _ _ => q) hp (fun p hp => hin p.1 p.2 ((hmr p).1 hp)) L).symm

end Go.Proofs.Ytafceieenhogpaa
