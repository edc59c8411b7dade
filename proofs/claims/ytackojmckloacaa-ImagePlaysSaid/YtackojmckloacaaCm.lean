/-
  What is proved: how parts of colors, colors one over the other and faded ones go together: plain arithmetic.
-/
import Derived.Test.YtackojmckloacaaCd
namespace Go.Proofs.Ytackojmckloacaa
open Go.RowKit Go.Sort

theorem cl_mono {a b : Int} (h : a ≤ b) : cl a ≤ cl b := by unfold cl; omega
theorem pt_comm (p q : Int) : pt q p = pt p q := by unfold pt; rw [Int.mul_comm]
theorem pt_255r (p : Int) : pt p 255 = cl p := by rw [pt_comm]; exact pt_255 p
theorem pt_0r (p : Int) : pt p 0 = 0 := by unfold pt; rw [show cl 0 = 0 from rfl, Int.mul_zero]; rfl
theorem pt_0 (q : Int) : pt 0 q = 0 := by rw [pt_comm]; exact pt_0r q
theorem pt_mono {p p' : Int} (q : Int) (h : p ≤ p') : pt p q ≤ pt p' q := by
  have h1 := cl_mono h
  have h2 := cl_by q
  unfold By at h2
  have := Int.mul_le_mul_of_nonneg_right h1 h2.1
  unfold pt; omega
theorem pt_mono_r (p : Int) {q q' : Int} (h : q ≤ q') : pt p q ≤ pt p q' := by rw [pt_comm q p, pt_comm q' p]; exact pt_mono p h
theorem pt_le (p q : Int) : pt p q ≤ cl p := by
  have h1 := cl_by p; have h2 := cl_by q
  unfold By at h1 h2
  have := Int.mul_le_mul_of_nonneg_left h2.2 h1.1
  unfold pt; omega
theorem may_mk (a r g b : Int) : mayC (mk a r g b) = decide (cl r ≤ cl a ∧ cl g ≤ cl a ∧ cl b ≤ cl a) := by unfold mayC; rw [pA_mk, pR_mk, pG_mk, pB_mk]
theorem may_gd (c : Int) : mayC (gd c) = true := by
  unfold gd; rw [may_mk]
  exact decide_eq_true ⟨cl_mono (by omega), cl_mono (by omega), cl_mono (by omega)⟩
theorem gd_c32 (c : Int) : C32 (gd c) := mk_c32 _ _ _ _
theorem ov_c32 (c d : Int) : C32 (ov c d) := mk_c32 _ _ _ _
theorem fd_c32 (c d : Int) : C32 (fd c d) := mk_c32 _ _ _ _
theorem pre_c32 (a r g b : Int) : C32 (pre a r g b) := mk_c32 _ _ _ _
theorem of_may {c : Int} (h : mayC c = true) : pR c ≤ pA c ∧ pG c ≤ pA c ∧ pB c ≤ pA c := by unfold mayC at h; simpa using h
theorem ovc_mono {a p p' q q' : Int} (h : p ≤ p') (k : q ≤ q') : ovc a p q ≤ ovc a p' q' := by
  have := pt_mono (255 - a) k
  unfold ovc; omega
theorem may_ov {x y : Int} (hx : mayC x = true) (hy : mayC y = true) : mayC (ov x y) = true := by
  obtain ⟨x1, x2, x3⟩ := of_may hx
  obtain ⟨y1, y2, y3⟩ := of_may hy
  unfold ov; rw [may_mk]
  exact decide_eq_true ⟨cl_mono (ovc_mono x1 y1), cl_mono (ovc_mono x2 y2), cl_mono (ovc_mono x3 y3)⟩
theorem may_fd {x : Int} (al : Int) (hx : mayC x = true) : mayC (fd x al) = true := by
  obtain ⟨x1, x2, x3⟩ := of_may hx
  unfold fd; rw [may_mk]
  exact decide_eq_true ⟨cl_mono (pt_mono _ x1), cl_mono (pt_mono _ x2), cl_mono (pt_mono _ x3)⟩
theorem may_pre (a r g b : Int) : mayC (pre a r g b) = true := by
  have h := fun p => cl_mono (show pt p a ≤ cl a from by rw [pt_comm]; exact pt_le a p)
  unfold pre; rw [may_mk]
  simp only [cl_cl] at h
  exact decide_eq_true ⟨h r, h g, h b⟩
theorem solid_ov {x y : Int} (hx : C32 x) (hy : pA y = 255) : pA (ov x y) = 255 := by
  have h := pA_by hx
  unfold ov; rw [pA_mk, hy]
  unfold ovc; rw [pt_255]
  unfold By at h; unfold cl; omega
theorem ov_solid {r g b : Int} (y : Int) (hr : By r) (hg : By g) (hb : By b) : ov (mk 255 r g b) y = mk 255 r g b := by
  unfold ov; rw [pA_mk, pR_mk, pG_mk, pB_mk, show cl 255 = 255 from rfl, cl_of hr, cl_of hg, cl_of hb]
  unfold ovc; simp only [Int.sub_self, pt_0r, Int.add_zero]
theorem ov_clear {y : Int} (hy : C32 y) : ov 0 y = y := by
  unfold ov; rw [show pA 0 = 0 from rfl, show pR 0 = 0 from rfl, show pG 0 = 0 from rfl, show pB 0 = 0 from rfl]
  unfold ovc; simp only [Int.sub_zero, pt_255r, Int.zero_add]
  rw [cl_of (pA_by hy), cl_of (pR_by y), cl_of (pG_by y), cl_of (pB_by y)]
  exact mk_parts hy
theorem ov_none {x : Int} (hx : C32 x) : ov x 0 = x := by
  unfold ov; rw [show pA 0 = 0 from rfl, show pR 0 = 0 from rfl, show pG 0 = 0 from rfl, show pB 0 = 0 from rfl]
  unfold ovc; simp only [pt_0, Int.add_zero]
  exact mk_parts hx
theorem fd_all {x : Int} (hx : C32 x) : fd x 255 = x := by
  unfold fd; simp only [pt_255r]
  rw [cl_of (pA_by hx), cl_of (pR_by x), cl_of (pG_by x), cl_of (pB_by x)]
  exact mk_parts hx
theorem fd_none (x : Int) : fd x 0 = 0 := by unfold fd; simp only [pt_0r]; rfl
/-- Over white, over black. -/
theorem ov_white {x : Int} (hx : C32 x) (hm : mayC x = true) : pA (ov x 4294967295) = 255 ∧ pR (ov x 4294967295) = pR x + (255 - pA x) ∧ pG (ov x 4294967295) = pG x + (255 - pA x) ∧ pB (ov x 4294967295) = pB x + (255 - pA x) := by
  obtain ⟨x1, x2, x3⟩ := of_may hm
  have h := pA_by hx
  have h1 := pR_by x; have h2 := pG_by x; have h3 := pB_by x
  unfold ov; rw [pA_mk, pR_mk, pG_mk, pB_mk, show pA 4294967295 = 255 from rfl, show pR 4294967295 = 255 from rfl, show pG 4294967295 = 255 from rfl, show pB 4294967295 = 255 from rfl]
  unfold ovc; simp only [pt_255]
  unfold By at *; unfold cl; omega
theorem ov_black {x : Int} (hx : C32 x) : pA (ov x 4278190080) = 255 ∧ pR (ov x 4278190080) = pR x ∧ pG (ov x 4278190080) = pG x ∧ pB (ov x 4278190080) = pB x := by
  have h := pA_by hx
  have h1 := pR_by x; have h2 := pG_by x; have h3 := pB_by x
  unfold ov; rw [pA_mk, pR_mk, pG_mk, pB_mk, show pA 4278190080 = 255 from rfl, show pR 4278190080 = 0 from rfl, show pG 4278190080 = 0 from rfl, show pB 4278190080 = 0 from rfl]
  unfold ovc; simp only [pt_255, pt_0]
  unfold By at *; unfold cl; omega
/-- What a color is over another one grows with that one. -/
theorem ov_grows (n : Int) {a b : Int} (h : a ≤ b) : pA (ov n (mk 255 a a a)) ≤ pA (ov n (mk 255 b b b)) ∧ pR (ov n (mk 255 a a a)) ≤ pR (ov n (mk 255 b b b)) ∧ pG (ov n (mk 255 a a a)) ≤ pG (ov n (mk 255 b b b)) ∧ pB (ov n (mk 255 a a a)) ≤ pB (ov n (mk 255 b b b)) := by
  have k := cl_mono h
  unfold ov
  simp only [pA_mk, pR_mk, pG_mk, pB_mk]
  exact ⟨Int.le_refl _, cl_mono (ovc_mono (Int.le_refl _) k), cl_mono (ovc_mono (Int.le_refl _) k), cl_mono (ovc_mono (Int.le_refl _) k)⟩

end Go.Proofs.Ytackojmckloacaa
