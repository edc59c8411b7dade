/-
  What is proved: what more calls of package color, and the document's, hand back.
-/
import Derived.Test.YtackojmckloacaaCb
import Derived.Laws.Cover1
namespace Go.Proofs.Ytackojmckloacaa
open Go.RowKit Go.Sort

attribute [local go_sem ↓] run_min2 run_max2

theorem cl_min (n : Int) : cl (min n 255) = cl n := by unfold cl; omega
theorem cl_cl (n : Int) : cl (cl n) = cl n := by unfold cl; omega
theorem cl_pt (p q : Int) : cl (pt p q) = pt p q := cl_of (pt_by p q)
theorem pt_cl (p q : Int) : pt (cl p) q = pt p q := by unfold pt; rw [cl_cl]
theorem pt_255 (q : Int) : pt 255 q = cl q := by unfold pt; rw [show cl 255 = 255 from rfl]; have := cl_by q; unfold By at this; omega
theorem pre_eq (a r g b : Int) : fd (mk 255 r g b) a = pre a r g b := by
  unfold fd pre
  rw [pA_mk, pR_mk, pG_mk, pB_mk, pt_cl, pt_cl, pt_cl, pt_cl, pt_255]
  unfold mk
  rw [cl_cl]

theorem run_max3 {P : Program} {w : World} (ts : Array TypeId) (t : TypeId) (x y z : Int) : (Builtin.max_ ts t #[.int .i64 x, .int .i64 y, .int .i64 z]).run P w = .ok (.int .i64 (max (max x y) z)) w := by
  rw [run_max_int3]
  congr 2
  repeat' split
  all_goals omega
attribute [local go_sem ↓] run_max3
theorem may_l (c : Int) : decide (max (max (pR c) (pG c)) (pB c) ≤ pA c) = mayC c := by unfold mayC; rw [Bool.eq_iff_iff]; simp; omega

set_option maxHeartbeats 400000 in
theorem cmay1 (c : Int) (w : World) (hc : C32 c) :
    Calls Try.prog 25 #[.int .u32 c] w (Rt w (.bool (mayC c))) := by
  have ep := fun w => parts1 c w hc
  unfold mayC
  clear hc
  generalize pA c = a at *; generalize pR c = r at *; generalize pG c = g at *; generalize pB c = b at *
  go_enter Try.func25, Try.ntmps25
  go_wp2_with fail
  refine (ep _).mono ?_
  rintro e w1 ⟨rfl, g1⟩
  go_wp2
  all_goals
    go_ret
    refine Rt.bool ?_ (g1.alloc _)
    simp <;> omega

set_option maxHeartbeats 400000 in
theorem refcmay1 (c : Int) (w : World) (hc : C32 c) :
    Calls Try.prog 21 #[.int .u32 c] w (Rt w (.bool (mayC c))) := by
  have ep := fun w => refparts1 c w hc
  unfold mayC
  clear hc
  generalize pA c = a at *; generalize pR c = r at *; generalize pG c = g at *; generalize pB c = b at *
  go_enter Try.func21, Try.ntmps21
  go_wp2_with fail
  refine (ep _).mono ?_
  rintro e w1 ⟨rfl, g1⟩
  go_wp2
  all_goals
    go_ret
    refine Rt.bool ?_ (g1.alloc _)
    simp <;> omega

set_option maxHeartbeats 400000 in
theorem cgood1 (c : Int) (w : World) (hc : C32 c) :
    Calls Try.prog 18 #[.int .u32 c] w (Rt w (.int .u32 (gd c))) := by
  have ep := fun w => refparts1 c w hc
  unfold gd
  clear hc
  generalize pA c = a at *; generalize pR c = r at *; generalize pG c = g at *; generalize pB c = b at *
  go_enter Try.func18, Try.ntmps18
  go_wp2_with fail
  refine (ep _).mono ?_
  rintro e w1 ⟨rfl, g1⟩
  go_wp2_with fail
  refine (refmake1 _ _ _ _ _).mono ?_
  rintro e w2 ⟨rfl, g2⟩
  go_wp2
  go_ret
  exact ⟨rfl, (g1.alloc _).trans g2⟩

end Go.Proofs.Ytackojmckloacaa
