/-
  What is proved: what more calls of package color, and the document's, hand back.
-/
import Derived.Test.YtcohmcnhochimaaCb
import Derived.Laws.Cover1
namespace Go.Proofs.Ytcohmcnhochimaa
open Go.RowKit Go.Sort

attribute [local go_sem ↓] run_min2 run_max2

theorem cl_min (n : Int) : cl (min n 255) = cl n := by unfold cl; omega
theorem cl_cl (n : Int) : cl (cl n) = cl n := by unfold cl; omega
theorem cl_pt (p q : Int) : cl (pt p q) = pt p q := cl_of (pt_by p q)
theorem pt_cl (p q : Int) : pt (cl p) q = pt p q := by unfold pt; rw [cl_cl]
theorem pt_255 (q : Int) : pt 255 q = cl q := by unfold pt; rw [show cl 255 = 255 from rfl]; have := cl_by q; unfold By at this; omega
theorem pre_eq (a r g b : Int) : fd (mk 255 r g b) a = pre a r g b := by
  unfold fd pre
  rw [pA_mk, pR_mk, pG_mk, pB_mk, pt_cl, pt_cl, pt_cl, pt_cl, pt_255]
  unfold mk
  rw [cl_cl]

set_option maxHeartbeats 400000 in
theorem pre1 (a r g b : Int) (w : World) :
    Calls Try.prog 26 #[.int .i64 a, .int .i64 r, .int .i64 g, .int .i64 b] w (Rt w (.int .u32 (pre a r g b))) := by
  have f := fun w => fade1 (mk 255 r g b) a w (mk_c32 _ _ _ _)
  rw [pre_eq] at f
  have m := make1 255 r g b
  generalize mk 255 r g b = x at *
  go_enter Try.func26, Try.ntmps26
  go_wp2_with fail
  refine (m _).mono ?_
  rintro e w1 ⟨rfl, g1⟩
  go_wp2_with fail
  refine (f _).mono ?_
  rintro e w2 ⟨rfl, g2⟩
  go_wp2
  go_ret
  exact ⟨rfl, g1.trans g2⟩

set_option maxHeartbeats 400000 in
theorem refpre1 (a r g b : Int) (w : World) :
    Calls Try.prog 27 #[.int .i64 a, .int .i64 r, .int .i64 g, .int .i64 b] w (Rt w (.int .u32 (pre a r g b))) := by
  go_enter Try.func27, Try.ntmps27
  go_wp2_with fail
  refine (refpart1 _ _ _).mono ?_
  rintro e w1 ⟨rfl, g1⟩
  go_wp2_with fail
  refine (refpart1 _ _ _).mono ?_
  rintro e w2 ⟨rfl, g2⟩
  go_wp2_with fail
  refine (refpart1 _ _ _).mono ?_
  rintro e w3 ⟨rfl, g3⟩
  go_wp2_with fail
  refine (refmake1 _ _ _ _ _).mono ?_
  rintro e w4 ⟨rfl, g4⟩
  go_wp2
  go_ret
  exact ⟨rfl, ((g1.trans g2).trans g3).trans g4⟩

set_option maxHeartbeats 400000 in
theorem reffade1 (c al : Int) (w : World) (hc : C32 c) :
    Calls Try.prog 25 #[.int .u32 c, .int .i64 al] w (Rt w (.int .u32 (fd c al))) := by
  have ep := fun w => refparts1 c w hc
  unfold fd
  clear hc
  generalize pA c = a at *; generalize pR c = r at *; generalize pG c = g at *; generalize pB c = b at *
  go_enter Try.func25, Try.ntmps25
  go_wp2_with fail
  refine (ep _).mono ?_
  rintro e w1 ⟨rfl, g1⟩
  have bx := At.new w1 #[.int .i64 a, .int .i64 r, .int .i64 g, .int .i64 b] 24
  have k0 := fun n os => bx.cells n os 0; have k1 := fun n os => bx.cells n os 1; have k2 := fun n os => bx.cells n os 2; have k3 := fun n os => bx.cells n os 3
  simp at k0 k1 k2 k3
  replace g1 := g1.alloc (.cells #[.int .i64 a, .int .i64 r, .int .i64 g, .int .i64 b] 24)
  go_wp2
  obtain ⟨V, hV⟩ : ∃ V, V = w1.alloc (.cells #[.int .i64 a, .int .i64 r, .int .i64 g, .int .i64 b] 24) := ⟨_, rfl⟩
  rw [← hV] at k0 k1 k2 k3 g1 ⊢
  clear hV
  refine wp_region_quiet_grown (by kernel_rfl) (by kernel_rfl) ?_
  repeat (first | go_big_quiet_step (first | (go_at_call 20; exact Calls.grown (refpart1 _ _ _)) | (go_at_call 14; exact Calls.grown (refmake1 _ _ _ _ _))) | quiet_step (first | (go_at_call 20; exact Calls.grown (refpart1 _ _ _)) | (go_at_call 14; exact Calls.grown (refmake1 _ _ _ _ _))))
  refine wpQuiet_nil ?_
  intro W2 g8
  replace g8 : Gr _ W2 := g8
  go_wp2
  go_ret
  exact ⟨rfl, g1.trans g8⟩

theorem run_max3 {P : Program} {w : World} (ts : Array TypeId) (t : TypeId) (x y z : Int) : (Builtin.max_ ts t #[.int .i64 x, .int .i64 y, .int .i64 z]).run P w = .ok (.int .i64 (max (max x y) z)) w := by
  rw [run_max_int3]
  congr 2
  repeat' split
  all_goals omega
attribute [local go_sem ↓] run_max3
theorem may_l (c : Int) : decide (max (max (pR c) (pG c)) (pB c) ≤ pA c) = mayC c := by unfold mayC; rw [Bool.eq_iff_iff]; simp; omega

set_option maxHeartbeats 400000 in
theorem may1 (c : Int) (w : World) (hc : C32 c) :
    Calls Try.prog 15 #[.int .u32 c] w (Rt w (.bool (mayC c))) := by
  have ep := fun w => parts1 c w hc
  unfold mayC
  clear hc
  generalize pA c = a at *; generalize pR c = r at *; generalize pG c = g at *; generalize pB c = b at *
  go_enter Try.func15, Try.ntmps15
  go_wp2_with fail
  refine (ep _).mono ?_
  rintro e w1 ⟨rfl, g1⟩
  go_wp2
  all_goals
    go_ret
    refine Rt.bool ?_ (g1.alloc _)
    simp <;> omega

set_option maxHeartbeats 400000 in
theorem refmay1 (c : Int) (w : World) (hc : C32 c) :
    Calls Try.prog 16 #[.int .u32 c] w (Rt w (.bool (mayC c))) := by
  have ep := fun w => refparts1 c w hc
  unfold mayC
  clear hc
  generalize pA c = a at *; generalize pR c = r at *; generalize pG c = g at *; generalize pB c = b at *
  go_enter Try.func16, Try.ntmps16
  go_wp2_with fail
  refine (ep _).mono ?_
  rintro e w1 ⟨rfl, g1⟩
  go_wp2
  all_goals
    go_ret
    refine Rt.bool ?_ (g1.alloc _)
    simp <;> omega

set_option maxHeartbeats 400000 in
theorem solid1 (c : Int) (w : World) (hc : C32 c) :
    Calls Try.prog 17 #[.int .u32 c] w (Rt w (.bool (pA c == 255))) := by
  have ep := fun w => parts1 c w hc
  clear hc
  generalize pA c = a at *; generalize pR c = r at *; generalize pG c = g at *; generalize pB c = b at *
  have i0 : ∀ w, (Instr.index 24 (.agg #[.int .i64 a, .int .i64 r, .int .i64 g, .int .i64 b]) (.int .i64 0)).run Try.prog w = .ok (.int .i64 a) w := fun _ => by kernel_rfl
  go_enter Try.func17, Try.ntmps17
  go_wp2_with fail
  refine (ep _).mono ?_
  rintro e w1 ⟨rfl, g1⟩
  go_wp2
  go_ret
  exact ⟨rfl, g1⟩

set_option maxHeartbeats 400000 in
theorem good1 (c : Int) (w : World) (hc : C32 c) :
    Calls Try.prog 21 #[.int .u32 c] w (Rt w (.int .u32 (gd c))) := by
  have ep := fun w => refparts1 c w hc
  unfold gd
  clear hc
  generalize pA c = a at *; generalize pR c = r at *; generalize pG c = g at *; generalize pB c = b at *
  go_enter Try.func21, Try.ntmps21
  go_wp2_with fail
  refine (ep _).mono ?_
  rintro e w1 ⟨rfl, g1⟩
  go_wp2_with fail
  refine (refmake1 _ _ _ _ _).mono ?_
  rintro e w2 ⟨rfl, g2⟩
  go_wp2
  go_ret
  exact ⟨rfl, (g1.alloc _).trans g2⟩

set_option maxHeartbeats 400000 in
theorem lives1 (w : World) : Calls Try.prog 18 #[] w (Rt w (.bool true)) := by
  have o := fun w => over1 2155872256 4294967295 w (by unfold C32; omega) (by unfold C32; omega)
  rw [show ov 2155872256 4294967295 = 4294934399 from by decide] at o
  go_enter Try.func18, Try.ntmps18
  go_wp2_with fail
  refine (o _).mono ?_
  rintro e w1 ⟨rfl, g1⟩
  go_wp2
  go_ret
  exact ⟨rfl, g1⟩

end Go.Proofs.Ytcohmcnhochimaa
