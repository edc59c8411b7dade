/-
  What is proved: what the calls of package rect hand back.
-/
import Derived.Test.YtackojmckloacaaGr
namespace Go.Proofs.Ytackojmckloacaa
open Go.RowKit Go.Sort

def mayB (a b c d : Int) : Bool := decide (-1048576 ≤ a ∧ a ≤ c ∧ c ≤ 1048576 ∧ -1048576 ≤ b ∧ b ≤ d ∧ d ≤ 1048576)
def emptyB (a b c d : Int) : Bool := decide (c ≤ a ∨ d ≤ b)
def hasB (a b c d x y : Int) : Bool := decide (a ≤ x ∧ x < c ∧ b ≤ y ∧ y < d)
def inB (a : Int) : Bool := decide (-1048576 ≤ a ∧ a ≤ 1048576)

set_option maxHeartbeats 400000 in
theorem empty1 (a b c d : Int) (w : World) :
    Calls Try.prog 42 #[.agg #[.int .i64 a, .int .i64 b, .int .i64 c, .int .i64 d]] w (Rt w (.bool (emptyB a b c d))) := by
  go_enter Try.func42, Try.ntmps42
  go_wp2
  all_goals
    go_ret
    refine Rt.bool ?_ ?_
    · simp [emptyB] <;> omega
    · repeat (first | with_reducible exact Gr.refl _ | with_reducible apply Gr.drew | with_reducible apply Gr.drewN | with_reducible apply Gr.grow | with_reducible apply Gr.alloc | (with_reducible refine Gr.setCell ?_ ?_ _; rotate_left; (simp; try omega)))

set_option maxHeartbeats 400000 in
theorem has1 (a b c d x y : Int) (w : World) :
    Calls Try.prog 23 #[.agg #[.int .i64 a, .int .i64 b, .int .i64 c, .int .i64 d], .int .i64 x, .int .i64 y] w (Rt w (.bool (hasB a b c d x y))) := by
  go_enter Try.func23, Try.ntmps23
  go_wp2
  all_goals
    go_ret
    refine Rt.bool ?_ ?_
    · simp [hasB] <;> omega
    · repeat (first | with_reducible exact Gr.refl _ | with_reducible apply Gr.drew | with_reducible apply Gr.drewN | with_reducible apply Gr.grow | with_reducible apply Gr.alloc | (with_reducible refine Gr.setCell ?_ ?_ _; rotate_left; (simp; try omega)))

set_option maxHeartbeats 400000 in
theorem refempty1 (a b c d : Int) (w : World) :
    Calls Try.prog 34 #[.agg #[.int .i64 a, .int .i64 b, .int .i64 c, .int .i64 d]] w (Rt w (.bool (emptyB a b c d))) := by
  go_enter Try.func34, Try.ntmps34
  go_wp2
  all_goals
    go_ret
    refine Rt.bool ?_ ?_
    · simp [emptyB] <;> omega
    · repeat (first | with_reducible exact Gr.refl _ | with_reducible apply Gr.drew | with_reducible apply Gr.drewN | with_reducible apply Gr.grow | with_reducible apply Gr.alloc | (with_reducible refine Gr.setCell ?_ ?_ _; rotate_left; (simp; try omega)))

set_option maxHeartbeats 400000 in
theorem refhas1 (a b c d x y : Int) (w : World) :
    Calls Try.prog 26 #[.agg #[.int .i64 a, .int .i64 b, .int .i64 c, .int .i64 d], .int .i64 x, .int .i64 y] w (Rt w (.bool (hasB a b c d x y))) := by
  go_enter Try.func26, Try.ntmps26
  go_wp2
  all_goals
    go_ret
    refine Rt.bool ?_ ?_
    · simp [hasB] <;> omega
    · repeat (first | with_reducible exact Gr.refl _ | with_reducible apply Gr.drew | with_reducible apply Gr.drewN | with_reducible apply Gr.grow | with_reducible apply Gr.alloc | (with_reducible refine Gr.setCell ?_ ?_ _; rotate_left; (simp; try omega)))

end Go.Proofs.Ytackojmckloacaa
