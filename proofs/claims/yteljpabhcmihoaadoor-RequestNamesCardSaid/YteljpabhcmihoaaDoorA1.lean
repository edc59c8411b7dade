/-
  What is proved: what the calls of package rect hand back.
-/
import Derived.Test.YteljpabhcmihoaaDoorGr
namespace Go.Proofs.YteljpabhcmihoaaDoor
open Go.RowKit Go.Sort

def mayB (a b c d : Int) : Bool := decide (-1048576 ≤ a ∧ a ≤ c ∧ c ≤ 1048576 ∧ -1048576 ≤ b ∧ b ≤ d ∧ d ≤ 1048576)
def emptyB (a b c d : Int) : Bool := decide (c ≤ a ∨ d ≤ b)
def hasB (a b c d x y : Int) : Bool := decide (a ≤ x ∧ x < c ∧ b ≤ y ∧ y < d)
def inB (a : Int) : Bool := decide (-1048576 ≤ a ∧ a ≤ 1048576)

set_option maxHeartbeats 400000 in
theorem may1 (a b c d : Int) (w : World) :
    Calls Tryd.prog 87 #[.agg #[.int .i64 a, .int .i64 b, .int .i64 c, .int .i64 d]] w (Rt w (.bool (mayB a b c d))) := by
  go_enter Tryd.func87, Tryd.ntmps87
  go_wp2
  all_goals
    go_ret
    refine Rt.bool ?_ ?_
    · simp [mayB] <;> omega
    · repeat (first | with_reducible exact Gr.refl _ | with_reducible apply Gr.drew | with_reducible apply Gr.drewN | with_reducible apply Gr.grow | with_reducible apply Gr.alloc | (with_reducible refine Gr.setCell ?_ ?_ _; rotate_left; (simp; try omega)))

set_option maxHeartbeats 400000 in
theorem empty1 (a b c d : Int) (w : World) :
    Calls Tryd.prog 86 #[.agg #[.int .i64 a, .int .i64 b, .int .i64 c, .int .i64 d]] w (Rt w (.bool (emptyB a b c d))) := by
  go_enter Tryd.func86, Tryd.ntmps86
  go_wp2
  all_goals
    go_ret
    refine Rt.bool ?_ ?_
    · simp [emptyB] <;> omega
    · repeat (first | with_reducible exact Gr.refl _ | with_reducible apply Gr.drew | with_reducible apply Gr.drewN | with_reducible apply Gr.grow | with_reducible apply Gr.alloc | (with_reducible refine Gr.setCell ?_ ?_ _; rotate_left; (simp; try omega)))

set_option maxHeartbeats 400000 in
theorem refempty1 (a b c d : Int) (w : World) :
    Calls Tryd.prog 58 #[.agg #[.int .i64 a, .int .i64 b, .int .i64 c, .int .i64 d]] w (Rt w (.bool (emptyB a b c d))) := by
  go_enter Tryd.func58, Tryd.ntmps58
  go_wp2
  all_goals
    go_ret
    refine Rt.bool ?_ ?_
    · simp [emptyB] <;> omega
    · repeat (first | with_reducible exact Gr.refl _ | with_reducible apply Gr.drew | with_reducible apply Gr.drewN | with_reducible apply Gr.grow | with_reducible apply Gr.alloc | (with_reducible refine Gr.setCell ?_ ?_ _; rotate_left; (simp; try omega)))

set_option maxHeartbeats 400000 in
theorem refin1 (a : Int) (w : World) :
    Calls Tryd.prog 79 #[.int .i64 a] w (Rt w (.bool (inB a))) := by
  go_enter Tryd.func79, Tryd.ntmps79
  go_wp2
  all_goals
    go_ret
    refine Rt.bool ?_ ?_
    · simp [inB] <;> omega
    · repeat (first | with_reducible exact Gr.refl _ | with_reducible apply Gr.drew | with_reducible apply Gr.drewN | with_reducible apply Gr.grow | with_reducible apply Gr.alloc | (with_reducible refine Gr.setCell ?_ ?_ _; rotate_left; (simp; try omega)))

end Go.Proofs.YteljpabhcmihoaaDoor
