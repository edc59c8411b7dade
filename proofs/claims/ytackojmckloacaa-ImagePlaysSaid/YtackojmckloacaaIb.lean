/-
  What is proved: what more calls of package rect, and of the document's answers, hand back (for an image's seat).
-/
import Derived.Test.YtackojmckloacaaIa
import Derived.Lib.Hide
import Derived.IntWalk
namespace Go.Proofs.Ytackojmckloacaa
open Go.RowKit Go.Sort

attribute [local go_sem] cell?_grow frozen?_grow nlt_r

set_option maxHeartbeats 1000000 in
theorem refcovers1 (a b c d a' b' c' d' : Int) (w : World) :
    Calls Try.prog 32 #[.agg #[.int .i64 a, .int .i64 b, .int .i64 c, .int .i64 d], .agg #[.int .i64 a', .int .i64 b', .int .i64 c', .int .i64 d']] w (Rt w (.bool (coversB a b c d a' b' c' d'))) := by
  go_enter Try.func32, Try.ntmps32
  go_wp2_with fail
  refine (refempty1 _ _ _ _ _).mono ?_
  rintro e w' ⟨rfl, ⟨⟨n, os⟩, rfl⟩⟩
  go_wp2
  all_goals
    go_ret
    refine Rt.bool ?_ ?_
    · simp [coversB, *] <;> omega
    · repeat (first | with_reducible exact Gr.refl _ | with_reducible apply Gr.drew | with_reducible apply Gr.drewN | with_reducible apply Gr.grow | with_reducible apply Gr.alloc | (with_reducible refine Gr.setCell ?_ ?_ _; rotate_left; (simp; try omega)))

end Go.Proofs.Ytackojmckloacaa
