/-
  What is proved: what as, like and lives of the statements hand back. No conditions but bounds.
-/
import Derived.Test.YthkbenhlhldglaaDoorZj
import Derived.Test.YthkbenhlhldglaaDoorZg
import Derived.Test.YthkbenhlhldglaaDoorZka
namespace Go.Proofs.YthkbenhlhldglaaDoor
open Go.RowKit Go.Sort

set_option maxRecDepth 100000 in
set_option maxHeartbeats 2000000 in
theorem qlike1 (r q : Rq) (d e : Value) (w : World) (hr : Sv w d r.d) (hq : Sv w e q.d) (br : ByL r.d) (bq : ByL q.d) : Calls Tryd.prog 18 #[vQ r d, vQ q e] w (Rt w (.bool (sameQ r q))) := by
  have c1 := fun V (g : Bl w V) => rsameQ1 r q d e V (hr.bl g) (hq.bl g) br bq
  obtain ⟨A, c, rfl, _⟩ := hr
  obtain ⟨B, k, rfl, _⟩ := hq
  generalize sameQ r q = b at *
  unfold vQ at *
  generalize r.d.length = n at *
  generalize q.d.length = m at *
  go_enter Tryd.func18, Tryd.ntmps18
  go_wp2_with fail
  refine (c1 _ (((((Bl.refl w).alloc _).alloc _).alloc _))).mono ?_
  rintro e w1 ⟨rfl, g1⟩
  go_wp2
  go_ret
  exact ⟨rfl, ((((Gr.refl w).alloc _).alloc _).alloc _).trans g1⟩

end Go.Proofs.YthkbenhlhldglaaDoor
