/-
  What is proved: what Same of package frame, and the document's, hand back of two messages that are the same; SameAll of two rows of the same messages. No conditions but bounds.
-/
import Derived.Test.YteljpabhcmihoaaDoorOi
import Derived.Test.YteljpabhcmihoaaDoorShc
import Derived.Test.YteljpabhcmihoaaDoorOcl
namespace Go.Proofs.YteljpabhcmihoaaDoor
open Go.RowKit Go.Sort

set_option maxRecDepth 100000 in
set_option maxHeartbeats 4000000 in
theorem rsame1 (A A2 : Option Addr) (c c2 : Nat) (m : Ms) (w : World) (hA : RwB w A m.body) (hA2 : RwB w A2 m.body) :
    Calls Tryd.prog 19 #[.agg #[.int .i64 m.op, .int .i64 m.id, .slice A m.body.length c], .agg #[.int .i64 m.op, .int .i64 m.id, .slice A2 m.body.length c2]] w (Rt w (.bool true)) := by
  obtain ⟨op, id, body⟩ := m
  dsimp only at *
  have g : Gr w ((w.alloc (.cells #[.int .i64 op, .int .i64 id, .slice A body.length c] 24)).alloc (.cells #[.int .i64 op, .int .i64 id, .slice A2 body.length c2] 24)) := ((Gr.refl w).alloc _).alloc _
  have t1 := Sv.text (c := c) (hA.bl g.bl)
  have t2 := Sv.text (c := c2) (hA2.bl g.bl)
  generalize strOfNums body = S at *
  generalize body.length = n at *
  clear hA hA2
  go_enter Tryd.func19, Tryd.ntmps19
  go_wp2
  go_ret
  exact ⟨by simp, g⟩

end Go.Proofs.YteljpabhcmihoaaDoor
