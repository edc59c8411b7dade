/-
  What is proved: what the calls of package rect, and of the document's answers, hand back.
-/
import Derived.Test.YteljpabhcmihoaaDoorA2
import Derived.Deep.RegionHeld3
import Derived.IntWalk
import Derived.Deep.DeepCutAuto
namespace Go.Proofs.YteljpabhcmihoaaDoor
open Go.RowKit Go.Sort

attribute [local go_sem] cell?_grow frozen?_grow nlt_r
attribute [local go_sem ↓] run_min2 run_max2

set_option maxHeartbeats 2000000 in
theorem small1 (a b c d : Int) (w : World) (ha : I64 a) (hb : I64 b) (hc : I64 c) (hd : I64 d) :
    Calls Tryd.prog 31 #[.agg #[.int .i64 a, .int .i64 b, .int .i64 c, .int .i64 d]] w
      (Rt w (.agg #[.int .i64 (smallR a b c d).a, .int .i64 (smallR a b c d).b, .int .i64 (smallR a b c d).c, .int .i64 (smallR a b c d).d])) := by
  have A0 := around_bd a 24 (by omega)
  have B0 := around_bd b 24 (by omega)
  have C0 := around_bd c 13 (by omega)
  have D0 := around_bd d 13 (by omega)
  obtain ⟨A1, A2⟩ := A0
  obtain ⟨B1, B2⟩ := B0
  obtain ⟨C1, C2⟩ := C0
  obtain ⟨D1, D2⟩ := D0
  go_enter Tryd.func31, Tryd.ntmps31
  go_wp2_with fail
  refine (around1 _ _ _ ha (by omega)).mono ?_
  rintro e w' ⟨rfl, rfl⟩
  go_wp2_with fail
  refine (around1 _ _ _ hb (by omega)).mono ?_
  rintro e w' ⟨rfl, rfl⟩
  go_wp2_with fail
  go_region_held3 (fun w' => w'.cell? ⟨w.heap.size, 2, none⟩ = some (.int .i64 c) ∧ w'.cell? ⟨w.heap.size, 3, none⟩ = some (.int .i64 d)) (go_keep)
    (first | (go_at_call_of 12 (Value.int IntKind.i64 c); refine (around1 _ _ _ hc (by omega)).mono ?_; rintro e w' ⟨rfl, rfl⟩) | (go_at_call_of 12 (Value.int IntKind.i64 d); refine (around1 _ _ _ hd (by omega)).mono ?_; rintro e w' ⟨rfl, rfl⟩))
  all_goals go_wp2
  all_goals
    go_returns
    refine Rt.rect (by unfold smallR; refine ⟨rfl, rfl, ?_, ?_⟩ <;> simp only [] <;> first | rfl | exact (IntWalk.i64_in _ (by omega)).symm) ?_
    repeat (first | with_reducible exact Gr.refl _ | with_reducible apply Gr.drew | with_reducible apply Gr.drewN | with_reducible apply Gr.grow | with_reducible apply Gr.alloc | (with_reducible refine Gr.setCell ?_ ?_ _; rotate_left; (simp; try omega)))

end Go.Proofs.YteljpabhcmihoaaDoor
