/-
  What is proved: the same calls of a row without rectangles.
-/
import Derived.Test.YtdijfbmccnficaaP3
namespace Go.Proofs.Ytdijfbmccnficaa
open Go.RowKit Go.Sort

set_option maxHeartbeats 1000000 in
theorem hull0 (A : Option Addr) (cap : Nat) (w : World) : Calls Try.prog 24 #[.slice A 0 cap] w (Rt w (.agg #[.int .i64 0, .int .i64 0, .int .i64 0, .int .i64 0])) := by
  go_enter Try.func24, Try.ntmps24
  go_wp2
  go_rounds 1
  go_returns
  refine ⟨rfl, ?_⟩
  repeat (first | with_reducible exact Gr.refl _ | with_reducible apply Gr.drew | with_reducible apply Gr.alloc | (with_reducible refine Gr.setCell ?_ ?_ _; rotate_left; (simp; try omega)))

set_option maxHeartbeats 1000000 in
theorem refhull0 (A : Option Addr) (cap : Nat) (w : World) : Calls Try.prog 25 #[.slice A 0 cap] w (Rt w (.agg #[.int .i64 0, .int .i64 0, .int .i64 0, .int .i64 0])) := by
  go_enter Try.func25, Try.ntmps25
  go_wp2
  go_rounds 1
  go_returns
  refine ⟨rfl, ?_⟩
  repeat (first | with_reducible exact Gr.refl _ | with_reducible apply Gr.drew | with_reducible apply Gr.alloc | (with_reducible refine Gr.setCell ?_ ?_ _; rotate_left; (simp; try omega)))

set_option maxHeartbeats 1000000 in
theorem hulls_zero (A : Option Addr) (cap : Nat) (w : World) : Calls Try.prog 5 #[.slice A 0 cap] w fun e w' => e = .returned (.bool true) ∧ Below w.heap.size w w' := by
  have mixed : Try.prog.follows .mixedOrders = true := by kernel_rfl
  have L := lives1
  have Z := refhull0 none 0
  go_enter Try.func5, Try.ntmps5
  go_wp2
  refine wp_loop_rounds 1 ?_
  rw [rounds_succ]
  go_wp2_with fail
  refine (hull0 _ _ _).mono ?_
  rintro e W1 ⟨rfl, g1⟩
  go_wp2_with fail
  refine (refhull0 _ _ _).mono ?_
  rintro e W2 ⟨rfl, g2⟩
  go_wp2_with fail
  refine (hull0 _ _ _).mono ?_
  rintro e W3 ⟨rfl, g3⟩
  have H := At.new W3 #[Value.int .i64 0, .int .i64 0, .int .i64 0, .int .i64 0] 23
  have B : Below w.heap.size w (W3.alloc (.cells #[Value.int .i64 0, .int .i64 0, .int .i64 0, .int .i64 0] 23)) := (((g1.trans g2).trans g3).alloc _).below
  have zB := B.size
  clear g1 g2 g3
  go_wp2
  refine wp_loop_rounds 1 ?_
  rw [rounds_succ]
  go_wp2
  have kH := H.cells
  refine wp_region_quiet_grown (by assumption) (by kernel_rfl) ?_
  repeat (first | go_big_quiet_step ((first | (go_at_call 25; exact Calls.grown (Z _)) | (go_at_call 16; exact Calls.grown (L _)))) | quiet_step ((first | (go_at_call 25; exact Calls.grown (Z _)) | (go_at_call 16; exact Calls.grown (L _)))))
  refine wpQuiet_nil ?_
  intro W8 g8
  replace g8 : Gr _ W8 := g8
  go_wp2
  go_ret
  exact ⟨by simp, B.trans (g8.below.mono zB)⟩

end Go.Proofs.Ytdijfbmccnficaa
