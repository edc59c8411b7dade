/-
  What is proved: the document's example holds of the code (lives).
-/
import Derived.Test.YtkmnibeggmkakaaA2
namespace Go.Proofs.Ytkmnibeggmkakaa
open Go.RowKit Go.Sort

set_option maxHeartbeats 1000000 in
theorem lives1 (w : World) :
    Calls Try.prog 21 #[] w (Rt w (.bool true)) := by
  have c1 : ∀ w, Calls Try.prog 59 #[.agg #[.int .i64 0, .int .i64 0, .int .i64 4, .int .i64 4], .agg #[.int .i64 3, .int .i64 3, .int .i64 8, .int .i64 8]] w (Rt w (.agg #[.int .i64 3, .int .i64 3, .int .i64 4, .int .i64 4])) := fun w => cut1 0 0 4 4 3 3 8 8 w
  have c2 : ∀ w, Calls Try.prog 59 #[.agg #[.int .i64 0, .int .i64 0, .int .i64 4, .int .i64 4], .agg #[.int .i64 4, .int .i64 0, .int .i64 8, .int .i64 4]] w (Rt w (.agg #[.int .i64 0, .int .i64 0, .int .i64 0, .int .i64 0])) := fun w => cut1 0 0 4 4 4 0 8 4 w
  go_enter Try.func21, Try.ntmps21
  go_wp2_with fail
  refine (c1 _).mono ?_
  rintro e W1 ⟨rfl, g1⟩
  have p0 : ∀ i, W1.cell? ⟨w.heap.size, i, none⟩ = #[Value.int .i64 0, .int .i64 0, .int .i64 4, .int .i64 4][i]? := fun i => (g1.cell (by simp; try omega)).trans (by go_simp)
  have p1 : ∀ i, W1.cell? ⟨w.heap.size + 1, i, none⟩ = #[Value.int .i64 4, .int .i64 0, .int .i64 8, .int .i64 4][i]? := fun i => (g1.cell (by simp; try omega)).trans (by go_simp)
  have z := g1.size
  simp at z
  have z0 : w.heap.size < W1.heap.size := by omega
  have z1 : w.heap.size + 1 < W1.heap.size := by omega
  clear z
  go_wp2_with fail
  refine (c2 _).mono ?_
  rintro e W2 ⟨rfl, g2⟩
  have q : ∀ i, W2.cell? ⟨W1.heap.size, i, none⟩ = #[Value.int .i64 3, .int .i64 3, .int .i64 4, .int .i64 4][i]? := fun i => (g2.cell (by simp; try omega)).trans (by go_simp)
  go_wp2
  go_ret
  refine Rt.bool (by simp) ?_
  exact ((((((Gr.refl w).alloc _).alloc _).alloc _).trans g1).alloc _).trans g2

end Go.Proofs.Ytkmnibeggmkakaa
