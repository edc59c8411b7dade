/-
  What is proved: Around, Few, Good, May of the document's packages; May of package frame. No conditions but bounds.
-/
import Derived.Test.YthkbenhlhldglaaDoorOb
import Derived.Test.YthkbenhlhldglaaDoorOcf
namespace Go.Proofs.YthkbenhlhldglaaDoor
open Go.RowKit Go.Sort

/-- A message made one that may be. -/
def goodM (m : Ms) (n : Nat) : Ms := ⟨max (m.op.tmod 256) (-(m.op.tmod 256)), max (m.id.tmod 4294967296) (-(m.id.tmod 4294967296)), m.body.take n⟩
theorem tmod_bd (x n : Int) (h : 0 < n) : -n < x.tmod n ∧ x.tmod n < n := by
  rcases Int.le_total 0 x with hx | hx
  · rw [Int.tmod_eq_emod_of_nonneg hx]
    have := Int.emod_nonneg x (b := n) (by omega)
    have := Int.emod_lt_of_pos x h
    omega
  · have e : x = -(-x) := by omega
    rw [e, Int.neg_tmod, Int.tmod_eq_emod_of_nonneg (by omega : 0 ≤ -x)]
    have := Int.emod_nonneg (-x) (b := n) (by omega)
    have := Int.emod_lt_of_pos (-x) h
    omega
theorem goodM_ok (m : Ms) {n : Nat} (hn : n ≤ 4096) : okM (goodM m n) := by
  have h1 := tmod_bd m.op 256 (by omega)
  have h2 := tmod_bd m.id 4294967296 (by omega)
  unfold okM goodM
  dsimp only
  rw [List.length_take]
  omega
theorem goodM_len (m : Ms) (n : Nat) : (goodM m n).body.length ≤ n := by
  unfold goodM; dsimp only; rw [List.length_take]; omega
attribute [local go_sem ↓] run_min2 run_max2

theorem decB {p : Prop} [Decidable p] {b : Bool} (h : b = true ↔ p) : b = decide p := by
  by_cases hp : p
  · rw [h.2 hp]; simp [hp]
  · cases b with
    | true => exact absurd (h.1 rfl) hp
    | false => simp [hp]
set_option maxRecDepth 100000 in
set_option maxHeartbeats 1000000 in
theorem rmayM1 (A : Option Addr) (c : Nat) (m : Ms) (w : World) :
    Calls Tryd.prog 43 #[.agg #[.int .i64 m.op, .int .i64 m.id, .slice A m.body.length c]] w (Rt w (.bool (mayM m))) := by
  obtain ⟨op, id, body⟩ := m
  unfold mayM
  dsimp only
  generalize body.length = n
  go_enter Tryd.func43, Tryd.ntmps43
  go_wp2
  all_goals
    go_ret
    refine Rt.bool ?_ ?_
    · simp [*]; try omega
    · first | exact ((Gr.refl _).alloc _) | exact ((Gr.refl _).alloc _).drew | exact (((Gr.refl _).alloc _).drewN _)
set_option maxRecDepth 100000 in
set_option maxHeartbeats 1000000 in
theorem fmay1 (A : Option Addr) (c : Nat) (m : Ms) (w : World) :
    Calls Tryd.prog 74 #[.agg #[.int .i64 m.op, .int .i64 m.id, .slice A m.body.length c]] w (Rt w (.bool (mayM m))) := by
  obtain ⟨op, id, body⟩ := m
  unfold mayM
  dsimp only
  generalize body.length = n
  go_enter Tryd.func74, Tryd.ntmps74
  go_wp2
  all_goals
    go_ret
    refine Rt.bool ?_ ?_
    · simp [*]; try omega
    · first | exact ((Gr.refl _).alloc _) | exact ((Gr.refl _).alloc _).drew | exact (((Gr.refl _).alloc _).drewN _)

end Go.Proofs.YthkbenhlhldglaaDoor
