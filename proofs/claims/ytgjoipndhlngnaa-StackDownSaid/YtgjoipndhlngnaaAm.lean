/-
  What is proved: Around of the document's packages. No conditions but bounds.
-/
import Derived.Test.YtgjoipndhlngnaaGw
namespace Go.Proofs.Ytgjoipndhlngnaa
open Go.RowKit Go.Sort

/-- A number made one of 0 to m - 1. -/
def aroundM (n m : Int) : Int := if n < 0 then (-(n + 1)) % m else n % m
theorem aroundM_bd (n m : Int) (hm : 0 < m) : 0 ≤ aroundM n m ∧ aroundM n m < m := by
  unfold aroundM
  split
  · exact ⟨Int.emod_nonneg _ (by omega), Int.emod_lt_of_pos _ hm⟩
  · exact ⟨Int.emod_nonneg _ (by omega), Int.emod_lt_of_pos _ hm⟩
set_option maxHeartbeats 400000 in
theorem aroundM1 (n m : Int) (w : World) (hn : I64 n) (hm : 1 ≤ m ∧ m ≤ 1000000) :
    Calls Try.prog 21 #[.int .i64 n, .int .i64 m] w fun e w' => e = .returned (.int .i64 (aroundM n m)) ∧ w = w' := by
  obtain ⟨hn1, hn2⟩ := hn
  obtain ⟨hm1, hm2⟩ := hm
  go_enter Try.func21, Try.ntmps21
  go_wp2
  all_goals
    go_ret
    refine ⟨ret_int ?_, rfl⟩
    unfold aroundM
    first | (rw [if_pos ‹_›, ← Int.neg_tmod, Int.tmod_eq_emod_of_nonneg (by omega)]) | (rw [if_neg (by omega), Int.tmod_eq_emod_of_nonneg (by omega)]) | rw [if_pos ‹_›] | rw [if_neg (by omega)]

end Go.Proofs.Ytgjoipndhlngnaa
