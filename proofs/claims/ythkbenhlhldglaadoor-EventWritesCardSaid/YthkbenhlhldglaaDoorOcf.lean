/-
  What is proved: Around and Few of the document's packages. No conditions but bounds.
-/
import Derived.Test.YthkbenhlhldglaaDoorOba
namespace Go.Proofs.YthkbenhlhldglaaDoor
open Go.RowKit Go.Sort

/-- A number made one of 0 to m - 1. -/
def aroundM (n m : Int) : Int := if n < 0 then (-(n + 1)) % m else n % m
theorem aroundM_bd (n m : Int) (hm : 0 < m) : 0 ≤ aroundM n m ∧ aroundM n m < m := by
  unfold aroundM
  split
  · exact ⟨Int.emod_nonneg _ (by omega), Int.emod_lt_of_pos _ hm⟩
  · exact ⟨Int.emod_nonneg _ (by omega), Int.emod_lt_of_pos _ hm⟩
set_option maxHeartbeats 400000 in
theorem aroundM1 (n m : Int) (w : World) (hn : I64 n) (hm : 1 ≤ m ∧ m ≤ 1000000) :
    Calls Tryd.prog 15 #[.int .i64 n, .int .i64 m] w fun e w' => e = .returned (.int .i64 (aroundM n m)) ∧ w = w' := by
  obtain ⟨hn1, hn2⟩ := hn
  obtain ⟨hm1, hm2⟩ := hm
  go_enter Tryd.func15, Tryd.ntmps15
  go_wp2
  all_goals
    go_ret
    refine ⟨ret_int ?_, rfl⟩
    unfold aroundM
    first | (rw [if_pos ‹_›, ← Int.neg_tmod, Int.tmod_eq_emod_of_nonneg (by omega)]) | (rw [if_neg (by omega), Int.tmod_eq_emod_of_nonneg (by omega)]) | rw [if_pos ‹_›] | rw [if_neg (by omega)]

theorem fewB1 (A : Option Addr) (c : Nat) (L : List Int) (n : Nat) (m : Int) (hm : m = n) (w : World) (hA : AdB A L) (hc : L.length ≤ c) (hcm : c ≤ maxLen) (hn : n ≤ 100000) :
    Calls Tryd.prog 12 #[.slice A L.length c, .int .i64 m] w fun e w' => e = .returned (.slice A (L.take n).length c) ∧ w = w' := by
  subst hm
  have hcm2 : c ≤ 9223372036854775807 := by unfold maxLen at hcm; omega
  clear hcm
  by_cases h : n < L.length
  · obtain ⟨b, off, rfl⟩ : ∃ b off, A = some ⟨b, off, none⟩ := by
      rcases hA with hA | hA
      · subst hA; simp at h
      · exact hA
    have e : (L.take n).length = n := by rw [List.length_take]; omega
    rw [e]
    clear e
    generalize L.length = N at *
    have h' : (n : Int) < (N : Int) := by omega
    go_enter Tryd.func12, Tryd.ntmps12
    go_wp2
    go_ret
    exact ⟨rfl, rfl⟩
  · have e : (L.take n).length = L.length := by rw [List.length_take]; omega
    rw [e]
    clear e
    generalize L.length = N at *
    have h' : ¬ (n : Int) < (N : Int) := by omega
    go_enter Tryd.func12, Tryd.ntmps12
    go_wp2
    go_ret
    exact ⟨rfl, rfl⟩

end Go.Proofs.YthkbenhlhldglaaDoor
