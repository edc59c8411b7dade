/-
  What is proved: plain facts on moved and scaled rectangles; no Go in sight.
-/
import Derived.Test.YtafceieenhogpaaM2
import Derived.Test.YtafceieenhogpaaM5
namespace Go.Proofs.Ytafceieenhogpaa

theorem clamp_bd (n : Int) : -1048576 ≤ clamp n ∧ clamp n ≤ 1048576 := by unfold clamp; omega
theorem good_may (a b c d : Int) : mayB (goodR a b c d).a (goodR a b c d).b (goodR a b c d).c (goodR a b c d).d = true := by
  have h1 := clamp_bd a
  have h2 := clamp_bd b
  have h3 := clamp_bd c
  have h4 := clamp_bd d
  dsimp only [mayB, goodR]
  rw [decide_eq_true_eq]
  omega
theorem small_bd (a b c d : Int) : -4 ≤ (smallR a b c d).a ∧ (smallR a b c d).a ≤ 19 ∧ -4 ≤ (smallR a b c d).b ∧ (smallR a b c d).b ≤ 19 ∧ (smallR a b c d).a ≤ (smallR a b c d).c ∧ (smallR a b c d).c ≤ (smallR a b c d).a + 12 ∧
    (smallR a b c d).b ≤ (smallR a b c d).d ∧ (smallR a b c d).d ≤ (smallR a b c d).b + 12 := by
  have h1 := around_bd a 24 (by omega)
  have h2 := around_bd b 24 (by omega)
  have h3 := around_bd c 13 (by omega)
  have h4 := around_bd d 13 (by omega)
  dsimp only [smallR]
  omega
theorem may_bd {a b c d : Int} (h : mayB a b c d = true) : Bd a ∧ Bd b ∧ Bd c ∧ Bd d := by
  simp only [mayB, decide_eq_true_eq] at h
  unfold Bd
  omega
/-- Of a rectangle that is moved. -/
theorem move_area {a b c d x y : Int} (h : moveE a b c d x y = 0) : areaI (moveR a b c d x y).a (moveR a b c d x y).b (moveR a b c d x y).c (moveR a b c d x y).d = areaI a b c d ∧ mayB (moveR a b c d x y).a (moveR a b c d x y).b (moveR a b c d x y).c (moveR a b c d x y).d = true := by
  by_cases hB : moveB a b c d x y = true
  · obtain ⟨h1, h2, h3, h4, _⟩ := moveR_t hB
    rw [h1, h2, h3, h4]
    refine ⟨?_, ?_⟩
    · unfold areaI
      rw [show c + x - (a + x) = c - a from by omega, show d + y - (b + y) = d - b from by omega]
    · unfold moveB at hB; simp only [Bool.and_eq_true] at hB; exact hB.2
  · simp only [Bool.not_eq_true] at hB
    have := moveR_f hB
    omega
theorem scale_area {a b c d n : Int} (h : scaleE a b c d n = 0) : (1 ≤ n ∧ n ≤ 8) ∧ areaI (scaleR a b c d n).a (scaleR a b c d n).b (scaleR a b c d n).c (scaleR a b c d n).d = n * n * areaI a b c d ∧
    mayB (scaleR a b c d n).a (scaleR a b c d n).b (scaleR a b c d n).c (scaleR a b c d n).d = true ∧ mayB a b c d = true := by
  by_cases hn : n < 1 ∨ 8 < n
  · have := scaleR_o (a := a) (b := b) (c := c) (d := d) hn
    omega
  · have hn' : 1 ≤ n ∧ n ≤ 8 := by omega
    by_cases hB : scaleB a b c d n = true
    · obtain ⟨h1, h2, h3, h4, _⟩ := scaleR_t hn' hB
      rw [h1, h2, h3, h4]
      unfold scaleB at hB
      simp only [Bool.and_eq_true] at hB
      refine ⟨hn', ?_, hB.2, hB.1⟩
      unfold areaI
      rw [← Int.mul_sub, ← Int.mul_sub]
      rw [Int.mul_assoc n (c - a), Int.mul_left_comm (c - a) n (d - b), ← Int.mul_assoc]
    · simp only [Bool.not_eq_true] at hB
      have := scaleR_f hn' hB
      omega

end Go.Proofs.Ytafceieenhogpaa
