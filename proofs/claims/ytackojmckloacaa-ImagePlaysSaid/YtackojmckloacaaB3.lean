/-
  What is proved: what Covers hands back.
-/
import Derived.Test.YtackojmckloacaaA2
namespace Go.Proofs.Ytackojmckloacaa
open Go.RowKit Go.Sort

theorem covers_of (a b c d a' b' c' d' : Int) {t : Bool} (e : emptyB a' b' c' d' = false) (h : t = true ↔ ((cutR a b c d a' b' c' d').a = a' ∧ (cutR a b c d a' b' c' d').b = b' ∧ (cutR a b c d a' b' c' d').c = c' ∧ (cutR a b c d a' b' c' d').d = d')) :
    t = true ↔ coversB a b c d a' b' c' d' = true := by
  rw [h]
  unfold coversB cutR
  simp only [e, Bool.false_or, decide_eq_true_eq]
  simp [emptyB] at e
  by_cases e' : emptyB (max a a') (max b b') (min c c') (min d d') = true
  · rw [if_pos e']
    simp [emptyB] at e'
    simp only []
    omega
  · rw [if_neg e']
    simp [emptyB] at e'
    simp only []
    omega

attribute [local go_sem] cell?_grow frozen?_grow nlt_r

set_option maxHeartbeats 1000000 in
theorem covers1 (a b c d a' b' c' d' : Int) (w : World) :
    Calls Try.prog 44 #[.agg #[.int .i64 a, .int .i64 b, .int .i64 c, .int .i64 d], .agg #[.int .i64 a', .int .i64 b', .int .i64 c', .int .i64 d']] w (Rt w (.bool (coversB a b c d a' b' c' d'))) := by
  have mixed : Try.prog.follows .mixedOrders = true := by kernel_rfl
  have c1 := cut1 a b c d a' b' c' d'
  have c2 := empty1 a' b' c' d'
  by_cases e : emptyB a' b' c' d' = true
  · rw [e] at c2
    go_enter Try.func44, Try.ntmps44
    go_wp2
    go_quiet_grown (first | (go_at_call 42; exact Calls.grown (c2 _)) | (go_at_call 27; exact Calls.grown (c1 _)))
    go_wp2
    go_ret
    refine Rt.bool (by simp [coversB, e]) ?_
    repeat (first | with_reducible exact Gr.refl _ | with_reducible apply Gr.drew | with_reducible apply Gr.drewN | with_reducible apply Gr.grow | with_reducible apply Gr.alloc)
  · simp only [Bool.not_eq_true] at e
    rw [e] at c2
    have hh : (¬(cutR a b c d a' b' c' d').a = a') ∨ ((cutR a b c d a' b' c' d').a = a' ∧ ¬(cutR a b c d a' b' c' d').b = b') ∨ ((cutR a b c d a' b' c' d').a = a' ∧ (cutR a b c d a' b' c' d').b = b' ∧ ¬(cutR a b c d a' b' c' d').c = c') ∨
        ((cutR a b c d a' b' c' d').a = a' ∧ (cutR a b c d a' b' c' d').b = b' ∧ (cutR a b c d a' b' c' d').c = c' ∧ ¬(cutR a b c d a' b' c' d').d = d') ∨ ((cutR a b c d a' b' c' d').a = a' ∧ (cutR a b c d a' b' c' d').b = b' ∧ (cutR a b c d a' b' c' d').c = c' ∧ (cutR a b c d a' b' c' d').d = d') := by omega
    rcases hh with h1 | ⟨h1, h2⟩ | ⟨h1, h2, h3⟩ | ⟨h1, h2, h3, h4⟩ | ⟨h1, h2, h3, h4⟩
    all_goals
      go_enter Try.func44, Try.ntmps44
      go_wp2
      go_quiet_grown (first | (go_at_call 42; exact Calls.grown (c2 _)) | (go_at_call 27; exact Calls.grown (c1 _)))
      go_wp2
      go_ret
      refine Rt.bool (covers_of _ _ _ _ _ _ _ _ e (by simp [*])) ?_
      repeat (first | with_reducible exact Gr.refl _ | with_reducible apply Gr.drew | with_reducible apply Gr.drewN | with_reducible apply Gr.grow | with_reducible apply Gr.alloc)

end Go.Proofs.Ytackojmckloacaa
