/-
  What is proved: what Meets and Covers hand back.
-/
import Derived.Test.YtkmnibeggmkakaaA2
namespace Go.Proofs.Ytkmnibeggmkakaa
open Go.RowKit Go.Sort

theorem meets_of (a b c d a' b' c' d' : Int) {t : Bool} (h : t = true ↔ ¬((cutR a b c d a' b' c' d').a = 0 ∧ (cutR a b c d a' b' c' d').b = 0 ∧ (cutR a b c d a' b' c' d').c = 0 ∧ (cutR a b c d a' b' c' d').d = 0)) :
    t = true ↔ meetsB a b c d a' b' c' d' = true := by
  rw [h]
  unfold meetsB cutR
  by_cases e : emptyB (max a a') (max b b') (min c c') (min d d') = true
  · simp [e]
  · rw [if_neg e]
    simp only [Bool.not_eq_true] at e
    simp only [e, Bool.not_false, iff_true, not_and]
    intro h1 h2 h3
    simp [emptyB] at e
    omega

attribute [local go_sem] cell?_grow frozen?_grow nlt_r

set_option maxHeartbeats 1000000 in
theorem meets1 (a b c d a' b' c' d' : Int) (w : World) :
    Calls Try.prog 24 #[.agg #[.int .i64 a, .int .i64 b, .int .i64 c, .int .i64 d], .agg #[.int .i64 a', .int .i64 b', .int .i64 c', .int .i64 d']] w (Rt w (.bool (meetsB a b c d a' b' c' d'))) := by
  have c1 := cut1 a b c d a' b' c' d'
  go_enter Try.func24, Try.ntmps24
  go_wp2_with fail
  refine (c1 _).mono ?_
  rintro e w' ⟨rfl, ⟨⟨n, os⟩, rfl⟩⟩
  go_wp2
  all_goals
    go_ret
    refine Rt.bool ?_ ?_
    · exact meets_of _ _ _ _ _ _ _ _ (by simp [*])
    · repeat (first | with_reducible exact Gr.refl _ | with_reducible apply Gr.drew | with_reducible apply Gr.drewN | with_reducible apply Gr.grow | with_reducible apply Gr.alloc | (with_reducible refine Gr.setCell ?_ ?_ _; rotate_left; (simp; try omega)))


end Go.Proofs.Ytkmnibeggmkakaa
