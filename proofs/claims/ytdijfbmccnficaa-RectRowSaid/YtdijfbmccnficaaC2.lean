/-
  What is proved: what the document's own answer for the row of two rectangles hands back.
-/
import Derived.Test.YtdijfbmccnficaaC1
namespace Go.Proofs.Ytdijfbmccnficaa
open Go.RowKit Go.Sort

set_option maxHeartbeats 4000000 in
theorem refcompare1 (a b c d a' b' c' d' : Int) (w : World) :
    Calls Try.prog 33 #[.agg #[.int .i64 a, .int .i64 b, .int .i64 c, .int .i64 d], .agg #[.int .i64 a', .int .i64 b', .int .i64 c', .int .i64 d']] w (Rt w (.int .i64 (cmpR a b c d a' b' c' d'))) := by
  have hb : b < b' ∨ b' < b ∨ b = b' := by omega
  have ha : a < a' ∨ a' < a ∨ a = a' := by omega
  have hd : d < d' ∨ d' < d ∨ d = d' := by omega
  have hc : c < c' ∨ c' < c ∨ c = c' := by omega
  have key : (b < b' ∧ cmpR a b c d a' b' c' d' = -1) ∨ (b' < b ∧ cmpR a b c d a' b' c' d' = 1) ∨ (b = b' ∧ a < a' ∧ cmpR a b c d a' b' c' d' = -1) ∨ (b = b' ∧ a' < a ∧ cmpR a b c d a' b' c' d' = 1) ∨
      (b = b' ∧ a = a' ∧ d < d' ∧ cmpR a b c d a' b' c' d' = -1) ∨ (b = b' ∧ a = a' ∧ d' < d ∧ cmpR a b c d a' b' c' d' = 1) ∨ (b = b' ∧ a = a' ∧ d = d' ∧ c < c' ∧ cmpR a b c d a' b' c' d' = -1) ∨ (b = b' ∧ a = a' ∧ d = d' ∧ c' < c ∧ cmpR a b c d a' b' c' d' = 1) ∨
      (b = b' ∧ a = a' ∧ d = d' ∧ c = c' ∧ cmpR a b c d a' b' c' d' = 0) := by
    unfold cmpR orI cmpI
    rcases hb with h | h | h
    · simp [h]
    · have h' : ¬ b < b' := by omega
      simp [h, h']
    · subst h
      rcases ha with h | h | h
      · simp [h]
      · have h' : ¬ a < a' := by omega
        simp [h, h']
      · subst h
        rcases hd with h | h | h
        · simp [h]
        · have h' : ¬ d < d' := by omega
          simp [h, h']
        · subst h
          rcases hc with h | h | h
          · simp [h]
          · have h' : ¬ c < c' := by omega
            simp [h, h']
          · subst h; simp
  clear ha hb hc hd
  rcases key with ⟨h1, hr⟩ | ⟨h1, hr⟩ | ⟨rfl, h1, hr⟩ | ⟨rfl, h1, hr⟩ | ⟨rfl, rfl, h1, hr⟩ | ⟨rfl, rfl, h1, hr⟩ | ⟨rfl, rfl, rfl, h1, hr⟩ | ⟨rfl, rfl, rfl, h1, hr⟩ | ⟨rfl, rfl, rfl, rfl, hr⟩
  all_goals
    rw [hr]
    clear hr
    go_enter Try.func33, Try.ntmps33
    go_wp2
    refine wp_loop_rounds 5 ?_
    rw [rounds_succ]
    go_wp2
    repeat (first | (go_quiet (fail); go_wp2) | (rw [rounds_succ]; go_wp2))
    go_ret
    refine Rt.int rfl ?_
    repeat (first | with_reducible exact Gr.refl _ | with_reducible apply Gr.drew | with_reducible apply Gr.drewN | with_reducible apply Gr.grow | with_reducible apply Gr.alloc | (with_reducible refine Gr.setCell ?_ ?_ _; rotate_left; (simp; try omega)))

end Go.Proofs.Ytdijfbmccnficaa
