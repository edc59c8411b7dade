/-
  What is proved: what more calls of package rect, and of the document's answers, hand back (for an image's seat).
-/
import Derived.Test.YtlbpeogjedjpnaaIa
import Derived.Lib.Hide
import Derived.IntWalk
namespace Go.Proofs.Ytlbpeogjedjpnaa
open Go.RowKit Go.Sort

attribute [local go_sem] cell?_grow frozen?_grow nlt_r

set_option maxHeartbeats 2000000 in
theorem refcutR1 (a b c d a' b' c' d' : Int) (w : World) :
    Calls Try.prog 24 #[.agg #[.int .i64 a, .int .i64 b, .int .i64 c, .int .i64 d], .agg #[.int .i64 a', .int .i64 b', .int .i64 c', .int .i64 d']] w
      (Rt w (.agg #[.int .i64 (cutR a b c d a' b' c' d').a, .int .i64 (cutR a b c d a' b' c' d').b, .int .i64 (cutR a b c d a' b' c' d').c, .int .i64 (cutR a b c d a' b' c' d').d])) := by
  go_enter Try.func24, Try.ntmps24
  go_wp2_with fail
  all_goals
    refine (refempty1 _ _ _ _ _).mono ?_
    rintro e w' ⟨rfl, ⟨⟨n, os⟩, rfl⟩⟩
    go_wp2
    all_goals
      go_returns
      refine Rt.rect (by first | exact cutR_t ‹_› (by omega) | exact cutR_f ‹_› (by omega)) ?_
      repeat (first | with_reducible exact Gr.refl _ | with_reducible apply Gr.drew | with_reducible apply Gr.drewN | with_reducible apply Gr.grow | with_reducible apply Gr.alloc | (with_reducible refine Gr.setCell ?_ ?_ _; rotate_left; (simp; try omega)))

set_option maxHeartbeats 1000000 in
theorem refcovers1 (a b c d a' b' c' d' : Int) (w : World) :
    Calls Try.prog 53 #[.agg #[.int .i64 a, .int .i64 b, .int .i64 c, .int .i64 d], .agg #[.int .i64 a', .int .i64 b', .int .i64 c', .int .i64 d']] w (Rt w (.bool (coversB a b c d a' b' c' d'))) := by
  go_enter Try.func53, Try.ntmps53
  go_wp2_with fail
  refine (refempty1 _ _ _ _ _).mono ?_
  rintro e w' ⟨rfl, ⟨⟨n, os⟩, rfl⟩⟩
  go_wp2
  all_goals
    go_ret
    refine Rt.bool ?_ ?_
    · simp [coversB, *] <;> omega
    · repeat (first | with_reducible exact Gr.refl _ | with_reducible apply Gr.drew | with_reducible apply Gr.drewN | with_reducible apply Gr.grow | with_reducible apply Gr.alloc | (with_reducible refine Gr.setCell ?_ ?_ _; rotate_left; (simp; try omega)))

theorem covers_of (a b c d a' b' c' d' : Int) {t : Bool} (e : emptyB a' b' c' d' = false) (h : t = true ↔ ((cutR a b c d a' b' c' d').a = a' ∧ (cutR a b c d a' b' c' d').b = b' ∧ (cutR a b c d a' b' c' d').c = c' ∧ (cutR a b c d a' b' c' d').d = d')) :
    t = true ↔ coversB a b c d a' b' c' d' = true := by
  rw [h]
  unfold coversB cutR
  simp only [e, Bool.false_or, decide_eq_true_eq]
  simp [emptyB] at e
  by_cases e' : emptyB (max a a') (max b b') (min c c') (min d d') = true
  · rw [if_pos e']
    simp [emptyB] at e'
    simp only []
    omega
  · rw [if_neg e']
    simp [emptyB] at e'
    simp only []
    omega

set_option maxHeartbeats 1000000 in
theorem covers1 (a b c d a' b' c' d' : Int) (w : World) :
    Calls Try.prog 66 #[.agg #[.int .i64 a, .int .i64 b, .int .i64 c, .int .i64 d], .agg #[.int .i64 a', .int .i64 b', .int .i64 c', .int .i64 d']] w (Rt w (.bool (coversB a b c d a' b' c' d'))) := by
  have mixed : Try.prog.follows .mixedOrders = true := by kernel_rfl
  have c1 := cut1 a b c d a' b' c' d'
  have c2 := empty1 a' b' c' d'
  by_cases e : emptyB a' b' c' d' = true
  · rw [e] at c2
    go_enter Try.func66, Try.ntmps66
    go_wp2
    go_quiet_grown (first | (go_at_call 64; exact Calls.grown (c2 _)) | (go_at_call 48; exact Calls.grown (c1 _)))
    go_wp2
    go_ret
    refine Rt.bool (by simp [coversB, e]) ?_
    repeat (first | with_reducible exact Gr.refl _ | with_reducible apply Gr.drew | with_reducible apply Gr.drewN | with_reducible apply Gr.grow | with_reducible apply Gr.alloc)
  · simp only [Bool.not_eq_true] at e
    rw [e] at c2
    have hh : (¬(cutR a b c d a' b' c' d').a = a') ∨ ((cutR a b c d a' b' c' d').a = a' ∧ ¬(cutR a b c d a' b' c' d').b = b') ∨ ((cutR a b c d a' b' c' d').a = a' ∧ (cutR a b c d a' b' c' d').b = b' ∧ ¬(cutR a b c d a' b' c' d').c = c') ∨
        ((cutR a b c d a' b' c' d').a = a' ∧ (cutR a b c d a' b' c' d').b = b' ∧ (cutR a b c d a' b' c' d').c = c' ∧ ¬(cutR a b c d a' b' c' d').d = d') ∨ ((cutR a b c d a' b' c' d').a = a' ∧ (cutR a b c d a' b' c' d').b = b' ∧ (cutR a b c d a' b' c' d').c = c' ∧ (cutR a b c d a' b' c' d').d = d') := by omega
    rcases hh with h1 | ⟨h1, h2⟩ | ⟨h1, h2, h3⟩ | ⟨h1, h2, h3, h4⟩ | ⟨h1, h2, h3, h4⟩
    all_goals
      go_enter Try.func66, Try.ntmps66
      go_wp2
      go_quiet_grown (first | (go_at_call 64; exact Calls.grown (c2 _)) | (go_at_call 48; exact Calls.grown (c1 _)))
      go_wp2
      go_ret
      refine Rt.bool (covers_of _ _ _ _ _ _ _ _ e (by simp [*])) ?_
      repeat (first | with_reducible exact Gr.refl _ | with_reducible apply Gr.drew | with_reducible apply Gr.drewN | with_reducible apply Gr.grow | with_reducible apply Gr.alloc)

def areaI (a b c d : Int) : Int := (c - a) * (d - b)

theorem area_bd {a b c d : Int} (h : mayB a b c d = true) : 0 ≤ (c - a) * (d - b) ∧ (c - a) * (d - b) ≤ 4398046511104 := by
  simp only [mayB, decide_eq_true_eq] at h
  obtain ⟨b1, b2, b3, b4, b5, b6⟩ := h
  have h1 : 0 ≤ c - a := by omega
  have h2 : c - a ≤ 2097152 := by omega
  have h3 : 0 ≤ d - b := by omega
  have h4 : d - b ≤ 2097152 := by omega
  refine ⟨Int.mul_nonneg h1 h3, ?_⟩
  calc (c - a) * (d - b) ≤ 2097152 * (d - b) := Int.mul_le_mul_of_nonneg_right h2 h3
    _ ≤ 2097152 * 2097152 := Int.mul_le_mul_of_nonneg_left h4 (by omega)

set_option maxHeartbeats 1000000 in
theorem area1 (a b c d : Int) (w : World) (h : mayB a b c d = true) :
    Calls Try.prog 50 #[.agg #[.int .i64 a, .int .i64 b, .int .i64 c, .int .i64 d]] w (Rt w (.int .i64 (areaI a b c d))) := by
  have hp := area_bd h
  obtain ⟨hp1, hp2⟩ := hp
  have hb := h
  simp only [mayB, decide_eq_true_eq] at hb
  obtain ⟨b1, b2, b3, b4, b5, b6⟩ := hb
  clear h
  go_enter Try.func50, Try.ntmps50
  go_wp2
  go_ret
  refine Rt.int ?_ ?_
  · unfold areaI; first | rfl | (exact IntWalk.i64_in _ (by omega))
  · repeat (first | with_reducible exact Gr.refl _ | with_reducible apply Gr.drew | with_reducible apply Gr.alloc)

set_option maxHeartbeats 1000000 in
theorem refarea1 (a b c d : Int) (w : World) (h : mayB a b c d = true) :
    Calls Try.prog 43 #[.agg #[.int .i64 a, .int .i64 b, .int .i64 c, .int .i64 d]] w (Rt w (.int .i64 (areaI a b c d))) := by
  have hp := area_bd h
  obtain ⟨hp1, hp2⟩ := hp
  have hb := h
  simp only [mayB, decide_eq_true_eq] at hb
  obtain ⟨b1, b2, b3, b4, b5, b6⟩ := hb
  clear h
  have c1 := refempty1 a b c d
  by_cases e : emptyB a b c d = true
  · have hz : 0 = areaI a b c d := by
      simp [emptyB] at e
      unfold areaI
      rcases e with e | e
      · have : c - a = 0 := by omega
        rw [this]; simp
      · have : d - b = 0 := by omega
        rw [this]; simp
    rw [e] at c1
    have Hz := Lib.hid hz
    clear hz
    go_enter Try.func43, Try.ntmps43
    go_wp2_with fail
    refine (c1 _).mono ?_
    rintro e w' ⟨rfl, ⟨⟨n, os⟩, rfl⟩⟩
    go_wp2
    go_ret
    refine Rt.int Hz.out ?_
    repeat (first | with_reducible exact Gr.refl _ | with_reducible apply Gr.drew | with_reducible apply Gr.drewN | with_reducible apply Gr.grow | with_reducible apply Gr.alloc)
  · simp only [Bool.not_eq_true] at e
    rw [e] at c1
    go_enter Try.func43, Try.ntmps43
    go_wp2_with fail
    refine (c1 _).mono ?_
    rintro e w' ⟨rfl, ⟨⟨n, os⟩, rfl⟩⟩
    go_wp2
    go_ret
    refine Rt.int ?_ ?_
    · unfold areaI; first | rfl | (exact IntWalk.i64_in _ (by omega))
    · repeat (first | with_reducible exact Gr.refl _ | with_reducible apply Gr.drew | with_reducible apply Gr.drewN | with_reducible apply Gr.grow | with_reducible apply Gr.alloc)

end Go.Proofs.Ytlbpeogjedjpnaa
