/-
  What is proved: what Area hands back of a rectangle that may be.
-/
import Derived.Test.YtackojmckloacaaM1
import Derived.Lib.Hide
import Derived.IntWalk
namespace Go.Proofs.Ytackojmckloacaa
open Go.RowKit Go.Sort

attribute [local go_sem] cell?_grow frozen?_grow nlt_r

def areaI (a b c d : Int) : Int := (c - a) * (d - b)

theorem area_bd {a b c d : Int} (h : mayB a b c d = true) : 0 ≤ (c - a) * (d - b) ∧ (c - a) * (d - b) ≤ 4398046511104 := by
  simp only [mayB, decide_eq_true_eq] at h
  obtain ⟨b1, b2, b3, b4, b5, b6⟩ := h
  have h1 : 0 ≤ c - a := by omega
  have h2 : c - a ≤ 2097152 := by omega
  have h3 : 0 ≤ d - b := by omega
  have h4 : d - b ≤ 2097152 := by omega
  refine ⟨Int.mul_nonneg h1 h3, ?_⟩
  calc (c - a) * (d - b) ≤ 2097152 * (d - b) := Int.mul_le_mul_of_nonneg_right h2 h3
    _ ≤ 2097152 * 2097152 := Int.mul_le_mul_of_nonneg_left h4 (by omega)

set_option maxHeartbeats 1000000 in
theorem area1 (a b c d : Int) (w : World) (h : mayB a b c d = true) :
    Calls Try.prog 29 #[.agg #[.int .i64 a, .int .i64 b, .int .i64 c, .int .i64 d]] w (Rt w (.int .i64 (areaI a b c d))) := by
  have hp := area_bd h
  obtain ⟨hp1, hp2⟩ := hp
  have hb := h
  simp only [mayB, decide_eq_true_eq] at hb
  obtain ⟨b1, b2, b3, b4, b5, b6⟩ := hb
  clear h
  go_enter Try.func29, Try.ntmps29
  go_wp2
  go_ret
  refine Rt.int ?_ ?_
  · unfold areaI; first | rfl | (exact IntWalk.i64_in _ (by omega))
  · repeat (first | with_reducible exact Gr.refl _ | with_reducible apply Gr.drew | with_reducible apply Gr.alloc)

set_option maxHeartbeats 1000000 in
theorem refarea1 (a b c d : Int) (w : World) (h : mayB a b c d = true) :
    Calls Try.prog 35 #[.agg #[.int .i64 a, .int .i64 b, .int .i64 c, .int .i64 d]] w (Rt w (.int .i64 (areaI a b c d))) := by
  have hp := area_bd h
  obtain ⟨hp1, hp2⟩ := hp
  have hb := h
  simp only [mayB, decide_eq_true_eq] at hb
  obtain ⟨b1, b2, b3, b4, b5, b6⟩ := hb
  clear h
  have c1 := refempty1 a b c d
  by_cases e : emptyB a b c d = true
  · have hz : 0 = areaI a b c d := by
      simp [emptyB] at e
      unfold areaI
      rcases e with e | e
      · have : c - a = 0 := by omega
        rw [this]; simp
      · have : d - b = 0 := by omega
        rw [this]; simp
    rw [e] at c1
    have Hz := Lib.hid hz
    clear hz
    go_enter Try.func35, Try.ntmps35
    go_wp2_with fail
    refine (c1 _).mono ?_
    rintro e w' ⟨rfl, ⟨⟨n, os⟩, rfl⟩⟩
    go_wp2
    go_ret
    refine Rt.int Hz.out ?_
    repeat (first | with_reducible exact Gr.refl _ | with_reducible apply Gr.drew | with_reducible apply Gr.drewN | with_reducible apply Gr.grow | with_reducible apply Gr.alloc)
  · simp only [Bool.not_eq_true] at e
    rw [e] at c1
    go_enter Try.func35, Try.ntmps35
    go_wp2_with fail
    refine (c1 _).mono ?_
    rintro e w' ⟨rfl, ⟨⟨n, os⟩, rfl⟩⟩
    go_wp2
    go_ret
    refine Rt.int ?_ ?_
    · unfold areaI; first | rfl | (exact IntWalk.i64_in _ (by omega))
    · repeat (first | with_reducible exact Gr.refl _ | with_reducible apply Gr.drew | with_reducible apply Gr.drewN | with_reducible apply Gr.grow | with_reducible apply Gr.alloc)

end Go.Proofs.Ytackojmckloacaa
