/-
  What is proved: what Scale hands back.
-/
import Derived.Test.YtafceieenhogpaaZb
import Derived.Lib.Hide
namespace Go.Proofs.Ytafceieenhogpaa
open Go.RowKit Go.Sort

attribute [local go_sem] cell?_grow frozen?_grow nlt_r

set_option maxHeartbeats 4000000 in
theorem scale1 (a b c d n : Int) (w : World) (hn : I64 n) :
    Calls Try.prog 107 #[.agg #[.int .i64 a, .int .i64 b, .int .i64 c, .int .i64 d], .int .i64 n] w
      (Rt w (.tuple #[.agg #[.int .i64 (scaleR a b c d n).a, .int .i64 (scaleR a b c d n).b, .int .i64 (scaleR a b c d n).c, .int .i64 (scaleR a b c d n).d], .int .i64 (scaleE a b c d n)])) := by
  obtain ⟨hn1, hn2⟩ := hn
  have hh : n < 1 ∨ (1 ≤ n ∧ 8 < n) ∨ (1 ≤ n ∧ n ≤ 8) := by omega
  rcases hh with h | ⟨h, h'⟩ | h
  · have H := scaleR_o (a := a) (b := b) (c := c) (d := d) (n := n) (by omega)
    go_enter Try.func107, Try.ntmps107
    go_wp2
    go_returns
    refine Rt.rect2 H ?_
    repeat (first | with_reducible exact Gr.refl _ | with_reducible exact Gr.refl _ | with_reducible apply Gr.drew | with_reducible apply Gr.drewN | with_reducible apply Gr.grow | with_reducible apply Gr.alloc | (with_reducible refine Gr.setCell ?_ ?_ _; rotate_left; (simp; try omega)))
  · have H := scaleR_o (a := a) (b := b) (c := c) (d := d) (n := n) (by omega)
    go_enter Try.func107, Try.ntmps107
    go_wp2
    go_returns
    refine Rt.rect2 H ?_
    repeat (first | with_reducible exact Gr.refl _ | with_reducible exact Gr.refl _ | with_reducible apply Gr.drew | with_reducible apply Gr.drewN | with_reducible apply Gr.grow | with_reducible apply Gr.alloc | (with_reducible refine Gr.setCell ?_ ?_ _; rotate_left; (simp; try omega)))
  · by_cases hm : mayB a b c d = true
    · have hb := hm
      simp only [mayB, decide_eq_true_eq] at hb
      obtain ⟨b1, b2, b3, b4, b5, b6⟩ := hb
      by_cases hB : scaleB a b c d n = true
      · have H := scaleR_t h hB
        have hs : mayB (n * a) (n * b) (n * c) (n * d) = true := by unfold scaleB at hB; rw [hm] at hB; simpa using hB
        clear hB
        have hh : n = 1 ∨ n = 2 ∨ n = 3 ∨ n = 4 ∨ n = 5 ∨ n = 6 ∨ n = 7 ∨ n = 8 := by omega
        clear h hn1 hn2
        rcases hh with rfl | rfl | rfl | rfl | rfl | rfl | rfl | rfl
        all_goals
          have Hh := Lib.hid H
          clear H
          go_enter Try.func107, Try.ntmps107
          go_wp2_with fail
          refine (may1t hm).mono ?_
          rintro e W1 ⟨rfl, g1⟩
          have A0 := ((At.new w _ _).alloc _).gr g1
          have A1 := (At.new (w.alloc _) _ _).gr g1
          simp only [World.size_alloc] at A1
          have c0 := A0.cell
          have c1 := A1.cell
          have f1 := A1.free
          have l0 := A0.lt
          have l1 := A1.lt
          go_wp2_with fail
          refine (may1t ?hs).mono ?_
          case hs => simpa [Int.mul_comm] using hs
          rintro e W2 ⟨rfl, g2⟩
          have A2 := (A1.alloc _).gr g2
          have B2 := (At.new W1 _ _).gr g2
          clear A0 A1 c0 c1 f1 l0 l1
          have c1 := A2.cell
          have f1 := A2.free
          have l1 := A2.lt
          have c2 := B2.cell
          go_wp2
          (try simp only [Exit.inBlock, Exit.then])
          refine bodyPost_ret (by simp [results, Try.results107, go_sem, c1]; try rfl) rfl ?_
          have H := Hh.out
          refine Rt.rect2 (by omega) ?_
          repeat (first | with_reducible exact Gr.refl _ | with_reducible apply Gr.alloc | (with_reducible refine Gr.trans ?_ g2) | (with_reducible refine Gr.trans ?_ g1) | (with_reducible refine Gr.setCell ?_ ?_ _; rotate_left; (simp; try omega)))
      · simp only [Bool.not_eq_true] at hB
        have H := scaleR_f h hB
        have hs : mayB (n * a) (n * b) (n * c) (n * d) = false := by unfold scaleB at hB; rw [hm] at hB; simpa using hB
        clear hB
        have hh : n = 1 ∨ n = 2 ∨ n = 3 ∨ n = 4 ∨ n = 5 ∨ n = 6 ∨ n = 7 ∨ n = 8 := by omega
        clear h hn1 hn2
        rcases hh with rfl | rfl | rfl | rfl | rfl | rfl | rfl | rfl
        all_goals
          have Hh := Lib.hid H
          clear H
          go_enter Try.func107, Try.ntmps107
          go_wp2_with fail
          refine (may1t hm).mono ?_
          rintro e W1 ⟨rfl, g1⟩
          have A0 := ((At.new w _ _).alloc _).gr g1
          have A1 := (At.new (w.alloc _) _ _).gr g1
          simp only [World.size_alloc] at A1
          have c0 := A0.cell
          have c1 := A1.cell
          have f1 := A1.free
          have l0 := A0.lt
          have l1 := A1.lt
          go_wp2_with fail
          refine (may1f ?hs).mono ?_
          case hs => simpa [Int.mul_comm] using hs
          rintro e W2 ⟨rfl, g2⟩
          have A2 := (A1.alloc _).gr g2
          have B2 := (At.new W1 _ _).gr g2
          clear A0 A1 c0 c1 f1 l0 l1
          have c1 := A2.cell
          have f1 := A2.free
          have l1 := A2.lt
          have c2 := B2.cell
          go_wp2
          (try simp only [Exit.inBlock, Exit.then])
          refine bodyPost_ret (by simp [results, Try.results107, go_sem, c1]; try rfl) rfl ?_
          have H := Hh.out
          refine Rt.rect2 (by omega) ?_
          repeat (first | with_reducible exact Gr.refl _ | with_reducible apply Gr.alloc | (with_reducible refine Gr.trans ?_ g2) | (with_reducible refine Gr.trans ?_ g1) | (with_reducible refine Gr.setCell ?_ ?_ _; rotate_left; (simp; try omega)))
    · simp only [Bool.not_eq_true] at hm
      have hB : scaleB a b c d n = false := by unfold scaleB; rw [hm]; simp
      have H := scaleR_f h hB
      clear hB
      obtain ⟨h1, h2⟩ := h
      go_enter Try.func107, Try.ntmps107
      go_wp2_with fail
      refine (may1f hm).mono ?_
      rintro e w' ⟨rfl, ⟨⟨n, os⟩, rfl⟩⟩
      go_wp2
      go_returns
      refine Rt.rect2 H ?_
      repeat (first | with_reducible exact Gr.refl _ | with_reducible exact Gr.refl _ | with_reducible apply Gr.drew | with_reducible apply Gr.drewN | with_reducible apply Gr.grow | with_reducible apply Gr.alloc | (with_reducible refine Gr.setCell ?_ ?_ _; rotate_left; (simp; try omega)))

end Go.Proofs.Ytafceieenhogpaa
