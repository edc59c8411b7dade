/-
  What is proved: what Scale hands back, and the document's own answers for Move and Scale.
-/
import Derived.Test.YtbhekpcjdpbahaaM1
namespace Go.Proofs.Ytbhekpcjdpbahaa
open Go.RowKit Go.Sort

attribute [local go_sem] cell?_grow frozen?_grow nlt_r

set_option maxHeartbeats 2000000 in
theorem refmove1 (a b c d x y : Int) (w : World) (ha : Bd a) (hb : Bd b) (hc : Bd c) (hd : Bd d) (hx : I64 x) (hy : I64 y) :
    Calls Try.prog 16 #[.agg #[.int .i64 a, .int .i64 b, .int .i64 c, .int .i64 d], .int .i64 x, .int .i64 y] w
      (Rt w (.tuple #[.agg #[.int .i64 (moveR a b c d x y).a, .int .i64 (moveR a b c d x y).b, .int .i64 (moveR a b c d x y).c, .int .i64 (moveR a b c d x y).d], .int .i64 (moveE a b c d x y)])) := by
  obtain ⟨ha1, ha2⟩ := ha
  obtain ⟨hb1, hb2⟩ := hb
  obtain ⟨hc1, hc2⟩ := hc
  obtain ⟨hd1, hd2⟩ := hd
  obtain ⟨hx1, hx2⟩ := hx
  obtain ⟨hy1, hy2⟩ := hy
  by_cases hX : -2097152 ≤ x ∧ x ≤ 2097152 ∧ -2097152 ≤ y ∧ y ≤ 2097152
  · obtain ⟨hX1, hX2, hY1, hY2⟩ := hX
    by_cases hm : mayB (a + x) (b + y) (c + x) (d + y) = true
    · have hB : moveB a b c d x y = true := by unfold moveB; rw [hm]; simp; omega
      have H := moveR_t hB
      clear hB
      go_enter Try.func16, Try.ntmps16
      go_wp2_with fail
      refine (refmay1t hm).mono ?_
      rintro e w' ⟨rfl, ⟨⟨n, os⟩, rfl⟩⟩
      go_wp2
      go_returns
      refine Rt.rect2 H ?_
      repeat (first | with_reducible exact Gr.refl _ | with_reducible apply Gr.drew | with_reducible apply Gr.drewN | with_reducible apply Gr.grow | with_reducible apply Gr.alloc | (with_reducible refine Gr.setCell ?_ ?_ _; rotate_left; (simp; try omega)))
    · simp only [Bool.not_eq_true] at hm
      have hB : moveB a b c d x y = false := by unfold moveB; rw [hm]; simp
      have H := moveR_f hB
      clear hB
      go_enter Try.func16, Try.ntmps16
      go_wp2_with fail
      refine (refmay1f hm).mono ?_
      rintro e w' ⟨rfl, ⟨⟨n, os⟩, rfl⟩⟩
      go_wp2
      go_returns
      refine Rt.rect2 H ?_
      repeat (first | with_reducible exact Gr.refl _ | with_reducible apply Gr.drew | with_reducible apply Gr.drewN | with_reducible apply Gr.grow | with_reducible apply Gr.alloc | (with_reducible refine Gr.setCell ?_ ?_ _; rotate_left; (simp; try omega)))
  · have hB : moveB a b c d x y = false := by unfold moveB; simp; intros; omega
    have H := moveR_f hB
    clear hB
    have hX' : x < -2097152 ∨ (-2097152 ≤ x ∧ 2097152 < x) ∨ ((-2097152 ≤ x ∧ x ≤ 2097152) ∧ y < -2097152) ∨ ((-2097152 ≤ x ∧ x ≤ 2097152) ∧ -2097152 ≤ y ∧ 2097152 < y) := by omega
    clear hX
    rcases hX' with h | ⟨h1, h2⟩ | ⟨⟨h1, h2⟩, h3⟩ | ⟨⟨h1, h2⟩, h3, h4⟩
    all_goals
      go_enter Try.func16, Try.ntmps16
      go_wp2
      go_returns
      refine Rt.rect2 H ?_
      repeat (first | with_reducible exact Gr.refl _ | with_reducible apply Gr.drew | with_reducible apply Gr.drewN | with_reducible apply Gr.grow | with_reducible apply Gr.alloc | (with_reducible refine Gr.setCell ?_ ?_ _; rotate_left; (simp; try omega)))

def scaleB (a b c d n : Int) : Bool := mayB a b c d && mayB (n * a) (n * b) (n * c) (n * d)
def scaleR (a b c d n : Int) : Rc := if n < 1 ∨ 8 < n then ⟨0, 0, 0, 0⟩ else if scaleB a b c d n = true then ⟨n * a, n * b, n * c, n * d⟩ else ⟨0, 0, 0, 0⟩
def scaleE (a b c d n : Int) : Int := if n < 1 ∨ 8 < n then 1 else if scaleB a b c d n = true then 0 else 4
theorem scaleR_o {a b c d n : Int} (h : n < 1 ∨ 8 < n) : (scaleR a b c d n).a = 0 ∧ (scaleR a b c d n).b = 0 ∧ (scaleR a b c d n).c = 0 ∧ (scaleR a b c d n).d = 0 ∧ scaleE a b c d n = 1 := by
  unfold scaleR scaleE; rw [if_pos h, if_pos h]; exact ⟨rfl, rfl, rfl, rfl, rfl⟩
theorem scaleR_t {a b c d n : Int} (h : 1 ≤ n ∧ n ≤ 8) (hB : scaleB a b c d n = true) : (scaleR a b c d n).a = n * a ∧ (scaleR a b c d n).b = n * b ∧ (scaleR a b c d n).c = n * c ∧ (scaleR a b c d n).d = n * d ∧ scaleE a b c d n = 0 := by
  have hn : ¬(n < 1 ∨ 8 < n) := by omega
  unfold scaleR scaleE; rw [if_neg hn, if_neg hn, if_pos hB, if_pos hB]; exact ⟨rfl, rfl, rfl, rfl, rfl⟩
theorem scaleR_f {a b c d n : Int} (h : 1 ≤ n ∧ n ≤ 8) (hB : scaleB a b c d n = false) : (scaleR a b c d n).a = 0 ∧ (scaleR a b c d n).b = 0 ∧ (scaleR a b c d n).c = 0 ∧ (scaleR a b c d n).d = 0 ∧ scaleE a b c d n = 4 := by
  have hn : ¬(n < 1 ∨ 8 < n) := by omega
  have hb : ¬(scaleB a b c d n = true) := by simp [hB]
  unfold scaleR scaleE; rw [if_neg hn, if_neg hn, if_neg hb, if_neg hb]; exact ⟨rfl, rfl, rfl, rfl, rfl⟩

end Go.Proofs.Ytbhekpcjdpbahaa
