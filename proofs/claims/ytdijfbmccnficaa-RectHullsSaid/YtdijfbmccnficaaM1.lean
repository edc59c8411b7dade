/-
  What is proved: what Move and Area hand back of a rectangle within the bounds.
-/
import Derived.Test.YtdijfbmccnficaaA2
namespace Go.Proofs.Ytdijfbmccnficaa
open Go.RowKit Go.Sort

def Bd (n : Int) : Prop := -1048576 ≤ n ∧ n ≤ 1048576
def moveB (a b c d x y : Int) : Bool := decide (-2097152 ≤ x ∧ x ≤ 2097152 ∧ -2097152 ≤ y ∧ y ≤ 2097152) && mayB (a + x) (b + y) (c + x) (d + y)
def moveR (a b c d x y : Int) : Rc := if moveB a b c d x y = true then ⟨a + x, b + y, c + x, d + y⟩ else ⟨0, 0, 0, 0⟩
def moveE (a b c d x y : Int) : Int := if moveB a b c d x y = true then 0 else 4

theorem Rt.rect2 {w w' : World} {a b c d m : Int} {r : Rc} {n : Int} (h : r.a = a ∧ r.b = b ∧ r.c = c ∧ r.d = d ∧ n = m) (hg : Gr w w') :
    Rt w (.tuple #[.agg #[.int .i64 r.a, .int .i64 r.b, .int .i64 r.c, .int .i64 r.d], .int .i64 n]) (.returned (.tuple #[.agg #[.int .i64 a, .int .i64 b, .int .i64 c, .int .i64 d], .int .i64 m])) w' := by
  obtain ⟨rfl, rfl, rfl, rfl, rfl⟩ := h
  exact ⟨rfl, hg⟩
theorem moveR_t {a b c d x y : Int} (h : moveB a b c d x y = true) : (moveR a b c d x y).a = a + x ∧ (moveR a b c d x y).b = b + y ∧ (moveR a b c d x y).c = c + x ∧ (moveR a b c d x y).d = d + y ∧ moveE a b c d x y = 0 := by
  unfold moveR moveE; rw [if_pos h, if_pos h]; exact ⟨rfl, rfl, rfl, rfl, rfl⟩
theorem moveR_f {a b c d x y : Int} (h : moveB a b c d x y = false) : (moveR a b c d x y).a = 0 ∧ (moveR a b c d x y).b = 0 ∧ (moveR a b c d x y).c = 0 ∧ (moveR a b c d x y).d = 0 ∧ moveE a b c d x y = 4 := by
  unfold moveR moveE; rw [if_neg (by simp [h]), if_neg (by simp [h])]; exact ⟨rfl, rfl, rfl, rfl, rfl⟩

theorem may1f {a b c d : Int} {w : World} (h : mayB a b c d = false) :
    Calls Try.prog 10 #[.agg #[.int .i64 a, .int .i64 b, .int .i64 c, .int .i64 d]] w (Rt w (.bool false)) := by
  have := may1 a b c d w; rw [h] at this; exact this
theorem may1t {a b c d : Int} {w : World} (h : mayB a b c d = true) :
    Calls Try.prog 10 #[.agg #[.int .i64 a, .int .i64 b, .int .i64 c, .int .i64 d]] w (Rt w (.bool true)) := by
  have := may1 a b c d w; rw [h] at this; exact this
theorem refmay1f {a b c d : Int} {w : World} (h : mayB a b c d = false) :
    Calls Try.prog 11 #[.agg #[.int .i64 a, .int .i64 b, .int .i64 c, .int .i64 d]] w (Rt w (.bool false)) := by
  have := refmay1 a b c d w; rw [h] at this; exact this
theorem refmay1t {a b c d : Int} {w : World} (h : mayB a b c d = true) :
    Calls Try.prog 11 #[.agg #[.int .i64 a, .int .i64 b, .int .i64 c, .int .i64 d]] w (Rt w (.bool true)) := by
  have := refmay1 a b c d w; rw [h] at this; exact this

attribute [local go_sem] cell?_grow frozen?_grow nlt_r

set_option maxHeartbeats 2000000 in
theorem move1 (a b c d x y : Int) (w : World) (ha : Bd a) (hb : Bd b) (hc : Bd c) (hd : Bd d) (hx : I64 x) (hy : I64 y) :
    Calls Try.prog 26 #[.agg #[.int .i64 a, .int .i64 b, .int .i64 c, .int .i64 d], .int .i64 x, .int .i64 y] w
      (Rt w (.tuple #[.agg #[.int .i64 (moveR a b c d x y).a, .int .i64 (moveR a b c d x y).b, .int .i64 (moveR a b c d x y).c, .int .i64 (moveR a b c d x y).d], .int .i64 (moveE a b c d x y)])) := by
  obtain ⟨ha1, ha2⟩ := ha
  obtain ⟨hb1, hb2⟩ := hb
  obtain ⟨hc1, hc2⟩ := hc
  obtain ⟨hd1, hd2⟩ := hd
  obtain ⟨hx1, hx2⟩ := hx
  obtain ⟨hy1, hy2⟩ := hy
  by_cases hX : -2097152 ≤ x ∧ x ≤ 2097152
  · obtain ⟨hX1, hX2⟩ := hX
    by_cases hY : -2097152 ≤ y ∧ y ≤ 2097152
    · obtain ⟨hY1, hY2⟩ := hY
      by_cases hm : mayB (a + x) (b + y) (c + x) (d + y) = true
      · have hB : moveB a b c d x y = true := by unfold moveB; rw [hm]; simp; omega
        have H := moveR_t hB
        clear hB
        go_enter Try.func26, Try.ntmps26
        go_wp2_with fail
        refine (may1t hm).mono ?_
        rintro e w' ⟨rfl, ⟨⟨n, os⟩, rfl⟩⟩
        go_wp2
        go_returns
        refine Rt.rect2 H ?_
        repeat (first | with_reducible exact Gr.refl _ | with_reducible apply Gr.drew | with_reducible apply Gr.drewN | with_reducible apply Gr.grow | with_reducible apply Gr.alloc | (with_reducible refine Gr.setCell ?_ ?_ _; rotate_left; (simp; try omega)))
      · simp only [Bool.not_eq_true] at hm
        have hB : moveB a b c d x y = false := by unfold moveB; rw [hm]; simp
        have H := moveR_f hB
        clear hB
        go_enter Try.func26, Try.ntmps26
        go_wp2_with fail
        refine (may1f hm).mono ?_
        rintro e w' ⟨rfl, ⟨⟨n, os⟩, rfl⟩⟩
        go_wp2
        go_returns
        refine Rt.rect2 H ?_
        repeat (first | with_reducible exact Gr.refl _ | with_reducible apply Gr.drew | with_reducible apply Gr.drewN | with_reducible apply Gr.grow | with_reducible apply Gr.alloc | (with_reducible refine Gr.setCell ?_ ?_ _; rotate_left; (simp; try omega)))
    · have hB : moveB a b c d x y = false := by unfold moveB; simp; intros; omega
      have H := moveR_f hB
      clear hB
      go_enter Try.func26, Try.ntmps26
      go_wp2_with fail
      refine (may1f ?hm).mono ?_
      case hm => simp [mayB, wrap64]; omega
      rintro e w' ⟨rfl, ⟨⟨n, os⟩, rfl⟩⟩
      go_wp2
      go_returns
      refine Rt.rect2 H ?_
      repeat (first | with_reducible exact Gr.refl _ | with_reducible apply Gr.drew | with_reducible apply Gr.drewN | with_reducible apply Gr.grow | with_reducible apply Gr.alloc | (with_reducible refine Gr.setCell ?_ ?_ _; rotate_left; (simp; try omega)))
  · have hB : moveB a b c d x y = false := by unfold moveB; simp; intros; omega
    have H := moveR_f hB
    clear hB
    go_enter Try.func26, Try.ntmps26
    go_wp2_with fail
    refine (may1f ?hm).mono ?_
    case hm => simp [mayB, wrap64]; omega
    rintro e w' ⟨rfl, ⟨⟨n, os⟩, rfl⟩⟩
    go_wp2
    go_returns
    refine Rt.rect2 H ?_
    repeat (first | with_reducible exact Gr.refl _ | with_reducible apply Gr.drew | with_reducible apply Gr.drewN | with_reducible apply Gr.grow | with_reducible apply Gr.alloc | (with_reducible refine Gr.setCell ?_ ?_ _; rotate_left; (simp; try omega)))

end Go.Proofs.Ytdijfbmccnficaa
