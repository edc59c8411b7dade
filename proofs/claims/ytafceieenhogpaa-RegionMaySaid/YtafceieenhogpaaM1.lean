/-
  What is proved: what Move and Area hand back of a rectangle within the bounds.
-/
import Derived.Test.YtafceieenhogpaaA2
import Derived.IntWalk
import Derived.Lib.Hide
namespace Go.Proofs.Ytafceieenhogpaa
open Go.RowKit Go.Sort

def Bd (n : Int) : Prop := -1048576 ≤ n ∧ n ≤ 1048576
def moveB (a b c d x y : Int) : Bool := decide (-2097152 ≤ x ∧ x ≤ 2097152 ∧ -2097152 ≤ y ∧ y ≤ 2097152) && mayB (a + x) (b + y) (c + x) (d + y)
def moveR (a b c d x y : Int) : Rc := if moveB a b c d x y = true then ⟨a + x, b + y, c + x, d + y⟩ else ⟨0, 0, 0, 0⟩
def moveE (a b c d x y : Int) : Int := if moveB a b c d x y = true then 0 else 4

theorem Rt.rect2 {w w' : World} {a b c d m : Int} {r : Rc} {n : Int} (h : r.a = a ∧ r.b = b ∧ r.c = c ∧ r.d = d ∧ n = m) (hg : Gr w w') :
    Rt w (.tuple #[.agg #[.int .i64 r.a, .int .i64 r.b, .int .i64 r.c, .int .i64 r.d], .int .i64 n]) (.returned (.tuple #[.agg #[.int .i64 a, .int .i64 b, .int .i64 c, .int .i64 d], .int .i64 m])) w' := by
  obtain ⟨rfl, rfl, rfl, rfl, rfl⟩ := h
  exact ⟨rfl, hg⟩
theorem moveR_t {a b c d x y : Int} (h : moveB a b c d x y = true) : (moveR a b c d x y).a = a + x ∧ (moveR a b c d x y).b = b + y ∧ (moveR a b c d x y).c = c + x ∧ (moveR a b c d x y).d = d + y ∧ moveE a b c d x y = 0 := by
  unfold moveR moveE; rw [if_pos h, if_pos h]; exact ⟨rfl, rfl, rfl, rfl, rfl⟩
theorem moveR_f {a b c d x y : Int} (h : moveB a b c d x y = false) : (moveR a b c d x y).a = 0 ∧ (moveR a b c d x y).b = 0 ∧ (moveR a b c d x y).c = 0 ∧ (moveR a b c d x y).d = 0 ∧ moveE a b c d x y = 4 := by
  unfold moveR moveE; rw [if_neg (by simp [h]), if_neg (by simp [h])]; exact ⟨rfl, rfl, rfl, rfl, rfl⟩

theorem may1f {a b c d : Int} {w : World} (h : mayB a b c d = false) :
    Calls Try.prog 119 #[.agg #[.int .i64 a, .int .i64 b, .int .i64 c, .int .i64 d]] w (Rt w (.bool false)) := by
  have := may1 a b c d w; rw [h] at this; exact this
theorem may1t {a b c d : Int} {w : World} (h : mayB a b c d = true) :
    Calls Try.prog 119 #[.agg #[.int .i64 a, .int .i64 b, .int .i64 c, .int .i64 d]] w (Rt w (.bool true)) := by
  have := may1 a b c d w; rw [h] at this; exact this
/-- Whether a sum of two ints is none. -/
def wrapsB (a b : Int) : Bool := decide (a + b < -9223372036854775808 ∨ 9223372036854775807 < a + b)
set_option maxHeartbeats 1000000 in
theorem wraps1 (a b : Int) (w : World) (ha : I64 a) (hb : I64 b) :
    Calls Try.prog 120 #[.int .i64 a, .int .i64 b] w (Rt w (.bool (wrapsB a b))) := by
  obtain ⟨ha1, ha2⟩ := ha
  obtain ⟨hb1, hb2⟩ := hb
  have hw : wrap64 (a + b) = if a + b < -9223372036854775808 then a + b + 18446744073709551616 else if 9223372036854775807 < a + b then a + b - 18446744073709551616 else a + b := by
    unfold wrap64; split
    · omega
    · split <;> omega
  have H := Lib.hid hw
  clear hw
  go_enter Try.func120, Try.ntmps120
  go_wp2
  all_goals
    go_ret
    refine Rt.bool ?_ ?_
    · have hw := H.out
      simp only [wrapsB, decide_eq_true_eq]
      split at hw
      · by_cases p : wrap64 (a + b) < a <;> by_cases q : b < 0 <;> simp [p, q] <;> omega
      · split at hw
        · by_cases p : wrap64 (a + b) < a <;> by_cases q : b < 0 <;> simp [p, q] <;> omega
        · by_cases p : wrap64 (a + b) < a <;> by_cases q : b < 0 <;> simp [p, q] <;> omega
    · repeat (first | with_reducible exact Gr.refl _ | with_reducible apply Gr.drew | with_reducible apply Gr.drewN | with_reducible apply Gr.grow | with_reducible apply Gr.alloc)

attribute [local go_sem] cell?_grow frozen?_grow nlt_r

theorem wraps1f {a b : Int} {w : World} (ha : I64 a) (hb : I64 b) (h : wrapsB a b = false) : Calls Try.prog 120 #[.int .i64 a, .int .i64 b] w (Rt w (.bool false)) := by
  have := wraps1 a b w ha hb; rw [h] at this; exact this
theorem wraps1t {a b : Int} {w : World} (ha : I64 a) (hb : I64 b) (h : wrapsB a b = true) : Calls Try.prog 120 #[.int .i64 a, .int .i64 b] w (Rt w (.bool true)) := by
  have := wraps1 a b w ha hb; rw [h] at this; exact this
theorem wraps_no {a b : Int} (h : -9223372036854775808 ≤ a + b ∧ a + b ≤ 9223372036854775807) : wrapsB a b = false := by
  unfold wrapsB; simp; omega
theorem move_no {a b c d x y : Int} (h : wrapsB a x = true ∨ wrapsB c x = true ∨ wrapsB b y = true ∨ wrapsB d y = true) : moveB a b c d x y = false := by
  cases hm : moveB a b c d x y with
  | false => rfl
  | true => unfold moveB mayB wrapsB at *; simp at *; omega
theorem Bd.i64 {n : Int} (h : Bd n) : I64 n := by unfold Bd at h; unfold I64; omega

set_option maxHeartbeats 4000000 in
theorem move1 (a b c d x y : Int) (w : World) (ha : Bd a) (hb : Bd b) (hc : Bd c) (hd : Bd d) (hx : I64 x) (hy : I64 y) :
    Calls Try.prog 108 #[.agg #[.int .i64 a, .int .i64 b, .int .i64 c, .int .i64 d], .int .i64 x, .int .i64 y] w
      (Rt w (.tuple #[.agg #[.int .i64 (moveR a b c d x y).a, .int .i64 (moveR a b c d x y).b, .int .i64 (moveR a b c d x y).c, .int .i64 (moveR a b c d x y).d], .int .i64 (moveE a b c d x y)])) := by
  have ia := ha.i64
  have ib := hb.i64
  have ic := hc.i64
  have id' := hd.i64
  obtain ⟨ha1, ha2⟩ := ha
  obtain ⟨hb1, hb2⟩ := hb
  obtain ⟨hc1, hc2⟩ := hc
  obtain ⟨hd1, hd2⟩ := hd
  by_cases h1 : wrapsB a x = true
  · have H := moveR_f (a := a) (b := b) (c := c) (d := d) (x := x) (y := y) (move_no (.inl h1))
    have Hh := Lib.hid H
    clear H
    go_enter Try.func108, Try.ntmps108
    go_wp2_with fail
    refine (wraps1t ia hx h1).mono ?_
    rintro e W1 ⟨rfl, g1⟩
    have A0 := ((At.new w _ _).alloc _).gr g1
    have A1 := (At.new (w.alloc _) _ _).gr g1
    simp only [World.size_alloc] at A1
    have G := (((Gr.refl w).alloc _).alloc _).trans g1
    clear g1
    have c0 := A0.cell
    have c1 := A1.cell
    have f1 := A1.free
    have l0 := A0.lt
    have l1 := A1.lt
    go_wp2_with fail
    (try simp only [Exit.inBlock, Exit.then])
    refine bodyPost_ret (by simp [results, Try.results108, go_sem, c1]; try rfl) rfl ?_
    refine Rt.rect2 Hh.out ?_
    repeat (first | with_reducible exact G | with_reducible exact Gr.refl _ | with_reducible apply Gr.alloc | (with_reducible refine Gr.setCell ?_ ?_ _; rotate_left; (simp; try omega)))
  simp only [Bool.not_eq_true] at h1
  by_cases h2 : wrapsB c x = true
  · have H := moveR_f (a := a) (b := b) (c := c) (d := d) (x := x) (y := y) (move_no (.inr (.inl h2)))
    have Hh := Lib.hid H
    clear H
    go_enter Try.func108, Try.ntmps108
    go_wp2_with fail
    refine (wraps1f ia hx h1).mono ?_
    rintro e W1 ⟨rfl, g1⟩
    have A0 := ((At.new w _ _).alloc _).gr g1
    have A1 := (At.new (w.alloc _) _ _).gr g1
    simp only [World.size_alloc] at A1
    have G := (((Gr.refl w).alloc _).alloc _).trans g1
    clear g1
    have c0 := A0.cell
    have c1 := A1.cell
    have f1 := A1.free
    have l0 := A0.lt
    have l1 := A1.lt
    go_wp2_with fail
    refine (wraps1t ic hx h2).mono ?_
    rintro e W2 ⟨rfl, g⟩
    replace A0 := A0.gr g
    replace A1 := A1.gr g
    replace G := G.trans g
    clear c0 c1 f1 l0 l1 g
    have c0 := A0.cell
    have c1 := A1.cell
    have f1 := A1.free
    have l0 := A0.lt
    have l1 := A1.lt
    go_wp2_with fail
    (try simp only [Exit.inBlock, Exit.then])
    refine bodyPost_ret (by simp [results, Try.results108, go_sem, c1]; try rfl) rfl ?_
    refine Rt.rect2 Hh.out ?_
    repeat (first | with_reducible exact G | with_reducible exact Gr.refl _ | with_reducible apply Gr.alloc | (with_reducible refine Gr.setCell ?_ ?_ _; rotate_left; (simp; try omega)))
  simp only [Bool.not_eq_true] at h2
  by_cases h3 : wrapsB b y = true
  · have H := moveR_f (a := a) (b := b) (c := c) (d := d) (x := x) (y := y) (move_no (.inr (.inr (.inl h3))))
    have Hh := Lib.hid H
    clear H
    go_enter Try.func108, Try.ntmps108
    go_wp2_with fail
    refine (wraps1f ia hx h1).mono ?_
    rintro e W1 ⟨rfl, g1⟩
    have A0 := ((At.new w _ _).alloc _).gr g1
    have A1 := (At.new (w.alloc _) _ _).gr g1
    simp only [World.size_alloc] at A1
    have G := (((Gr.refl w).alloc _).alloc _).trans g1
    clear g1
    have c0 := A0.cell
    have c1 := A1.cell
    have f1 := A1.free
    have l0 := A0.lt
    have l1 := A1.lt
    go_wp2_with fail
    refine (wraps1f ic hx h2).mono ?_
    rintro e W2 ⟨rfl, g⟩
    replace A0 := A0.gr g
    replace A1 := A1.gr g
    replace G := G.trans g
    clear c0 c1 f1 l0 l1 g
    have c0 := A0.cell
    have c1 := A1.cell
    have f1 := A1.free
    have l0 := A0.lt
    have l1 := A1.lt
    go_wp2_with fail
    refine (wraps1t ib hy h3).mono ?_
    rintro e W3 ⟨rfl, g⟩
    replace A0 := A0.gr g
    replace A1 := A1.gr g
    replace G := G.trans g
    clear c0 c1 f1 l0 l1 g
    have c0 := A0.cell
    have c1 := A1.cell
    have f1 := A1.free
    have l0 := A0.lt
    have l1 := A1.lt
    go_wp2_with fail
    (try simp only [Exit.inBlock, Exit.then])
    refine bodyPost_ret (by simp [results, Try.results108, go_sem, c1]; try rfl) rfl ?_
    refine Rt.rect2 Hh.out ?_
    repeat (first | with_reducible exact G | with_reducible exact Gr.refl _ | with_reducible apply Gr.alloc | (with_reducible refine Gr.setCell ?_ ?_ _; rotate_left; (simp; try omega)))
  simp only [Bool.not_eq_true] at h3
  by_cases h4 : wrapsB d y = true
  · have H := moveR_f (a := a) (b := b) (c := c) (d := d) (x := x) (y := y) (move_no (.inr (.inr (.inr h4))))
    have Hh := Lib.hid H
    clear H
    go_enter Try.func108, Try.ntmps108
    go_wp2_with fail
    refine (wraps1f ia hx h1).mono ?_
    rintro e W1 ⟨rfl, g1⟩
    have A0 := ((At.new w _ _).alloc _).gr g1
    have A1 := (At.new (w.alloc _) _ _).gr g1
    simp only [World.size_alloc] at A1
    have G := (((Gr.refl w).alloc _).alloc _).trans g1
    clear g1
    have c0 := A0.cell
    have c1 := A1.cell
    have f1 := A1.free
    have l0 := A0.lt
    have l1 := A1.lt
    go_wp2_with fail
    refine (wraps1f ic hx h2).mono ?_
    rintro e W2 ⟨rfl, g⟩
    replace A0 := A0.gr g
    replace A1 := A1.gr g
    replace G := G.trans g
    clear c0 c1 f1 l0 l1 g
    have c0 := A0.cell
    have c1 := A1.cell
    have f1 := A1.free
    have l0 := A0.lt
    have l1 := A1.lt
    go_wp2_with fail
    refine (wraps1f ib hy h3).mono ?_
    rintro e W3 ⟨rfl, g⟩
    replace A0 := A0.gr g
    replace A1 := A1.gr g
    replace G := G.trans g
    clear c0 c1 f1 l0 l1 g
    have c0 := A0.cell
    have c1 := A1.cell
    have f1 := A1.free
    have l0 := A0.lt
    have l1 := A1.lt
    go_wp2_with fail
    refine (wraps1t id' hy h4).mono ?_
    rintro e W4 ⟨rfl, g⟩
    replace A0 := A0.gr g
    replace A1 := A1.gr g
    replace G := G.trans g
    clear c0 c1 f1 l0 l1 g
    have c0 := A0.cell
    have c1 := A1.cell
    have f1 := A1.free
    have l0 := A0.lt
    have l1 := A1.lt
    go_wp2_with fail
    (try simp only [Exit.inBlock, Exit.then])
    refine bodyPost_ret (by simp [results, Try.results108, go_sem, c1]; try rfl) rfl ?_
    refine Rt.rect2 Hh.out ?_
    repeat (first | with_reducible exact G | with_reducible exact Gr.refl _ | with_reducible apply Gr.alloc | (with_reducible refine Gr.setCell ?_ ?_ _; rotate_left; (simp; try omega)))
  simp only [Bool.not_eq_true] at h4
  have hB : moveB a b c d x y = true ∨ (moveB a b c d x y = false ∧ mayB (a + x) (b + y) (c + x) (d + y) = false) := by
    cases hm : mayB (a + x) (b + y) (c + x) (d + y) with
    | true => left; unfold moveB; rw [hm]; simp only [mayB, decide_eq_true_eq] at hm; simp; omega
    | false => right; unfold moveB; rw [hm]; simp
  have e1 : -9223372036854775808 ≤ a + x ∧ a + x ≤ 9223372036854775807 := by simp only [wrapsB, decide_eq_false_iff_not] at h1; omega
  have e2 : -9223372036854775808 ≤ c + x ∧ c + x ≤ 9223372036854775807 := by simp only [wrapsB, decide_eq_false_iff_not] at h2; omega
  have e3 : -9223372036854775808 ≤ b + y ∧ b + y ≤ 9223372036854775807 := by simp only [wrapsB, decide_eq_false_iff_not] at h3; omega
  have e4 : -9223372036854775808 ≤ d + y ∧ d + y ≤ 9223372036854775807 := by simp only [wrapsB, decide_eq_false_iff_not] at h4; omega
  obtain ⟨e11, e12⟩ := e1
  obtain ⟨e21, e22⟩ := e2
  obtain ⟨e31, e32⟩ := e3
  obtain ⟨e41, e42⟩ := e4
  rcases hB with hB | ⟨hB, hm⟩
  · have hm : mayB (a + x) (b + y) (c + x) (d + y) = true := by unfold moveB at hB; simp only [Bool.and_eq_true] at hB; exact hB.2
    have H := moveR_t hB
    clear hB
    have Hh := Lib.hid H
    clear H
    go_enter Try.func108, Try.ntmps108
    go_wp2_with fail
    refine (wraps1f ia hx h1).mono ?_
    rintro e W1 ⟨rfl, g1⟩
    have A0 := ((At.new w _ _).alloc _).gr g1
    have A1 := (At.new (w.alloc _) _ _).gr g1
    simp only [World.size_alloc] at A1
    have G := (((Gr.refl w).alloc _).alloc _).trans g1
    clear g1
    have c0 := A0.cell
    have c1 := A1.cell
    have f1 := A1.free
    have l0 := A0.lt
    have l1 := A1.lt
    go_wp2_with fail
    refine (wraps1f ic hx h2).mono ?_
    rintro e W2 ⟨rfl, g⟩
    replace A0 := A0.gr g
    replace A1 := A1.gr g
    replace G := G.trans g
    clear c0 c1 f1 l0 l1 g
    have c0 := A0.cell
    have c1 := A1.cell
    have f1 := A1.free
    have l0 := A0.lt
    have l1 := A1.lt
    go_wp2_with fail
    refine (wraps1f ib hy h3).mono ?_
    rintro e W3 ⟨rfl, g⟩
    replace A0 := A0.gr g
    replace A1 := A1.gr g
    replace G := G.trans g
    clear c0 c1 f1 l0 l1 g
    have c0 := A0.cell
    have c1 := A1.cell
    have f1 := A1.free
    have l0 := A0.lt
    have l1 := A1.lt
    go_wp2_with fail
    refine (wraps1f id' hy h4).mono ?_
    rintro e W4 ⟨rfl, g⟩
    replace A0 := A0.gr g
    replace A1 := A1.gr g
    replace G := G.trans g
    clear c0 c1 f1 l0 l1 g
    have c0 := A0.cell
    have c1 := A1.cell
    have f1 := A1.free
    have l0 := A0.lt
    have l1 := A1.lt
    go_wp2_with fail
    refine (may1t hm).mono ?_
    rintro e W5 ⟨rfl, g⟩
    have B2 := (At.new W4 _ _).gr g
    replace A1 := (A1.alloc _).gr g
    replace G := (G.alloc _).trans g
    clear c0 c1 f1 l0 l1 g A0
    have c1 := A1.cell
    have f1 := A1.free
    have l1 := A1.lt
    have c2 := B2.cell
    go_wp2
    (try simp only [Exit.inBlock, Exit.then])
    refine bodyPost_ret (by simp [results, Try.results108, go_sem, c1]; try rfl) rfl ?_
    refine Rt.rect2 Hh.out ?_
    repeat (first | with_reducible exact G | with_reducible exact Gr.refl _ | with_reducible apply Gr.alloc | (with_reducible refine Gr.setCell ?_ ?_ _; rotate_left; (simp; try omega)))
  · have H := moveR_f hB
    clear hB
    have Hh := Lib.hid H
    clear H
    go_enter Try.func108, Try.ntmps108
    go_wp2_with fail
    refine (wraps1f ia hx h1).mono ?_
    rintro e W1 ⟨rfl, g1⟩
    have A0 := ((At.new w _ _).alloc _).gr g1
    have A1 := (At.new (w.alloc _) _ _).gr g1
    simp only [World.size_alloc] at A1
    have G := (((Gr.refl w).alloc _).alloc _).trans g1
    clear g1
    have c0 := A0.cell
    have c1 := A1.cell
    have f1 := A1.free
    have l0 := A0.lt
    have l1 := A1.lt
    go_wp2_with fail
    refine (wraps1f ic hx h2).mono ?_
    rintro e W2 ⟨rfl, g⟩
    replace A0 := A0.gr g
    replace A1 := A1.gr g
    replace G := G.trans g
    clear c0 c1 f1 l0 l1 g
    have c0 := A0.cell
    have c1 := A1.cell
    have f1 := A1.free
    have l0 := A0.lt
    have l1 := A1.lt
    go_wp2_with fail
    refine (wraps1f ib hy h3).mono ?_
    rintro e W3 ⟨rfl, g⟩
    replace A0 := A0.gr g
    replace A1 := A1.gr g
    replace G := G.trans g
    clear c0 c1 f1 l0 l1 g
    have c0 := A0.cell
    have c1 := A1.cell
    have f1 := A1.free
    have l0 := A0.lt
    have l1 := A1.lt
    go_wp2_with fail
    refine (wraps1f id' hy h4).mono ?_
    rintro e W4 ⟨rfl, g⟩
    replace A0 := A0.gr g
    replace A1 := A1.gr g
    replace G := G.trans g
    clear c0 c1 f1 l0 l1 g
    have c0 := A0.cell
    have c1 := A1.cell
    have f1 := A1.free
    have l0 := A0.lt
    have l1 := A1.lt
    go_wp2_with fail
    refine (may1f hm).mono ?_
    rintro e W5 ⟨rfl, g⟩
    have B2 := (At.new W4 _ _).gr g
    replace A1 := (A1.alloc _).gr g
    replace G := (G.alloc _).trans g
    clear c0 c1 f1 l0 l1 g A0
    have c1 := A1.cell
    have f1 := A1.free
    have l1 := A1.lt
    have c2 := B2.cell
    go_wp2
    (try simp only [Exit.inBlock, Exit.then])
    refine bodyPost_ret (by simp [results, Try.results108, go_sem, c1]; try rfl) rfl ?_
    refine Rt.rect2 Hh.out ?_
    repeat (first | with_reducible exact G | with_reducible exact Gr.refl _ | with_reducible apply Gr.alloc | (with_reducible refine Gr.setCell ?_ ?_ _; rotate_left; (simp; try omega)))

end Go.Proofs.Ytafceieenhogpaa
