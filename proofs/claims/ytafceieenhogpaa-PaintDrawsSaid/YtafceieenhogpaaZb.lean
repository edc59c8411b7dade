/-
  What is proved: what Move and Area hand back of a rectangle within the bounds. what Area hands back of a rectangle that may be. what Scale hands back, and the document's own answers for Move and Scale. plain facts on moved and scaled rectangles; no Go in sight.
-/
import Derived.Test.YtafceieenhogpaaZa
import Derived.IntWalk
import Derived.Lib.Hide
namespace Go.Proofs.Ytafceieenhogpaa
open Go.RowKit Go.Sort

def Bd (n : Int) : Prop := -1048576 ≤ n ∧ n ≤ 1048576
def moveB (a b c d x y : Int) : Bool := decide (-2097152 ≤ x ∧ x ≤ 2097152 ∧ -2097152 ≤ y ∧ y ≤ 2097152) && mayB (a + x) (b + y) (c + x) (d + y)
def moveR (a b c d x y : Int) : Rc := if moveB a b c d x y = true then ⟨a + x, b + y, c + x, d + y⟩ else ⟨0, 0, 0, 0⟩
def moveE (a b c d x y : Int) : Int := if moveB a b c d x y = true then 0 else 4

theorem Rt.rect2 {w w' : World} {a b c d m : Int} {r : Rc} {n : Int} (h : r.a = a ∧ r.b = b ∧ r.c = c ∧ r.d = d ∧ n = m) (hg : Gr w w') :
    Rt w (.tuple #[.agg #[.int .i64 r.a, .int .i64 r.b, .int .i64 r.c, .int .i64 r.d], .int .i64 n]) (.returned (.tuple #[.agg #[.int .i64 a, .int .i64 b, .int .i64 c, .int .i64 d], .int .i64 m])) w' := by
  obtain ⟨rfl, rfl, rfl, rfl, rfl⟩ := h
  exact ⟨rfl, hg⟩
theorem moveR_t {a b c d x y : Int} (h : moveB a b c d x y = true) : (moveR a b c d x y).a = a + x ∧ (moveR a b c d x y).b = b + y ∧ (moveR a b c d x y).c = c + x ∧ (moveR a b c d x y).d = d + y ∧ moveE a b c d x y = 0 := by
  unfold moveR moveE; rw [if_pos h, if_pos h]; exact ⟨rfl, rfl, rfl, rfl, rfl⟩
theorem moveR_f {a b c d x y : Int} (h : moveB a b c d x y = false) : (moveR a b c d x y).a = 0 ∧ (moveR a b c d x y).b = 0 ∧ (moveR a b c d x y).c = 0 ∧ (moveR a b c d x y).d = 0 ∧ moveE a b c d x y = 4 := by
  unfold moveR moveE; rw [if_neg (by simp [h]), if_neg (by simp [h])]; exact ⟨rfl, rfl, rfl, rfl, rfl⟩

theorem may1f {a b c d : Int} {w : World} (h : mayB a b c d = false) :
    Calls Try.prog 119 #[.agg #[.int .i64 a, .int .i64 b, .int .i64 c, .int .i64 d]] w (Rt w (.bool false)) := by
  have := may1 a b c d w; rw [h] at this; exact this
theorem may1t {a b c d : Int} {w : World} (h : mayB a b c d = true) :
    Calls Try.prog 119 #[.agg #[.int .i64 a, .int .i64 b, .int .i64 c, .int .i64 d]] w (Rt w (.bool true)) := by
  have := may1 a b c d w; rw [h] at this; exact this
/-- Whether a sum of two ints is none. -/
def wrapsB (a b : Int) : Bool := decide (a + b < -9223372036854775808 ∨ 9223372036854775807 < a + b)
set_option maxHeartbeats 1000000 in
theorem wraps1 (a b : Int) (w : World) (ha : I64 a) (hb : I64 b) :
    Calls Try.prog 120 #[.int .i64 a, .int .i64 b] w (Rt w (.bool (wrapsB a b))) := by
  obtain ⟨ha1, ha2⟩ := ha
  obtain ⟨hb1, hb2⟩ := hb
  have hw : wrap64 (a + b) = if a + b < -9223372036854775808 then a + b + 18446744073709551616 else if 9223372036854775807 < a + b then a + b - 18446744073709551616 else a + b := by
    unfold wrap64; split
    · omega
    · split <;> omega
  have H := Lib.hid hw
  clear hw
  go_enter Try.func120, Try.ntmps120
  go_wp2
  all_goals
    go_ret
    refine Rt.bool ?_ ?_
    · have hw := H.out
      simp only [wrapsB, decide_eq_true_eq]
      split at hw
      · by_cases p : wrap64 (a + b) < a <;> by_cases q : b < 0 <;> simp [p, q] <;> omega
      · split at hw
        · by_cases p : wrap64 (a + b) < a <;> by_cases q : b < 0 <;> simp [p, q] <;> omega
        · by_cases p : wrap64 (a + b) < a <;> by_cases q : b < 0 <;> simp [p, q] <;> omega
    · repeat (first | with_reducible exact Gr.refl _ | with_reducible apply Gr.drew | with_reducible apply Gr.drewN | with_reducible apply Gr.grow | with_reducible apply Gr.alloc)

attribute [local go_sem] cell?_grow frozen?_grow nlt_r

theorem wraps1f {a b : Int} {w : World} (ha : I64 a) (hb : I64 b) (h : wrapsB a b = false) : Calls Try.prog 120 #[.int .i64 a, .int .i64 b] w (Rt w (.bool false)) := by
  have := wraps1 a b w ha hb; rw [h] at this; exact this
theorem wraps1t {a b : Int} {w : World} (ha : I64 a) (hb : I64 b) (h : wrapsB a b = true) : Calls Try.prog 120 #[.int .i64 a, .int .i64 b] w (Rt w (.bool true)) := by
  have := wraps1 a b w ha hb; rw [h] at this; exact this
theorem wraps_no {a b : Int} (h : -9223372036854775808 ≤ a + b ∧ a + b ≤ 9223372036854775807) : wrapsB a b = false := by
  unfold wrapsB; simp; omega
theorem move_no {a b c d x y : Int} (h : wrapsB a x = true ∨ wrapsB c x = true ∨ wrapsB b y = true ∨ wrapsB d y = true) : moveB a b c d x y = false := by
  cases hm : moveB a b c d x y with
  | false => rfl
  | true => unfold moveB mayB wrapsB at *; simp at *; omega
theorem Bd.i64 {n : Int} (h : Bd n) : I64 n := by unfold Bd at h; unfold I64; omega

set_option maxHeartbeats 4000000 in
theorem move1 (a b c d x y : Int) (w : World) (ha : Bd a) (hb : Bd b) (hc : Bd c) (hd : Bd d) (hx : I64 x) (hy : I64 y) :
    Calls Try.prog 108 #[.agg #[.int .i64 a, .int .i64 b, .int .i64 c, .int .i64 d], .int .i64 x, .int .i64 y] w
      (Rt w (.tuple #[.agg #[.int .i64 (moveR a b c d x y).a, .int .i64 (moveR a b c d x y).b, .int .i64 (moveR a b c d x y).c, .int .i64 (moveR a b c d x y).d], .int .i64 (moveE a b c d x y)])) := by
  have ia := ha.i64
  have ib := hb.i64
  have ic := hc.i64
  have id' := hd.i64
  obtain ⟨ha1, ha2⟩ := ha
  obtain ⟨hb1, hb2⟩ := hb
  obtain ⟨hc1, hc2⟩ := hc
  obtain ⟨hd1, hd2⟩ := hd
  by_cases h1 : wrapsB a x = true
  · have H := moveR_f (a := a) (b := b) (c := c) (d := d) (x := x) (y := y) (move_no (.inl h1))
    have Hh := Lib.hid H
    clear H
    go_enter Try.func108, Try.ntmps108
    go_wp2_with fail
    refine (wraps1t ia hx h1).mono ?_
    rintro e W1 ⟨rfl, g1⟩
    have A0 := ((At.new w _ _).alloc _).gr g1
    have A1 := (At.new (w.alloc _) _ _).gr g1
    simp only [World.size_alloc] at A1
    have G := (((Gr.refl w).alloc _).alloc _).trans g1
    clear g1
    have c0 := A0.cell
    have c1 := A1.cell
    have f1 := A1.free
    have l0 := A0.lt
    have l1 := A1.lt
    go_wp2_with fail
    (try simp only [Exit.inBlock, Exit.then])
    refine bodyPost_ret (by simp [results, Try.results108, go_sem, c1]; try rfl) rfl ?_
    refine Rt.rect2 Hh.out ?_
    repeat (first | with_reducible exact G | with_reducible exact Gr.refl _ | with_reducible apply Gr.alloc | (with_reducible refine Gr.setCell ?_ ?_ _; rotate_left; (simp; try omega)))
  simp only [Bool.not_eq_true] at h1
  by_cases h2 : wrapsB c x = true
  · have H := moveR_f (a := a) (b := b) (c := c) (d := d) (x := x) (y := y) (move_no (.inr (.inl h2)))
    have Hh := Lib.hid H
    clear H
    go_enter Try.func108, Try.ntmps108
    go_wp2_with fail
    refine (wraps1f ia hx h1).mono ?_
    rintro e W1 ⟨rfl, g1⟩
    have A0 := ((At.new w _ _).alloc _).gr g1
    have A1 := (At.new (w.alloc _) _ _).gr g1
    simp only [World.size_alloc] at A1
    have G := (((Gr.refl w).alloc _).alloc _).trans g1
    clear g1
    have c0 := A0.cell
    have c1 := A1.cell
    have f1 := A1.free
    have l0 := A0.lt
    have l1 := A1.lt
    go_wp2_with fail
    refine (wraps1t ic hx h2).mono ?_
    rintro e W2 ⟨rfl, g⟩
    replace A0 := A0.gr g
    replace A1 := A1.gr g
    replace G := G.trans g
    clear c0 c1 f1 l0 l1 g
    have c0 := A0.cell
    have c1 := A1.cell
    have f1 := A1.free
    have l0 := A0.lt
    have l1 := A1.lt
    go_wp2_with fail
    (try simp only [Exit.inBlock, Exit.then])
    refine bodyPost_ret (by simp [results, Try.results108, go_sem, c1]; try rfl) rfl ?_
    refine Rt.rect2 Hh.out ?_
    repeat (first | with_reducible exact G | with_reducible exact Gr.refl _ | with_reducible apply Gr.alloc | (with_reducible refine Gr.setCell ?_ ?_ _; rotate_left; (simp; try omega)))
  simp only [Bool.not_eq_true] at h2
  by_cases h3 : wrapsB b y = true
  · have H := moveR_f (a := a) (b := b) (c := c) (d := d) (x := x) (y := y) (move_no (.inr (.inr (.inl h3))))
    have Hh := Lib.hid H
    clear H
    go_enter Try.func108, Try.ntmps108
    go_wp2_with fail
    refine (wraps1f ia hx h1).mono ?_
    rintro e W1 ⟨rfl, g1⟩
    have A0 := ((At.new w _ _).alloc _).gr g1
    have A1 := (At.new (w.alloc _) _ _).gr g1
    simp only [World.size_alloc] at A1
    have G := (((Gr.refl w).alloc _).alloc _).trans g1
    clear g1
    have c0 := A0.cell
    have c1 := A1.cell
    have f1 := A1.free
    have l0 := A0.lt
    have l1 := A1.lt
    go_wp2_with fail
    refine (wraps1f ic hx h2).mono ?_
    rintro e W2 ⟨rfl, g⟩
    replace A0 := A0.gr g
    replace A1 := A1.gr g
    replace G := G.trans g
    clear c0 c1 f1 l0 l1 g
    have c0 := A0.cell
    have c1 := A1.cell
    have f1 := A1.free
    have l0 := A0.lt
    have l1 := A1.lt
    go_wp2_with fail
    refine (wraps1t ib hy h3).mono ?_
    rintro e W3 ⟨rfl, g⟩
    replace A0 := A0.gr g
    replace A1 := A1.gr g
    replace G := G.trans g
    clear c0 c1 f1 l0 l1 g
    have c0 := A0.cell
    have c1 := A1.cell
    have f1 := A1.free
    have l0 := A0.lt
    have l1 := A1.lt
    go_wp2_with fail
    (try simp only [Exit.inBlock, Exit.then])
    refine bodyPost_ret (by simp [results, Try.results108, go_sem, c1]; try rfl) rfl ?_
    refine Rt.rect2 Hh.out ?_
    repeat (first | with_reducible exact G | with_reducible exact Gr.refl _ | with_reducible apply Gr.alloc | (with_reducible refine Gr.setCell ?_ ?_ _; rotate_left; (simp; try omega)))
  simp only [Bool.not_eq_true] at h3
  by_cases h4 : wrapsB d y = true
  · have H := moveR_f (a := a) (b := b) (c := c) (d := d) (x := x) (y := y) (move_no (.inr (.inr (.inr h4))))
    have Hh := Lib.hid H
    clear H
    go_enter Try.func108, Try.ntmps108
    go_wp2_with fail
    refine (wraps1f ia hx h1).mono ?_
    rintro e W1 ⟨rfl, g1⟩
    have A0 := ((At.new w _ _).alloc _).gr g1
    have A1 := (At.new (w.alloc _) _ _).gr g1
    simp only [World.size_alloc] at A1
    have G := (((Gr.refl w).alloc _).alloc _).trans g1
    clear g1
    have c0 := A0.cell
    have c1 := A1.cell
    have f1 := A1.free
    have l0 := A0.lt
    have l1 := A1.lt
    go_wp2_with fail
    refine (wraps1f ic hx h2).mono ?_
    rintro e W2 ⟨rfl, g⟩
    replace A0 := A0.gr g
    replace A1 := A1.gr g
    replace G := G.trans g
    clear c0 c1 f1 l0 l1 g
    have c0 := A0.cell
    have c1 := A1.cell
    have f1 := A1.free
    have l0 := A0.lt
    have l1 := A1.lt
    go_wp2_with fail
    refine (wraps1f ib hy h3).mono ?_
    rintro e W3 ⟨rfl, g⟩
    replace A0 := A0.gr g
    replace A1 := A1.gr g
    replace G := G.trans g
    clear c0 c1 f1 l0 l1 g
    have c0 := A0.cell
    have c1 := A1.cell
    have f1 := A1.free
    have l0 := A0.lt
    have l1 := A1.lt
    go_wp2_with fail
    refine (wraps1t id' hy h4).mono ?_
    rintro e W4 ⟨rfl, g⟩
    replace A0 := A0.gr g
    replace A1 := A1.gr g
    replace G := G.trans g
    clear c0 c1 f1 l0 l1 g
    have c0 := A0.cell
    have c1 := A1.cell
    have f1 := A1.free
    have l0 := A0.lt
    have l1 := A1.lt
    go_wp2_with fail
    (try simp only [Exit.inBlock, Exit.then])
    refine bodyPost_ret (by simp [results, Try.results108, go_sem, c1]; try rfl) rfl ?_
    refine Rt.rect2 Hh.out ?_
    repeat (first | with_reducible exact G | with_reducible exact Gr.refl _ | with_reducible apply Gr.alloc | (with_reducible refine Gr.setCell ?_ ?_ _; rotate_left; (simp; try omega)))
  simp only [Bool.not_eq_true] at h4
  have hB : moveB a b c d x y = true ∨ (moveB a b c d x y = false ∧ mayB (a + x) (b + y) (c + x) (d + y) = false) := by
    cases hm : mayB (a + x) (b + y) (c + x) (d + y) with
    | true => left; unfold moveB; rw [hm]; simp only [mayB, decide_eq_true_eq] at hm; simp; omega
    | false => right; unfold moveB; rw [hm]; simp
  have e1 : -9223372036854775808 ≤ a + x ∧ a + x ≤ 9223372036854775807 := by simp only [wrapsB, decide_eq_false_iff_not] at h1; omega
  have e2 : -9223372036854775808 ≤ c + x ∧ c + x ≤ 9223372036854775807 := by simp only [wrapsB, decide_eq_false_iff_not] at h2; omega
  have e3 : -9223372036854775808 ≤ b + y ∧ b + y ≤ 9223372036854775807 := by simp only [wrapsB, decide_eq_false_iff_not] at h3; omega
  have e4 : -9223372036854775808 ≤ d + y ∧ d + y ≤ 9223372036854775807 := by simp only [wrapsB, decide_eq_false_iff_not] at h4; omega
  obtain ⟨e11, e12⟩ := e1
  obtain ⟨e21, e22⟩ := e2
  obtain ⟨e31, e32⟩ := e3
  obtain ⟨e41, e42⟩ := e4
  rcases hB with hB | ⟨hB, hm⟩
  · have hm : mayB (a + x) (b + y) (c + x) (d + y) = true := by unfold moveB at hB; simp only [Bool.and_eq_true] at hB; exact hB.2
    have H := moveR_t hB
    clear hB
    have Hh := Lib.hid H
    clear H
    go_enter Try.func108, Try.ntmps108
    go_wp2_with fail
    refine (wraps1f ia hx h1).mono ?_
    rintro e W1 ⟨rfl, g1⟩
    have A0 := ((At.new w _ _).alloc _).gr g1
    have A1 := (At.new (w.alloc _) _ _).gr g1
    simp only [World.size_alloc] at A1
    have G := (((Gr.refl w).alloc _).alloc _).trans g1
    clear g1
    have c0 := A0.cell
    have c1 := A1.cell
    have f1 := A1.free
    have l0 := A0.lt
    have l1 := A1.lt
    go_wp2_with fail
    refine (wraps1f ic hx h2).mono ?_
    rintro e W2 ⟨rfl, g⟩
    replace A0 := A0.gr g
    replace A1 := A1.gr g
    replace G := G.trans g
    clear c0 c1 f1 l0 l1 g
    have c0 := A0.cell
    have c1 := A1.cell
    have f1 := A1.free
    have l0 := A0.lt
    have l1 := A1.lt
    go_wp2_with fail
    refine (wraps1f ib hy h3).mono ?_
    rintro e W3 ⟨rfl, g⟩
    replace A0 := A0.gr g
    replace A1 := A1.gr g
    replace G := G.trans g
    clear c0 c1 f1 l0 l1 g
    have c0 := A0.cell
    have c1 := A1.cell
    have f1 := A1.free
    have l0 := A0.lt
    have l1 := A1.lt
    go_wp2_with fail
    refine (wraps1f id' hy h4).mono ?_
    rintro e W4 ⟨rfl, g⟩
    replace A0 := A0.gr g
    replace A1 := A1.gr g
    replace G := G.trans g
    clear c0 c1 f1 l0 l1 g
    have c0 := A0.cell
    have c1 := A1.cell
    have f1 := A1.free
    have l0 := A0.lt
    have l1 := A1.lt
    go_wp2_with fail
    refine (may1t hm).mono ?_
    rintro e W5 ⟨rfl, g⟩
    have B2 := (At.new W4 _ _).gr g
    replace A1 := (A1.alloc _).gr g
    replace G := (G.alloc _).trans g
    clear c0 c1 f1 l0 l1 g A0
    have c1 := A1.cell
    have f1 := A1.free
    have l1 := A1.lt
    have c2 := B2.cell
    go_wp2
    (try simp only [Exit.inBlock, Exit.then])
    refine bodyPost_ret (by simp [results, Try.results108, go_sem, c1]; try rfl) rfl ?_
    refine Rt.rect2 Hh.out ?_
    repeat (first | with_reducible exact G | with_reducible exact Gr.refl _ | with_reducible apply Gr.alloc | (with_reducible refine Gr.setCell ?_ ?_ _; rotate_left; (simp; try omega)))
  · have H := moveR_f hB
    clear hB
    have Hh := Lib.hid H
    clear H
    go_enter Try.func108, Try.ntmps108
    go_wp2_with fail
    refine (wraps1f ia hx h1).mono ?_
    rintro e W1 ⟨rfl, g1⟩
    have A0 := ((At.new w _ _).alloc _).gr g1
    have A1 := (At.new (w.alloc _) _ _).gr g1
    simp only [World.size_alloc] at A1
    have G := (((Gr.refl w).alloc _).alloc _).trans g1
    clear g1
    have c0 := A0.cell
    have c1 := A1.cell
    have f1 := A1.free
    have l0 := A0.lt
    have l1 := A1.lt
    go_wp2_with fail
    refine (wraps1f ic hx h2).mono ?_
    rintro e W2 ⟨rfl, g⟩
    replace A0 := A0.gr g
    replace A1 := A1.gr g
    replace G := G.trans g
    clear c0 c1 f1 l0 l1 g
    have c0 := A0.cell
    have c1 := A1.cell
    have f1 := A1.free
    have l0 := A0.lt
    have l1 := A1.lt
    go_wp2_with fail
    refine (wraps1f ib hy h3).mono ?_
    rintro e W3 ⟨rfl, g⟩
    replace A0 := A0.gr g
    replace A1 := A1.gr g
    replace G := G.trans g
    clear c0 c1 f1 l0 l1 g
    have c0 := A0.cell
    have c1 := A1.cell
    have f1 := A1.free
    have l0 := A0.lt
    have l1 := A1.lt
    go_wp2_with fail
    refine (wraps1f id' hy h4).mono ?_
    rintro e W4 ⟨rfl, g⟩
    replace A0 := A0.gr g
    replace A1 := A1.gr g
    replace G := G.trans g
    clear c0 c1 f1 l0 l1 g
    have c0 := A0.cell
    have c1 := A1.cell
    have f1 := A1.free
    have l0 := A0.lt
    have l1 := A1.lt
    go_wp2_with fail
    refine (may1f hm).mono ?_
    rintro e W5 ⟨rfl, g⟩
    have B2 := (At.new W4 _ _).gr g
    replace A1 := (A1.alloc _).gr g
    replace G := (G.alloc _).trans g
    clear c0 c1 f1 l0 l1 g A0
    have c1 := A1.cell
    have f1 := A1.free
    have l1 := A1.lt
    have c2 := B2.cell
    go_wp2
    (try simp only [Exit.inBlock, Exit.then])
    refine bodyPost_ret (by simp [results, Try.results108, go_sem, c1]; try rfl) rfl ?_
    refine Rt.rect2 Hh.out ?_
    repeat (first | with_reducible exact G | with_reducible exact Gr.refl _ | with_reducible apply Gr.alloc | (with_reducible refine Gr.setCell ?_ ?_ _; rotate_left; (simp; try omega)))

end Go.Proofs.Ytafceieenhogpaa
namespace Go.Proofs.Ytafceieenhogpaa
open Go.RowKit Go.Sort

attribute [local go_sem] cell?_grow frozen?_grow nlt_r

def areaI (a b c d : Int) : Int := (c - a) * (d - b)

theorem area_bd {a b c d : Int} (h : mayB a b c d = true) : 0 ≤ (c - a) * (d - b) ∧ (c - a) * (d - b) ≤ 4398046511104 := by
  simp only [mayB, decide_eq_true_eq] at h
  obtain ⟨b1, b2, b3, b4, b5, b6⟩ := h
  have h1 : 0 ≤ c - a := by omega
  have h2 : c - a ≤ 2097152 := by omega
  have h3 : 0 ≤ d - b := by omega
  have h4 : d - b ≤ 2097152 := by omega
  refine ⟨Int.mul_nonneg h1 h3, ?_⟩
  calc (c - a) * (d - b) ≤ 2097152 * (d - b) := Int.mul_le_mul_of_nonneg_right h2 h3
    _ ≤ 2097152 * 2097152 := Int.mul_le_mul_of_nonneg_left h4 (by omega)

set_option maxHeartbeats 1000000 in
theorem area1 (a b c d : Int) (w : World) (h : mayB a b c d = true) :
    Calls Try.prog 65 #[.agg #[.int .i64 a, .int .i64 b, .int .i64 c, .int .i64 d]] w (Rt w (.int .i64 (areaI a b c d))) := by
  have hp := area_bd h
  obtain ⟨hp1, hp2⟩ := hp
  have hb := h
  simp only [mayB, decide_eq_true_eq] at hb
  obtain ⟨b1, b2, b3, b4, b5, b6⟩ := hb
  clear h
  go_enter Try.func65, Try.ntmps65
  go_wp2
  go_ret
  refine Rt.int ?_ ?_
  · unfold areaI; first | rfl | (exact IntWalk.i64_in _ (by omega))
  · repeat (first | with_reducible exact Gr.refl _ | with_reducible apply Gr.drew | with_reducible apply Gr.alloc)

set_option maxHeartbeats 1000000 in
theorem refarea1 (a b c d : Int) (w : World) (h : mayB a b c d = true) :
    Calls Try.prog 69 #[.agg #[.int .i64 a, .int .i64 b, .int .i64 c, .int .i64 d]] w (Rt w (.int .i64 (areaI a b c d))) := by
  have hp := area_bd h
  obtain ⟨hp1, hp2⟩ := hp
  have hb := h
  simp only [mayB, decide_eq_true_eq] at hb
  obtain ⟨b1, b2, b3, b4, b5, b6⟩ := hb
  clear h
  have c1 := refempty1 a b c d
  by_cases e : emptyB a b c d = true
  · have hz : 0 = areaI a b c d := by
      simp [emptyB] at e
      unfold areaI
      rcases e with e | e
      · have : c - a = 0 := by omega
        rw [this]; simp
      · have : d - b = 0 := by omega
        rw [this]; simp
    rw [e] at c1
    have Hz := Lib.hid hz
    clear hz
    go_enter Try.func69, Try.ntmps69
    go_wp2_with fail
    refine (c1 _).mono ?_
    rintro e w' ⟨rfl, ⟨⟨n, os⟩, rfl⟩⟩
    go_wp2
    go_ret
    refine Rt.int Hz.out ?_
    repeat (first | with_reducible exact Gr.refl _ | with_reducible apply Gr.drew | with_reducible apply Gr.drewN | with_reducible apply Gr.grow | with_reducible apply Gr.alloc)
  · simp only [Bool.not_eq_true] at e
    rw [e] at c1
    go_enter Try.func69, Try.ntmps69
    go_wp2_with fail
    refine (c1 _).mono ?_
    rintro e w' ⟨rfl, ⟨⟨n, os⟩, rfl⟩⟩
    go_wp2
    go_ret
    refine Rt.int ?_ ?_
    · unfold areaI; first | rfl | (exact IntWalk.i64_in _ (by omega))
    · repeat (first | with_reducible exact Gr.refl _ | with_reducible apply Gr.drew | with_reducible apply Gr.drewN | with_reducible apply Gr.grow | with_reducible apply Gr.alloc)

end Go.Proofs.Ytafceieenhogpaa
namespace Go.Proofs.Ytafceieenhogpaa
open Go.RowKit Go.Sort

attribute [local go_sem] cell?_grow frozen?_grow nlt_r

def scaleB (a b c d n : Int) : Bool := mayB a b c d && mayB (n * a) (n * b) (n * c) (n * d)
def scaleR (a b c d n : Int) : Rc := if n < 1 ∨ 8 < n then ⟨0, 0, 0, 0⟩ else if scaleB a b c d n = true then ⟨n * a, n * b, n * c, n * d⟩ else ⟨0, 0, 0, 0⟩
def scaleE (a b c d n : Int) : Int := if n < 1 ∨ 8 < n then 1 else if scaleB a b c d n = true then 0 else 4
theorem scaleR_o {a b c d n : Int} (h : n < 1 ∨ 8 < n) : (scaleR a b c d n).a = 0 ∧ (scaleR a b c d n).b = 0 ∧ (scaleR a b c d n).c = 0 ∧ (scaleR a b c d n).d = 0 ∧ scaleE a b c d n = 1 := by
  unfold scaleR scaleE; rw [if_pos h, if_pos h]; exact ⟨rfl, rfl, rfl, rfl, rfl⟩
theorem scaleR_t {a b c d n : Int} (h : 1 ≤ n ∧ n ≤ 8) (hB : scaleB a b c d n = true) : (scaleR a b c d n).a = n * a ∧ (scaleR a b c d n).b = n * b ∧ (scaleR a b c d n).c = n * c ∧ (scaleR a b c d n).d = n * d ∧ scaleE a b c d n = 0 := by
  have hn : ¬(n < 1 ∨ 8 < n) := by omega
  unfold scaleR scaleE; rw [if_neg hn, if_neg hn, if_pos hB, if_pos hB]; exact ⟨rfl, rfl, rfl, rfl, rfl⟩
theorem scaleR_f {a b c d n : Int} (h : 1 ≤ n ∧ n ≤ 8) (hB : scaleB a b c d n = false) : (scaleR a b c d n).a = 0 ∧ (scaleR a b c d n).b = 0 ∧ (scaleR a b c d n).c = 0 ∧ (scaleR a b c d n).d = 0 ∧ scaleE a b c d n = 4 := by
  have hn : ¬(n < 1 ∨ 8 < n) := by omega
  have hb : ¬(scaleB a b c d n = true) := by simp [hB]
  unfold scaleR scaleE; rw [if_neg hn, if_neg hn, if_neg hb, if_neg hb]; exact ⟨rfl, rfl, rfl, rfl, rfl⟩

end Go.Proofs.Ytafceieenhogpaa
namespace Go.Proofs.Ytafceieenhogpaa

theorem clamp_bd (n : Int) : -1048576 ≤ clamp n ∧ clamp n ≤ 1048576 := by unfold clamp; omega
theorem good_may (a b c d : Int) : mayB (goodR a b c d).a (goodR a b c d).b (goodR a b c d).c (goodR a b c d).d = true := by
  have h1 := clamp_bd a
  have h2 := clamp_bd b
  have h3 := clamp_bd c
  have h4 := clamp_bd d
  dsimp only [mayB, goodR]
  rw [decide_eq_true_eq]
  omega
theorem small_bd (a b c d : Int) : -4 ≤ (smallR a b c d).a ∧ (smallR a b c d).a ≤ 19 ∧ -4 ≤ (smallR a b c d).b ∧ (smallR a b c d).b ≤ 19 ∧ (smallR a b c d).a ≤ (smallR a b c d).c ∧ (smallR a b c d).c ≤ (smallR a b c d).a + 12 ∧
    (smallR a b c d).b ≤ (smallR a b c d).d ∧ (smallR a b c d).d ≤ (smallR a b c d).b + 12 := by
  have h1 := around_bd a 24 (by omega)
  have h2 := around_bd b 24 (by omega)
  have h3 := around_bd c 13 (by omega)
  have h4 := around_bd d 13 (by omega)
  dsimp only [smallR]
  omega
theorem may_bd {a b c d : Int} (h : mayB a b c d = true) : Bd a ∧ Bd b ∧ Bd c ∧ Bd d := by
  simp only [mayB, decide_eq_true_eq] at h
  unfold Bd
  omega
/-- Of a rectangle that is moved. -/
theorem move_area {a b c d x y : Int} (h : moveE a b c d x y = 0) : areaI (moveR a b c d x y).a (moveR a b c d x y).b (moveR a b c d x y).c (moveR a b c d x y).d = areaI a b c d ∧ mayB (moveR a b c d x y).a (moveR a b c d x y).b (moveR a b c d x y).c (moveR a b c d x y).d = true := by
  by_cases hB : moveB a b c d x y = true
  · obtain ⟨h1, h2, h3, h4, _⟩ := moveR_t hB
    rw [h1, h2, h3, h4]
    refine ⟨?_, ?_⟩
    · unfold areaI
      rw [show c + x - (a + x) = c - a from by omega, show d + y - (b + y) = d - b from by omega]
    · unfold moveB at hB; simp only [Bool.and_eq_true] at hB; exact hB.2
  · simp only [Bool.not_eq_true] at hB
    have := moveR_f hB
    omega
theorem scale_area {a b c d n : Int} (h : scaleE a b c d n = 0) : (1 ≤ n ∧ n ≤ 8) ∧ areaI (scaleR a b c d n).a (scaleR a b c d n).b (scaleR a b c d n).c (scaleR a b c d n).d = n * n * areaI a b c d ∧
    mayB (scaleR a b c d n).a (scaleR a b c d n).b (scaleR a b c d n).c (scaleR a b c d n).d = true ∧ mayB a b c d = true := by
  by_cases hn : n < 1 ∨ 8 < n
  · have := scaleR_o (a := a) (b := b) (c := c) (d := d) hn
    omega
  · have hn' : 1 ≤ n ∧ n ≤ 8 := by omega
    by_cases hB : scaleB a b c d n = true
    · obtain ⟨h1, h2, h3, h4, _⟩ := scaleR_t hn' hB
      rw [h1, h2, h3, h4]
      unfold scaleB at hB
      simp only [Bool.and_eq_true] at hB
      refine ⟨hn', ?_, hB.2, hB.1⟩
      unfold areaI
      rw [← Int.mul_sub, ← Int.mul_sub]
      rw [Int.mul_assoc n (c - a), Int.mul_left_comm (c - a) n (d - b), ← Int.mul_assoc]
    · simp only [Bool.not_eq_true] at hB
      have := scaleR_f hn' hB
      omega

end Go.Proofs.Ytafceieenhogpaa
