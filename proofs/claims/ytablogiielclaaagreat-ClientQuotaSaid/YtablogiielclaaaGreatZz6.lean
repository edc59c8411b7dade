/-
  What is proved: what Move and Area hand back of a rectangle within the bounds. what Scale hands back, and the document's own answers for Move and Scale. what Area hands back of a rectangle that may be. plain facts on moved and scaled rectangles; no Go in sight. what small calls of the document's answers for regions hand back: whether a list has a point; whether two lists are the same; rectangles near 0. what the document's own 'add' and 'spans' hand back. what the comparisons of rows of rectangles hand back. plain facts on the numbers of a list of rectangles; and on which rows of rectangles have the same sides; no Go in sight. what 'append' of a whole row of rectangles does to a row of the call's own. No conditions but a bound on the length.
-/
import Derived.Test.YtablogiielclaaaGreatZz1
import Derived.Test.YtablogiielclaaaGreatZz3
import Derived.Test.YtablogiielclaaaGreatZz5
import Derived.Test.YtablogiielclaaaGreatZz4
import Derived.Test.YtablogiielclaaaGreatZz2
import Derived.IntWalk
import Derived.Lib.Hide
import Derived.StillTailTactics
import Derived.Deep.QuietTactic
import Derived.BigQuiet
import Derived.OwnWalk
namespace Go.Proofs.YtablogiielclaaaGreat
open Go.RowKit Go.Sort

def Bd (n : Int) : Prop := -1048576 ≤ n ∧ n ≤ 1048576
def moveB (a b c d x y : Int) : Bool := decide (-2097152 ≤ x ∧ x ≤ 2097152 ∧ -2097152 ≤ y ∧ y ≤ 2097152) && mayB (a + x) (b + y) (c + x) (d + y)
def moveR (a b c d x y : Int) : Rc := if moveB a b c d x y = true then ⟨a + x, b + y, c + x, d + y⟩ else ⟨0, 0, 0, 0⟩
def moveE (a b c d x y : Int) : Int := if moveB a b c d x y = true then 0 else 4

theorem Rt.rect2 {w w' : World} {a b c d m : Int} {r : Rc} {n : Int} (h : r.a = a ∧ r.b = b ∧ r.c = c ∧ r.d = d ∧ n = m) (hg : Gr w w') :
    Rt w (.tuple #[.agg #[.int .i64 r.a, .int .i64 r.b, .int .i64 r.c, .int .i64 r.d], .int .i64 n]) (.returned (.tuple #[.agg #[.int .i64 a, .int .i64 b, .int .i64 c, .int .i64 d], .int .i64 m])) w' := by
  obtain ⟨rfl, rfl, rfl, rfl, rfl⟩ := h
  exact ⟨rfl, hg⟩
theorem moveR_t {a b c d x y : Int} (h : moveB a b c d x y = true) : (moveR a b c d x y).a = a + x ∧ (moveR a b c d x y).b = b + y ∧ (moveR a b c d x y).c = c + x ∧ (moveR a b c d x y).d = d + y ∧ moveE a b c d x y = 0 := by
  unfold moveR moveE; rw [if_pos h, if_pos h]; exact ⟨rfl, rfl, rfl, rfl, rfl⟩
theorem moveR_f {a b c d x y : Int} (h : moveB a b c d x y = false) : (moveR a b c d x y).a = 0 ∧ (moveR a b c d x y).b = 0 ∧ (moveR a b c d x y).c = 0 ∧ (moveR a b c d x y).d = 0 ∧ moveE a b c d x y = 4 := by
  unfold moveR moveE; rw [if_neg (by simp [h]), if_neg (by simp [h])]; exact ⟨rfl, rfl, rfl, rfl, rfl⟩

theorem may1f {a b c d : Int} {w : World} (h : mayB a b c d = false) :
    Calls Tryz.prog 250 #[.agg #[.int .i64 a, .int .i64 b, .int .i64 c, .int .i64 d]] w (Rt w (.bool false)) := by
  have := may1 a b c d w; rw [h] at this; exact this
theorem may1t {a b c d : Int} {w : World} (h : mayB a b c d = true) :
    Calls Tryz.prog 250 #[.agg #[.int .i64 a, .int .i64 b, .int .i64 c, .int .i64 d]] w (Rt w (.bool true)) := by
  have := may1 a b c d w; rw [h] at this; exact this
/-- Whether a sum of two ints is none. -/
def wrapsB (a b : Int) : Bool := decide (a + b < -9223372036854775808 ∨ 9223372036854775807 < a + b)
set_option maxHeartbeats 1000000 in
theorem wraps1 (a b : Int) (w : World) (ha : I64 a) (hb : I64 b) :
    Calls Tryz.prog 251 #[.int .i64 a, .int .i64 b] w (Rt w (.bool (wrapsB a b))) := by
  obtain ⟨ha1, ha2⟩ := ha
  obtain ⟨hb1, hb2⟩ := hb
  have hw : wrap64 (a + b) = if a + b < -9223372036854775808 then a + b + 18446744073709551616 else if 9223372036854775807 < a + b then a + b - 18446744073709551616 else a + b := by
    unfold wrap64; split
    · omega
    · split <;> omega
  have H := Lib.hid hw
  clear hw
  go_enter Tryz.func251, Tryz.ntmps251
  go_wp2
  all_goals
    go_ret
    refine Rt.bool ?_ ?_
    · have hw := H.out
      simp only [wrapsB, decide_eq_true_eq]
      split at hw
      · by_cases p : wrap64 (a + b) < a <;> by_cases q : b < 0 <;> simp [p, q] <;> omega
      · split at hw
        · by_cases p : wrap64 (a + b) < a <;> by_cases q : b < 0 <;> simp [p, q] <;> omega
        · by_cases p : wrap64 (a + b) < a <;> by_cases q : b < 0 <;> simp [p, q] <;> omega
    · repeat (first | with_reducible exact Gr.refl _ | with_reducible apply Gr.drew | with_reducible apply Gr.drewN | with_reducible apply Gr.grow | with_reducible apply Gr.alloc)

attribute [local go_sem] cell?_grow frozen?_grow nlt_r

theorem wraps1f {a b : Int} {w : World} (ha : I64 a) (hb : I64 b) (h : wrapsB a b = false) : Calls Tryz.prog 251 #[.int .i64 a, .int .i64 b] w (Rt w (.bool false)) := by
  have := wraps1 a b w ha hb; rw [h] at this; exact this
theorem wraps1t {a b : Int} {w : World} (ha : I64 a) (hb : I64 b) (h : wrapsB a b = true) : Calls Tryz.prog 251 #[.int .i64 a, .int .i64 b] w (Rt w (.bool true)) := by
  have := wraps1 a b w ha hb; rw [h] at this; exact this
theorem wraps_no {a b : Int} (h : -9223372036854775808 ≤ a + b ∧ a + b ≤ 9223372036854775807) : wrapsB a b = false := by
  unfold wrapsB; simp; omega
theorem move_no {a b c d x y : Int} (h : wrapsB a x = true ∨ wrapsB c x = true ∨ wrapsB b y = true ∨ wrapsB d y = true) : moveB a b c d x y = false := by
  cases hm : moveB a b c d x y with
  | false => rfl
  | true => unfold moveB mayB wrapsB at *; simp at *; omega
theorem Bd.i64 {n : Int} (h : Bd n) : I64 n := by unfold Bd at h; unfold I64; omega

set_option maxHeartbeats 4000000 in
theorem move1 (a b c d x y : Int) (w : World) (ha : Bd a) (hb : Bd b) (hc : Bd c) (hd : Bd d) (hx : I64 x) (hy : I64 y) :
    Calls Tryz.prog 201 #[.agg #[.int .i64 a, .int .i64 b, .int .i64 c, .int .i64 d], .int .i64 x, .int .i64 y] w
      (Rt w (.tuple #[.agg #[.int .i64 (moveR a b c d x y).a, .int .i64 (moveR a b c d x y).b, .int .i64 (moveR a b c d x y).c, .int .i64 (moveR a b c d x y).d], .int .i64 (moveE a b c d x y)])) := by
  have ia := ha.i64
  have ib := hb.i64
  have ic := hc.i64
  have id' := hd.i64
  obtain ⟨ha1, ha2⟩ := ha
  obtain ⟨hb1, hb2⟩ := hb
  obtain ⟨hc1, hc2⟩ := hc
  obtain ⟨hd1, hd2⟩ := hd
  by_cases h1 : wrapsB a x = true
  · have H := moveR_f (a := a) (b := b) (c := c) (d := d) (x := x) (y := y) (move_no (.inl h1))
    have Hh := Lib.hid H
    clear H
    go_enter Tryz.func201, Tryz.ntmps201
    go_wp2_with fail
    refine (wraps1t ia hx h1).mono ?_
    rintro e W1 ⟨rfl, g1⟩
    have A0 := ((At.new w _ _).alloc _).gr g1
    have A1 := (At.new (w.alloc _) _ _).gr g1
    simp only [World.size_alloc] at A1
    have G := (((Gr.refl w).alloc _).alloc _).trans g1
    clear g1
    have c0 := A0.cell
    have c1 := A1.cell
    have f1 := A1.free
    have l0 := A0.lt
    have l1 := A1.lt
    go_wp2_with fail
    (try simp only [Exit.inBlock, Exit.then])
    refine bodyPost_ret (by simp [results, Tryz.results201, go_sem, c1]; try rfl) rfl ?_
    refine Rt.rect2 Hh.out ?_
    repeat (first | with_reducible exact G | with_reducible exact Gr.refl _ | with_reducible apply Gr.alloc | (with_reducible refine Gr.setCell ?_ ?_ _; rotate_left; (simp; try omega)))
  simp only [Bool.not_eq_true] at h1
  by_cases h2 : wrapsB c x = true
  · have H := moveR_f (a := a) (b := b) (c := c) (d := d) (x := x) (y := y) (move_no (.inr (.inl h2)))
    have Hh := Lib.hid H
    clear H
    go_enter Tryz.func201, Tryz.ntmps201
    go_wp2_with fail
    refine (wraps1f ia hx h1).mono ?_
    rintro e W1 ⟨rfl, g1⟩
    have A0 := ((At.new w _ _).alloc _).gr g1
    have A1 := (At.new (w.alloc _) _ _).gr g1
    simp only [World.size_alloc] at A1
    have G := (((Gr.refl w).alloc _).alloc _).trans g1
    clear g1
    have c0 := A0.cell
    have c1 := A1.cell
    have f1 := A1.free
    have l0 := A0.lt
    have l1 := A1.lt
    go_wp2_with fail
    refine (wraps1t ic hx h2).mono ?_
    rintro e W2 ⟨rfl, g⟩
    replace A0 := A0.gr g
    replace A1 := A1.gr g
    replace G := G.trans g
    clear c0 c1 f1 l0 l1 g
    have c0 := A0.cell
    have c1 := A1.cell
    have f1 := A1.free
    have l0 := A0.lt
    have l1 := A1.lt
    go_wp2_with fail
    (try simp only [Exit.inBlock, Exit.then])
    refine bodyPost_ret (by simp [results, Tryz.results201, go_sem, c1]; try rfl) rfl ?_
    refine Rt.rect2 Hh.out ?_
    repeat (first | with_reducible exact G | with_reducible exact Gr.refl _ | with_reducible apply Gr.alloc | (with_reducible refine Gr.setCell ?_ ?_ _; rotate_left; (simp; try omega)))
  simp only [Bool.not_eq_true] at h2
  by_cases h3 : wrapsB b y = true
  · have H := moveR_f (a := a) (b := b) (c := c) (d := d) (x := x) (y := y) (move_no (.inr (.inr (.inl h3))))
    have Hh := Lib.hid H
    clear H
    go_enter Tryz.func201, Tryz.ntmps201
    go_wp2_with fail
    refine (wraps1f ia hx h1).mono ?_
    rintro e W1 ⟨rfl, g1⟩
    have A0 := ((At.new w _ _).alloc _).gr g1
    have A1 := (At.new (w.alloc _) _ _).gr g1
    simp only [World.size_alloc] at A1
    have G := (((Gr.refl w).alloc _).alloc _).trans g1
    clear g1
    have c0 := A0.cell
    have c1 := A1.cell
    have f1 := A1.free
    have l0 := A0.lt
    have l1 := A1.lt
    go_wp2_with fail
    refine (wraps1f ic hx h2).mono ?_
    rintro e W2 ⟨rfl, g⟩
    replace A0 := A0.gr g
    replace A1 := A1.gr g
    replace G := G.trans g
    clear c0 c1 f1 l0 l1 g
    have c0 := A0.cell
    have c1 := A1.cell
    have f1 := A1.free
    have l0 := A0.lt
    have l1 := A1.lt
    go_wp2_with fail
    refine (wraps1t ib hy h3).mono ?_
    rintro e W3 ⟨rfl, g⟩
    replace A0 := A0.gr g
    replace A1 := A1.gr g
    replace G := G.trans g
    clear c0 c1 f1 l0 l1 g
    have c0 := A0.cell
    have c1 := A1.cell
    have f1 := A1.free
    have l0 := A0.lt
    have l1 := A1.lt
    go_wp2_with fail
    (try simp only [Exit.inBlock, Exit.then])
    refine bodyPost_ret (by simp [results, Tryz.results201, go_sem, c1]; try rfl) rfl ?_
    refine Rt.rect2 Hh.out ?_
    repeat (first | with_reducible exact G | with_reducible exact Gr.refl _ | with_reducible apply Gr.alloc | (with_reducible refine Gr.setCell ?_ ?_ _; rotate_left; (simp; try omega)))
  simp only [Bool.not_eq_true] at h3
  by_cases h4 : wrapsB d y = true
  · have H := moveR_f (a := a) (b := b) (c := c) (d := d) (x := x) (y := y) (move_no (.inr (.inr (.inr h4))))
    have Hh := Lib.hid H
    clear H
    go_enter Tryz.func201, Tryz.ntmps201
    go_wp2_with fail
    refine (wraps1f ia hx h1).mono ?_
    rintro e W1 ⟨rfl, g1⟩
    have A0 := ((At.new w _ _).alloc _).gr g1
    have A1 := (At.new (w.alloc _) _ _).gr g1
    simp only [World.size_alloc] at A1
    have G := (((Gr.refl w).alloc _).alloc _).trans g1
    clear g1
    have c0 := A0.cell
    have c1 := A1.cell
    have f1 := A1.free
    have l0 := A0.lt
    have l1 := A1.lt
    go_wp2_with fail
    refine (wraps1f ic hx h2).mono ?_
    rintro e W2 ⟨rfl, g⟩
    replace A0 := A0.gr g
    replace A1 := A1.gr g
    replace G := G.trans g
    clear c0 c1 f1 l0 l1 g
    have c0 := A0.cell
    have c1 := A1.cell
    have f1 := A1.free
    have l0 := A0.lt
    have l1 := A1.lt
    go_wp2_with fail
    refine (wraps1f ib hy h3).mono ?_
    rintro e W3 ⟨rfl, g⟩
    replace A0 := A0.gr g
    replace A1 := A1.gr g
    replace G := G.trans g
    clear c0 c1 f1 l0 l1 g
    have c0 := A0.cell
    have c1 := A1.cell
    have f1 := A1.free
    have l0 := A0.lt
    have l1 := A1.lt
    go_wp2_with fail
    refine (wraps1t id' hy h4).mono ?_
    rintro e W4 ⟨rfl, g⟩
    replace A0 := A0.gr g
    replace A1 := A1.gr g
    replace G := G.trans g
    clear c0 c1 f1 l0 l1 g
    have c0 := A0.cell
    have c1 := A1.cell
    have f1 := A1.free
    have l0 := A0.lt
    have l1 := A1.lt
    go_wp2_with fail
    (try simp only [Exit.inBlock, Exit.then])
    refine bodyPost_ret (by simp [results, Tryz.results201, go_sem, c1]; try rfl) rfl ?_
    refine Rt.rect2 Hh.out ?_
    repeat (first | with_reducible exact G | with_reducible exact Gr.refl _ | with_reducible apply Gr.alloc | (with_reducible refine Gr.setCell ?_ ?_ _; rotate_left; (simp; try omega)))
  simp only [Bool.not_eq_true] at h4
  have hB : moveB a b c d x y = true ∨ (moveB a b c d x y = false ∧ mayB (a + x) (b + y) (c + x) (d + y) = false) := by
    cases hm : mayB (a + x) (b + y) (c + x) (d + y) with
    | true => left; unfold moveB; rw [hm]; simp only [mayB, decide_eq_true_eq] at hm; simp; omega
    | false => right; unfold moveB; rw [hm]; simp
  have e1 : -9223372036854775808 ≤ a + x ∧ a + x ≤ 9223372036854775807 := by simp only [wrapsB, decide_eq_false_iff_not] at h1; omega
  have e2 : -9223372036854775808 ≤ c + x ∧ c + x ≤ 9223372036854775807 := by simp only [wrapsB, decide_eq_false_iff_not] at h2; omega
  have e3 : -9223372036854775808 ≤ b + y ∧ b + y ≤ 9223372036854775807 := by simp only [wrapsB, decide_eq_false_iff_not] at h3; omega
  have e4 : -9223372036854775808 ≤ d + y ∧ d + y ≤ 9223372036854775807 := by simp only [wrapsB, decide_eq_false_iff_not] at h4; omega
  obtain ⟨e11, e12⟩ := e1
  obtain ⟨e21, e22⟩ := e2
  obtain ⟨e31, e32⟩ := e3
  obtain ⟨e41, e42⟩ := e4
  rcases hB with hB | ⟨hB, hm⟩
  · have hm : mayB (a + x) (b + y) (c + x) (d + y) = true := by unfold moveB at hB; simp only [Bool.and_eq_true] at hB; exact hB.2
    have H := moveR_t hB
    clear hB
    have Hh := Lib.hid H
    clear H
    go_enter Tryz.func201, Tryz.ntmps201
    go_wp2_with fail
    refine (wraps1f ia hx h1).mono ?_
    rintro e W1 ⟨rfl, g1⟩
    have A0 := ((At.new w _ _).alloc _).gr g1
    have A1 := (At.new (w.alloc _) _ _).gr g1
    simp only [World.size_alloc] at A1
    have G := (((Gr.refl w).alloc _).alloc _).trans g1
    clear g1
    have c0 := A0.cell
    have c1 := A1.cell
    have f1 := A1.free
    have l0 := A0.lt
    have l1 := A1.lt
    go_wp2_with fail
    refine (wraps1f ic hx h2).mono ?_
    rintro e W2 ⟨rfl, g⟩
    replace A0 := A0.gr g
    replace A1 := A1.gr g
    replace G := G.trans g
    clear c0 c1 f1 l0 l1 g
    have c0 := A0.cell
    have c1 := A1.cell
    have f1 := A1.free
    have l0 := A0.lt
    have l1 := A1.lt
    go_wp2_with fail
    refine (wraps1f ib hy h3).mono ?_
    rintro e W3 ⟨rfl, g⟩
    replace A0 := A0.gr g
    replace A1 := A1.gr g
    replace G := G.trans g
    clear c0 c1 f1 l0 l1 g
    have c0 := A0.cell
    have c1 := A1.cell
    have f1 := A1.free
    have l0 := A0.lt
    have l1 := A1.lt
    go_wp2_with fail
    refine (wraps1f id' hy h4).mono ?_
    rintro e W4 ⟨rfl, g⟩
    replace A0 := A0.gr g
    replace A1 := A1.gr g
    replace G := G.trans g
    clear c0 c1 f1 l0 l1 g
    have c0 := A0.cell
    have c1 := A1.cell
    have f1 := A1.free
    have l0 := A0.lt
    have l1 := A1.lt
    go_wp2_with fail
    refine (may1t hm).mono ?_
    rintro e W5 ⟨rfl, g⟩
    have B2 := (At.new W4 _ _).gr g
    replace A1 := (A1.alloc _).gr g
    replace G := (G.alloc _).trans g
    clear c0 c1 f1 l0 l1 g A0
    have c1 := A1.cell
    have f1 := A1.free
    have l1 := A1.lt
    have c2 := B2.cell
    go_wp2
    (try simp only [Exit.inBlock, Exit.then])
    refine bodyPost_ret (by simp [results, Tryz.results201, go_sem, c1]; try rfl) rfl ?_
    refine Rt.rect2 Hh.out ?_
    repeat (first | with_reducible exact G | with_reducible exact Gr.refl _ | with_reducible apply Gr.alloc | (with_reducible refine Gr.setCell ?_ ?_ _; rotate_left; (simp; try omega)))
  · have H := moveR_f hB
    clear hB
    have Hh := Lib.hid H
    clear H
    go_enter Tryz.func201, Tryz.ntmps201
    go_wp2_with fail
    refine (wraps1f ia hx h1).mono ?_
    rintro e W1 ⟨rfl, g1⟩
    have A0 := ((At.new w _ _).alloc _).gr g1
    have A1 := (At.new (w.alloc _) _ _).gr g1
    simp only [World.size_alloc] at A1
    have G := (((Gr.refl w).alloc _).alloc _).trans g1
    clear g1
    have c0 := A0.cell
    have c1 := A1.cell
    have f1 := A1.free
    have l0 := A0.lt
    have l1 := A1.lt
    go_wp2_with fail
    refine (wraps1f ic hx h2).mono ?_
    rintro e W2 ⟨rfl, g⟩
    replace A0 := A0.gr g
    replace A1 := A1.gr g
    replace G := G.trans g
    clear c0 c1 f1 l0 l1 g
    have c0 := A0.cell
    have c1 := A1.cell
    have f1 := A1.free
    have l0 := A0.lt
    have l1 := A1.lt
    go_wp2_with fail
    refine (wraps1f ib hy h3).mono ?_
    rintro e W3 ⟨rfl, g⟩
    replace A0 := A0.gr g
    replace A1 := A1.gr g
    replace G := G.trans g
    clear c0 c1 f1 l0 l1 g
    have c0 := A0.cell
    have c1 := A1.cell
    have f1 := A1.free
    have l0 := A0.lt
    have l1 := A1.lt
    go_wp2_with fail
    refine (wraps1f id' hy h4).mono ?_
    rintro e W4 ⟨rfl, g⟩
    replace A0 := A0.gr g
    replace A1 := A1.gr g
    replace G := G.trans g
    clear c0 c1 f1 l0 l1 g
    have c0 := A0.cell
    have c1 := A1.cell
    have f1 := A1.free
    have l0 := A0.lt
    have l1 := A1.lt
    go_wp2_with fail
    refine (may1f hm).mono ?_
    rintro e W5 ⟨rfl, g⟩
    have B2 := (At.new W4 _ _).gr g
    replace A1 := (A1.alloc _).gr g
    replace G := (G.alloc _).trans g
    clear c0 c1 f1 l0 l1 g A0
    have c1 := A1.cell
    have f1 := A1.free
    have l1 := A1.lt
    have c2 := B2.cell
    go_wp2
    (try simp only [Exit.inBlock, Exit.then])
    refine bodyPost_ret (by simp [results, Tryz.results201, go_sem, c1]; try rfl) rfl ?_
    refine Rt.rect2 Hh.out ?_
    repeat (first | with_reducible exact G | with_reducible exact Gr.refl _ | with_reducible apply Gr.alloc | (with_reducible refine Gr.setCell ?_ ?_ _; rotate_left; (simp; try omega)))

end Go.Proofs.YtablogiielclaaaGreat
namespace Go.Proofs.YtablogiielclaaaGreat
open Go.RowKit Go.Sort

attribute [local go_sem] cell?_grow frozen?_grow nlt_r

def scaleB (a b c d n : Int) : Bool := mayB a b c d && mayB (n * a) (n * b) (n * c) (n * d)
def scaleR (a b c d n : Int) : Rc := if n < 1 ∨ 8 < n then ⟨0, 0, 0, 0⟩ else if scaleB a b c d n = true then ⟨n * a, n * b, n * c, n * d⟩ else ⟨0, 0, 0, 0⟩
def scaleE (a b c d n : Int) : Int := if n < 1 ∨ 8 < n then 1 else if scaleB a b c d n = true then 0 else 4
theorem scaleR_o {a b c d n : Int} (h : n < 1 ∨ 8 < n) : (scaleR a b c d n).a = 0 ∧ (scaleR a b c d n).b = 0 ∧ (scaleR a b c d n).c = 0 ∧ (scaleR a b c d n).d = 0 ∧ scaleE a b c d n = 1 := by
  unfold scaleR scaleE; rw [if_pos h, if_pos h]; exact ⟨rfl, rfl, rfl, rfl, rfl⟩
theorem scaleR_t {a b c d n : Int} (h : 1 ≤ n ∧ n ≤ 8) (hB : scaleB a b c d n = true) : (scaleR a b c d n).a = n * a ∧ (scaleR a b c d n).b = n * b ∧ (scaleR a b c d n).c = n * c ∧ (scaleR a b c d n).d = n * d ∧ scaleE a b c d n = 0 := by
  have hn : ¬(n < 1 ∨ 8 < n) := by omega
  unfold scaleR scaleE; rw [if_neg hn, if_neg hn, if_pos hB, if_pos hB]; exact ⟨rfl, rfl, rfl, rfl, rfl⟩
theorem scaleR_f {a b c d n : Int} (h : 1 ≤ n ∧ n ≤ 8) (hB : scaleB a b c d n = false) : (scaleR a b c d n).a = 0 ∧ (scaleR a b c d n).b = 0 ∧ (scaleR a b c d n).c = 0 ∧ (scaleR a b c d n).d = 0 ∧ scaleE a b c d n = 4 := by
  have hn : ¬(n < 1 ∨ 8 < n) := by omega
  have hb : ¬(scaleB a b c d n = true) := by simp [hB]
  unfold scaleR scaleE; rw [if_neg hn, if_neg hn, if_neg hb, if_neg hb]; exact ⟨rfl, rfl, rfl, rfl, rfl⟩

end Go.Proofs.YtablogiielclaaaGreat
namespace Go.Proofs.YtablogiielclaaaGreat
open Go.RowKit Go.Sort

attribute [local go_sem] cell?_grow frozen?_grow nlt_r

def areaI (a b c d : Int) : Int := (c - a) * (d - b)

theorem area_bd {a b c d : Int} (h : mayB a b c d = true) : 0 ≤ (c - a) * (d - b) ∧ (c - a) * (d - b) ≤ 4398046511104 := by
  simp only [mayB, decide_eq_true_eq] at h
  obtain ⟨b1, b2, b3, b4, b5, b6⟩ := h
  have h1 : 0 ≤ c - a := by omega
  have h2 : c - a ≤ 2097152 := by omega
  have h3 : 0 ≤ d - b := by omega
  have h4 : d - b ≤ 2097152 := by omega
  refine ⟨Int.mul_nonneg h1 h3, ?_⟩
  calc (c - a) * (d - b) ≤ 2097152 * (d - b) := Int.mul_le_mul_of_nonneg_right h2 h3
    _ ≤ 2097152 * 2097152 := Int.mul_le_mul_of_nonneg_left h4 (by omega)

set_option maxHeartbeats 1000000 in
theorem area1 (a b c d : Int) (w : World) (h : mayB a b c d = true) :
    Calls Tryz.prog 104 #[.agg #[.int .i64 a, .int .i64 b, .int .i64 c, .int .i64 d]] w (Rt w (.int .i64 (areaI a b c d))) := by
  have hp := area_bd h
  obtain ⟨hp1, hp2⟩ := hp
  have hb := h
  simp only [mayB, decide_eq_true_eq] at hb
  obtain ⟨b1, b2, b3, b4, b5, b6⟩ := hb
  clear h
  go_enter Tryz.func104, Tryz.ntmps104
  go_wp2
  go_ret
  refine Rt.int ?_ ?_
  · unfold areaI; first | rfl | (exact IntWalk.i64_in _ (by omega))
  · repeat (first | with_reducible exact Gr.refl _ | with_reducible apply Gr.drew | with_reducible apply Gr.alloc)

set_option maxHeartbeats 1000000 in
theorem refarea1 (a b c d : Int) (w : World) (h : mayB a b c d = true) :
    Calls Tryz.prog 139 #[.agg #[.int .i64 a, .int .i64 b, .int .i64 c, .int .i64 d]] w (Rt w (.int .i64 (areaI a b c d))) := by
  have hp := area_bd h
  obtain ⟨hp1, hp2⟩ := hp
  have hb := h
  simp only [mayB, decide_eq_true_eq] at hb
  obtain ⟨b1, b2, b3, b4, b5, b6⟩ := hb
  clear h
  have c1 := refempty1 a b c d
  by_cases e : emptyB a b c d = true
  · have hz : 0 = areaI a b c d := by
      simp [emptyB] at e
      unfold areaI
      rcases e with e | e
      · have : c - a = 0 := by omega
        rw [this]; simp
      · have : d - b = 0 := by omega
        rw [this]; simp
    rw [e] at c1
    have Hz := Lib.hid hz
    clear hz
    go_enter Tryz.func139, Tryz.ntmps139
    go_wp2_with fail
    refine (c1 _).mono ?_
    rintro e w' ⟨rfl, ⟨⟨n, os⟩, rfl⟩⟩
    go_wp2
    go_ret
    refine Rt.int Hz.out ?_
    repeat (first | with_reducible exact Gr.refl _ | with_reducible apply Gr.drew | with_reducible apply Gr.drewN | with_reducible apply Gr.grow | with_reducible apply Gr.alloc)
  · simp only [Bool.not_eq_true] at e
    rw [e] at c1
    go_enter Tryz.func139, Tryz.ntmps139
    go_wp2_with fail
    refine (c1 _).mono ?_
    rintro e w' ⟨rfl, ⟨⟨n, os⟩, rfl⟩⟩
    go_wp2
    go_ret
    refine Rt.int ?_ ?_
    · unfold areaI; first | rfl | (exact IntWalk.i64_in _ (by omega))
    · repeat (first | with_reducible exact Gr.refl _ | with_reducible apply Gr.drew | with_reducible apply Gr.drewN | with_reducible apply Gr.grow | with_reducible apply Gr.alloc)

end Go.Proofs.YtablogiielclaaaGreat
namespace Go.Proofs.YtablogiielclaaaGreat

theorem clamp_bd (n : Int) : -1048576 ≤ clamp n ∧ clamp n ≤ 1048576 := by unfold clamp; omega
theorem good_may (a b c d : Int) : mayB (goodR a b c d).a (goodR a b c d).b (goodR a b c d).c (goodR a b c d).d = true := by
  have h1 := clamp_bd a
  have h2 := clamp_bd b
  have h3 := clamp_bd c
  have h4 := clamp_bd d
  dsimp only [mayB, goodR]
  rw [decide_eq_true_eq]
  omega
theorem small_bd (a b c d : Int) : -4 ≤ (smallR a b c d).a ∧ (smallR a b c d).a ≤ 19 ∧ -4 ≤ (smallR a b c d).b ∧ (smallR a b c d).b ≤ 19 ∧ (smallR a b c d).a ≤ (smallR a b c d).c ∧ (smallR a b c d).c ≤ (smallR a b c d).a + 12 ∧
    (smallR a b c d).b ≤ (smallR a b c d).d ∧ (smallR a b c d).d ≤ (smallR a b c d).b + 12 := by
  have h1 := around_bd a 24 (by omega)
  have h2 := around_bd b 24 (by omega)
  have h3 := around_bd c 13 (by omega)
  have h4 := around_bd d 13 (by omega)
  dsimp only [smallR]
  omega
theorem may_bd {a b c d : Int} (h : mayB a b c d = true) : Bd a ∧ Bd b ∧ Bd c ∧ Bd d := by
  simp only [mayB, decide_eq_true_eq] at h
  unfold Bd
  omega
/-- Of a rectangle that is moved. -/
theorem move_area {a b c d x y : Int} (h : moveE a b c d x y = 0) : areaI (moveR a b c d x y).a (moveR a b c d x y).b (moveR a b c d x y).c (moveR a b c d x y).d = areaI a b c d ∧ mayB (moveR a b c d x y).a (moveR a b c d x y).b (moveR a b c d x y).c (moveR a b c d x y).d = true := by
  by_cases hB : moveB a b c d x y = true
  · obtain ⟨h1, h2, h3, h4, _⟩ := moveR_t hB
    rw [h1, h2, h3, h4]
    refine ⟨?_, ?_⟩
    · unfold areaI
      rw [show c + x - (a + x) = c - a from by omega, show d + y - (b + y) = d - b from by omega]
    · unfold moveB at hB; simp only [Bool.and_eq_true] at hB; exact hB.2
  · simp only [Bool.not_eq_true] at hB
    have := moveR_f hB
    omega
theorem scale_area {a b c d n : Int} (h : scaleE a b c d n = 0) : (1 ≤ n ∧ n ≤ 8) ∧ areaI (scaleR a b c d n).a (scaleR a b c d n).b (scaleR a b c d n).c (scaleR a b c d n).d = n * n * areaI a b c d ∧
    mayB (scaleR a b c d n).a (scaleR a b c d n).b (scaleR a b c d n).c (scaleR a b c d n).d = true ∧ mayB a b c d = true := by
  by_cases hn : n < 1 ∨ 8 < n
  · have := scaleR_o (a := a) (b := b) (c := c) (d := d) hn
    omega
  · have hn' : 1 ≤ n ∧ n ≤ 8 := by omega
    by_cases hB : scaleB a b c d n = true
    · obtain ⟨h1, h2, h3, h4, _⟩ := scaleR_t hn' hB
      rw [h1, h2, h3, h4]
      unfold scaleB at hB
      simp only [Bool.and_eq_true] at hB
      refine ⟨hn', ?_, hB.2, hB.1⟩
      unfold areaI
      rw [← Int.mul_sub, ← Int.mul_sub]
      rw [Int.mul_assoc n (c - a), Int.mul_left_comm (c - a) n (d - b), ← Int.mul_assoc]
    · simp only [Bool.not_eq_true] at hB
      have := scaleR_f hn' hB
      omega

end Go.Proofs.YtablogiielclaaaGreat
namespace Go.Proofs.YtablogiielclaaaGreat
open Go.RowKit Go.Sort

theorem hasL_no {L : List Rc} {x y : Int} (h : ∀ (j : Nat) (r : Rc), L[j]? = some r → hasB r.a r.b r.c r.d x y = false) : hasL L x y = false := by
  rw [Bool.eq_false_iff]; intro hh
  unfold hasL at hh
  rw [List.any_eq_true] at hh
  obtain ⟨r, h1, h2⟩ := hh
  obtain ⟨j, hj⟩ := List.getElem?_of_mem h1
  have := h j r hj
  rw [h2] at this; cases this
theorem hasL_yes {L : List Rc} {x y : Int} {j : Nat} {r : Rc} (h : L[j]? = some r) (h2 : hasB r.a r.b r.c r.d x y = true) : hasL L x y = true := by
  unfold hasL; rw [List.any_eq_true]; exact ⟨r, List.mem_of_getElem? h, h2⟩

set_option maxHeartbeats 4000000 in
theorem refHas1 (A : Option Addr) (c : Nat) (L : List Rc) (x y : Int) (w : World) (h : Rs w A L) (hl : L.length ≤ 9000000000000000000) :
    Calls Tryz.prog 20 #[.slice A L.length c, .int .i64 x, .int .i64 y] w (Rt w (.bool (hasL L x y))) := by
  go_enter Tryz.func20, Tryz.ntmps20
  go_wp2
  go_loopw [7] (fun i wr => ∃ k : Nat, k ≤ L.length ∧ i = .int .i64 k ∧ Gr w wr ∧ Hid (∀ (j : Nat) (r : Rc), j < k → L[j]? = some r → hasB r.a r.b r.c r.d x y = false)) (fun i _ => L.length - (intOf i).toNat)
  case atStart => exact ⟨0, Nat.zero_le _, rfl, Gr.refl w, Lib.hid (by intro j r hj; omega)⟩
  case round =>
    obtain ⟨k, hk, rfl, G, hno⟩ := hrel
    by_cases hlt : k < L.length
    · obtain ⟨⟨ra, rb, rc, rd⟩, hr⟩ := list_at hlt
      obtain ⟨b, off, rfl, hrow⟩ := h.opened (by omega)
      obtain ⟨e1, e2, e3, e4⟩ := (hrow.bl G.bl) k _ hr
      dsimp only at e1 e2 e3 e4
      have c1 := refhas1 ra rb rc rd x y
      by_cases hb : hasB ra rb rc rd x y = true
      · have hy := Lib.hid (hasL_yes (x := x) (y := y) hr hb)
        rw [hb] at c1
        clear hb hr
        go_wp2_with fail
        refine (c1 _).mono ?_
        rintro e W1 ⟨rfl, g1⟩
        go_wp2
        go_ret
        exact ⟨by rw [hy.out]; rfl, G.trans g1⟩
      · simp only [Bool.not_eq_true] at hb
        rw [hb] at c1
        have hn : Hid (∀ (j : Nat) (r : Rc), j < k + 1 → L[j]? = some r → hasB r.a r.b r.c r.d x y = false) := Lib.hid (by
          intro j r hj hr'
          by_cases hjk : j = k
          · subst hjk; rw [hr] at hr'; injection hr' with hr'; subst hr'; exact hb
          · exact hno.out j r (by omega) hr')
        clear hb hr
        go_wp2_with fail
        refine (c1 _).mono ?_
        rintro e W1 ⟨rfl, g1⟩
        go_wp2
        go_roundw
        case rel => exact ⟨k + 1, by omega, by go_num, G.trans g1, hn⟩
        case measure => simp [intOf]; omega
    · obtain rfl : k = L.length := by omega
      have hn := Lib.hid (hasL_no (L := L) (x := x) (y := y) fun j r hr => hno.out j r (get_lt hr) hr)
      go_wp2
      go_ret
      exact ⟨by rw [hn.out]; rfl, G⟩

/-- The kinds of keeping, by number. -/
def kpN (how : Int) : Bool → Bool → Bool := fun a b => if how = 0 then a || b else if how = 1 then a && b else if how = 2 then a && !b else a != b
set_option maxHeartbeats 1000000 in
theorem refkeep1 (a b : Bool) (how : Int) (w : World) (h : how = 0 ∨ how = 1 ∨ how = 2 ∨ how = 3) :
    Calls Tryz.prog 197 #[.bool a, .bool b, .int .i64 how] w fun e w' => e = .returned (.bool (kpN how a b)) ∧ w = w' := by
  rcases h with rfl | rfl | rfl | rfl <;> cases a <;> cases b
  all_goals
    go_enter Tryz.func197, Tryz.ntmps197
    go_wp2
    go_ret
    exact ⟨rfl, rfl⟩

instance : DecidableEq Rc := fun a b => by
  cases a; cases b; simp only [Rc.mk.injEq]; exact inferInstance

set_option maxHeartbeats 4000000 in
theorem refSame1 (A B : Option Addr) (c d : Nat) (L M : List Rc) (w : World) (hA : Rs w A L) (hB : Rs w B M) (hl : L.length ≤ 9000000000000000000) (hm : M.length ≤ 9000000000000000000) :
    Calls Tryz.prog 56 #[.slice A L.length c, .slice B M.length d] w (Rt w (.bool (decide (L = M)))) := by
  by_cases hlen : L.length = M.length
  · have hlq : ((L.length : Int) == (M.length : Int)) = true := by simp [hlen]
    obtain ⟨n, hn⟩ : ∃ n, n = L.length := ⟨_, rfl⟩
    rw [← hlen, ← hn]
    have hn2 : n = M.length := by omega
    have hnl : n ≤ 9000000000000000000 := by omega
    clear hlq
    go_enter Tryz.func56, Tryz.ntmps56
    replace hn := Lib.hid hn
    replace hn2 := Lib.hid hn2
    replace hlen := Lib.hid hlen
    go_wp2
    go_loopw [5] (fun i wr => ∃ k : Nat, k ≤ n ∧ i = .int .i64 k ∧ Gr w wr ∧ Hid (∀ j : Nat, j < k → L[j]? = M[j]?)) (fun i _ => n - (intOf i).toNat)
    case atStart => exact ⟨0, Nat.zero_le _, rfl, Gr.refl w, Lib.hid (by intro j hj; omega)⟩
    case round =>
      obtain ⟨k, hk, rfl, G, hno⟩ := hrel
      by_cases hlt : k < n
      · have hkL : k < L.length := by have := hn.out; omega
        have hkM : k < M.length := by have := hn2.out; omega
        obtain ⟨⟨ra, rb, rc, rd⟩, hr⟩ := list_at hkL
        obtain ⟨⟨sa, sb, sc, sd⟩, hs⟩ := list_at hkM
        obtain ⟨b1, o1, rfl, row1⟩ := hA.opened (by omega)
        obtain ⟨b2, o2, rfl, row2⟩ := hB.opened (by omega)
        have E := fun n os => (row1.bl ((G.bl.drewN n).grow os)) k _ hr
        have F := fun n os => (row2.bl ((G.bl.drewN n).grow os)) k _ hs
        have E1 := fun n os => (E n os).1
        have E2 := fun n os => (E n os).2.1
        have E3 := fun n os => (E n os).2.2.1
        have E4 := fun n os => (E n os).2.2.2
        have F1 := fun n os => (F n os).1
        have F2 := fun n os => (F n os).2.1
        have F3 := fun n os => (F n os).2.2.1
        have F4 := fun n os => (F n os).2.2.2
        clear E F
        dsimp only at E1 E2 E3 E4 F1 F2 F3 F4
        by_cases heq : ra = sa ∧ rb = sb ∧ rc = sc ∧ rd = sd
        · obtain ⟨rfl, rfl, rfl, rfl⟩ := heq
          have hn' : Hid (∀ j : Nat, j < k + 1 → L[j]? = M[j]?) := Lib.hid (by
            intro j hj
            by_cases hjk : j = k
            · subst hjk; rw [hr, hs]
            · exact hno.out j (by omega))
          clear hr hs row1 row2
          go_wp2
          refine wp_region_quiet_grown (by kernel_rfl) (by kernel_rfl) ?_
          repeat (first | go_big_quiet_step (fail) | quiet_step (fail))
          refine wpQuiet_nil ?_
          intro W2 g8
          replace g8 : Gr _ W2 := g8
          clear E1 E2 E3 E4 F1 F2 F3 F4
          go_wp2
          go_roundw
          case rel => exact ⟨k + 1, by omega, by go_num, G.trans g8, hn'⟩
          case measure => simp [intOf]; omega
        · have hne : ¬ L = M := fun h => heq (by rw [h, hs] at hr; injection hr with hr; injection hr with h1 h2 h3 h4; exact ⟨h1.symm, h2.symm, h3.symm, h4.symm⟩)
          have hne := Lib.hid hne
          have ways : ra ≠ sa ∨ (ra = sa ∧ rb ≠ sb) ∨ (ra = sa ∧ rb = sb ∧ rc ≠ sc) ∨ (ra = sa ∧ rb = sb ∧ rc = sc ∧ rd ≠ sd) := by omega
          clear hr hs row1 row2 heq
          rcases ways with hd | ⟨rfl, hd⟩ | ⟨rfl, rfl, hd⟩ | ⟨rfl, rfl, rfl, hd⟩
          all_goals
            have hq := beq_false_of_ne hd
            go_wp2
            refine wp_region_quiet_grown (by kernel_rfl) (by kernel_rfl) ?_
            repeat (first | go_big_quiet_step (fail) | quiet_step (fail))
            refine wpQuiet_nil ?_
            intro W2 g8
            replace g8 : Gr _ W2 := g8
            clear E1 E2 E3 E4 F1 F2 F3 F4
            go_wp2
            go_ret
            exact ⟨by rw [decide_eq_false hne.out]; rfl, G.trans g8⟩
      · have hkn : k = n := by omega
        subst hkn
        have hend : L = M := List.ext_getElem? fun j => by
          rcases Nat.lt_or_ge j k with h1 | h1
          · exact hno.out j h1
          · rw [List.getElem?_eq_none (by have := hn.out; omega), List.getElem?_eq_none (by have := hn2.out; omega)]
        have hend := Lib.hid hend
        go_wp2
        go_ret
        exact ⟨by rw [decide_eq_true hend.out]; rfl, G⟩
  · have hne : ¬ L = M := fun h => hlen (by rw [h])
    have hd : decide (L = M) = false := by simpa using hne
    rw [hd]
    clear hd hne
    have h1 : ((L.length : Int) == (M.length : Int)) = false := by simp; omega
    have h2 : ((L.length : Int) != (M.length : Int)) = true := by simp; omega
    go_enter Tryz.func56, Tryz.ntmps56
    go_wp2
    go_ret
    exact ⟨rfl, Gr.refl w⟩

end Go.Proofs.YtablogiielclaaaGreat
namespace Go.Proofs.YtablogiielclaaaGreat
open Go.RowKit Go.Sort

/-- A slice of ints is handed back. -/
def RP (w : World) (Q : List Int → Prop) (e : Ending) (w' : World) : Prop := ∃ (A : Option Addr) (c : Nat) (E : List Int), e = .returned (.slice A E.length c) ∧ Is w' A E ∧ Q E ∧ Bl w w'

set_option maxHeartbeats 8000000 in
theorem refadd1 (A : Option Addr) (c : Nat) (l : List Int) (n : Int) (w : World) (h : Is w A l) (hl : Inc l) (hlen : l.length ≤ 1000000) :
    Calls Tryz.prog 196 #[.slice A l.length c, .int .i64 n] w (RP w (Adds l n)) := by
  go_enter Tryz.func196, Tryz.ntmps196
  go_wp2
  go_loopw [5, 6, 7] (fun v dn i wr => ∃ (k : Nat) (d : Bool) (A' : Option Addr) (c' : Nat) (O : List Int), k ≤ l.length ∧ v = .slice A' O.length c' ∧ dn = .bool d ∧ i = .int .i64 k ∧ Hid (AInv l n k d O) ∧ OwI wr w.heap.size A' c' O ∧ Bl w wr) (fun _ _ i _ => l.length - (intOf i).toNat)
  case atStart => exact ⟨0, false, none, 0, [], Nat.zero_le _, rfl, rfl, rfl, Lib.hid (AInv.start l n), OwI.nil _ _, Bl.refl _⟩
  case round =>
    obtain ⟨k, d, A', c', O, hk, rfl, rfl, rfl, inv, own, G⟩ := hrel
    have hO := inv.out.len
    have szo := G.size
    by_cases hlt : k < l.length
    · obtain ⟨x, hx⟩ := list_at hlt
      obtain ⟨b, off, rfl, row⟩ := h.opened (by omega)
      have e1 := (row.bl G) k x hx
      by_cases hne : x = n
      · subst hne
        have fin : Adds l x l := ⟨hl, fun y => ⟨.inl, fun hy => hy.elim id (fun hy => by rw [hy]; exact get_mem hx)⟩, by omega⟩
        replace fin := Lib.hid fin
        clear hx
        go_wp2
        go_ret
        exact ⟨_, c, l, rfl, h.bl G, fin.out, G⟩
      · have q1 : (x == n) = false := beq_false_of_ne hne
        have hlen2 : O.length ≤ 1000001 := by omega
        have ways := inv.out.more hl hx hne
        replace hx := Lib.hid hx
        rcases ways with ⟨g1, rfl, g3⟩ | ⟨g1, rfl, g3⟩ | ⟨g1, rfl, g3⟩
        · replace g3 := Lib.hid g3
          go_wp2_with (first
            | (at_builtin; refine wp_app_i rfl (.tmp 31) (.tmp 33) rfl A' c' O rfl w.heap.size (own.bl ((Bl.refl wr).alloc _)) wr.heap.size n 1 rfl (At.new _ _ _) (by omega) (by simp; omega) ?_; intro A2 c2 w2 own2 ap2; have G2 := ap2.bl (G.alloc _) (own.bl ((Bl.refl wr).alloc _)).lies (Nat.le_refl _); have e2 := (row.bl G2) k x hx.out; have sz2 := G2.size)
            | (at_builtin; refine wp_app_i rfl (.tmp 35) (.tmp 40) rfl A2 c2 (O ++ [n]) (by rw [List.length_append]; rfl) w.heap.size (own2.bl ((Bl.refl w2).alloc _)) w2.heap.size x 1 rfl (At.new _ _ _) (by rw [List.length_append]; simp; omega) (by simp; omega) ?_; intro A3 c3 w3 own3 ap3))
          go_roundw
          case rel => exact ⟨k + 1, true, A3, c3, O ++ [n] ++ [x], by omega, by simp, rfl, by go_num, g3, own3, ap3.bl (G2.alloc _) (own2.bl ((Bl.refl w2).alloc _)).lies (Nat.le_refl _)⟩
          case measure => simp [intOf]; omega
        · replace g3 := Lib.hid g3
          go_wp2_with (at_builtin; refine wp_app_i rfl (.tmp 35) (.tmp 40) rfl A' c' O rfl w.heap.size (own.bl ((Bl.refl wr).alloc _)) wr.heap.size x 1 rfl (At.new _ _ _) (by omega) (by simp; omega) ?_; intro A3 c3 w3 own3 ap3)
          go_roundw
          case rel => exact ⟨k + 1, true, A3, c3, O ++ [x], by omega, by simp, rfl, by go_num, g3, own3, ap3.bl (G.alloc _) (own.bl ((Bl.refl wr).alloc _)).lies (Nat.le_refl _)⟩
          case measure => simp [intOf]; omega
        · replace g3 := Lib.hid g3
          go_wp2_with (at_builtin; refine wp_app_i rfl (.tmp 35) (.tmp 40) rfl A' c' O rfl w.heap.size (own.bl ((Bl.refl wr).alloc _)) wr.heap.size x 1 rfl (At.new _ _ _) (by omega) (by simp; omega) ?_; intro A3 c3 w3 own3 ap3)
          go_roundw
          case rel => exact ⟨k + 1, false, A3, c3, O ++ [x], by omega, by simp, rfl, by go_num, g3, own3, ap3.bl (G.alloc _) (own.bl ((Bl.refl wr).alloc _)).lies (Nat.le_refl _)⟩
          case measure => simp [intOf]; omega
    · obtain rfl : k = l.length := by omega
      have fin := inv.out.done hl
      replace fin := Lib.hid fin
      cases d with
      | true =>
        go_wp2
        go_ret
        exact ⟨A', c', O, rfl, own.is, by simpa using fin.out, G⟩
      | false =>
        go_wp2_with (at_builtin; refine wp_app_i rfl (.tmp 44) (.tmp 46) rfl A' c' O rfl w.heap.size (own.bl ((Bl.refl wr).alloc _)) wr.heap.size n 1 rfl (At.new _ _ _) (by omega) (by simp; omega) ?_; intro A3 c3 w3 own3 ap3)
        go_ret
        exact ⟨A3, c3, O ++ [n], by simp, own3.is, by simpa using fin.out, ap3.bl (G.alloc _) (own.bl ((Bl.refl wr).alloc _)).lies (Nat.le_refl _)⟩

def spansB (L M : List Rc) : Bool := decide (L.map (fun r => (r.a, r.c)) = M.map (fun r => (r.a, r.c)))

end Go.Proofs.YtablogiielclaaaGreat
namespace Go.Proofs.YtablogiielclaaaGreat
open Go.RowKit Go.Sort

def spanO : Option Rc → Option (Int × Int) := Option.map fun r => (r.a, r.c)
theorem spans_no {L M : List Rc} {k : Nat} {ra rb rc rd sa sb sc sd : Int} (hr : L[k]? = some ⟨ra, rb, rc, rd⟩) (hs : M[k]? = some ⟨sa, sb, sc, sd⟩) (h : ¬ (ra = sa ∧ rc = sc)) : spansB L M = false := by
  unfold spansB; rw [decide_eq_false_iff_not]; intro hh
  have := congrArg (fun l => l[k]?) hh
  simp only [List.getElem?_map, hr, hs, Option.map_some] at this
  injection this with this
  injection this with h1 h2
  exact h ⟨h1, h2⟩
theorem spans_yes {L M : List Rc} (h : ∀ j : Nat, spanO L[j]? = spanO M[j]?) : spansB L M = true := by
  unfold spansB; rw [decide_eq_true_eq]
  apply List.ext_getElem?
  intro j
  rw [List.getElem?_map, List.getElem?_map]
  exact h j
theorem bne_true {a b : Int} (h : a ≠ b) : (a != b) = true := by simpa using h

set_option maxHeartbeats 4000000 in
theorem refspans1 (A B : Option Addr) (c d : Nat) (L M : List Rc) (w : World) (hA : Rs w A L) (hB : Rs w B M) (hl : L.length ≤ 9000000000000000000) (hm : M.length ≤ 9000000000000000000) :
    Calls Tryz.prog 198 #[.slice A L.length c, .slice B M.length d] w (Rt w (.bool (spansB L M))) := by
  by_cases hlen : L.length = M.length
  · have hlq : ((L.length : Int) == (M.length : Int)) = true := by simp [hlen]
    obtain ⟨n, hn⟩ : ∃ n, n = L.length := ⟨_, rfl⟩
    rw [← hlen, ← hn]
    have hn2 : n = M.length := by omega
    have hnl : n ≤ 9000000000000000000 := by omega
    clear hlq
    go_enter Tryz.func198, Tryz.ntmps198
    replace hn := Lib.hid hn
    replace hn2 := Lib.hid hn2
    replace hlen := Lib.hid hlen
    go_wp2
    go_loopw [5] (fun i wr => ∃ k : Nat, k ≤ n ∧ i = .int .i64 k ∧ Gr w wr ∧ Hid (∀ j : Nat, j < k → spanO L[j]? = spanO M[j]?)) (fun i _ => n - (intOf i).toNat)
    case atStart => exact ⟨0, Nat.zero_le _, rfl, Gr.refl w, Lib.hid (by intro j hj; omega)⟩
    case round =>
      obtain ⟨k, hk, rfl, G, hno⟩ := hrel
      by_cases hlt : k < n
      · have hkL : k < L.length := by have := hn.out; omega
        have hkM : k < M.length := by have := hn2.out; omega
        obtain ⟨⟨ra, rb, rc, rd⟩, hr⟩ := list_at hkL
        obtain ⟨⟨sa, sb, sc, sd⟩, hs⟩ := list_at hkM
        obtain ⟨b1, o1, rfl, row1⟩ := hA.opened (by omega)
        obtain ⟨b2, o2, rfl, row2⟩ := hB.opened (by omega)
        have E := fun n os => (row1.bl ((G.bl.drewN n).grow os)) k _ hr
        have F := fun n os => (row2.bl ((G.bl.drewN n).grow os)) k _ hs
        have E1 := fun n os => (E n os).1
        have E2 := fun n os => (E n os).2.1
        have E3 := fun n os => (E n os).2.2.1
        have E4 := fun n os => (E n os).2.2.2
        have F1 := fun n os => (F n os).1
        have F2 := fun n os => (F n os).2.1
        have F3 := fun n os => (F n os).2.2.1
        have F4 := fun n os => (F n os).2.2.2
        clear E F
        dsimp only at E1 E2 E3 E4 F1 F2 F3 F4
        by_cases heq : ra = sa ∧ rc = sc
        · obtain ⟨rfl, rfl⟩ := heq
          have hn' : Hid (∀ j : Nat, j < k + 1 → spanO L[j]? = spanO M[j]?) := Lib.hid (by
            intro j hj
            by_cases hjk : j = k
            · subst hjk; rw [hr, hs]; rfl
            · exact hno.out j (by omega))
          clear hr hs row1 row2
          go_wp2
          refine wp_region_quiet_grown (by kernel_rfl) (by kernel_rfl) ?_
          repeat (first | go_big_quiet_step (fail) | quiet_step (fail))
          refine wpQuiet_nil ?_
          intro W2 g8
          replace g8 : Gr _ W2 := g8
          clear E1 E2 E3 E4 F1 F2 F3 F4
          go_wp2
          go_roundw
          case rel => exact ⟨k + 1, by omega, by go_num, G.trans g8, hn'⟩
          case measure => simp [intOf]; omega
        · have hne : spansB L M = false := spans_no hr hs heq
          have hne := Lib.hid hne
          have ways : ra ≠ sa ∨ (ra = sa ∧ rc ≠ sc) := by omega
          clear hr hs row1 row2 heq
          rcases ways with hd | ⟨rfl, hd⟩
          all_goals
            have hq := beq_false_of_ne hd
            have hq2 := bne_true hd
            go_wp2
            refine wp_region_quiet_grown (by kernel_rfl) (by kernel_rfl) ?_
            repeat (first | go_big_quiet_step (fail) | quiet_step (fail))
            refine wpQuiet_nil ?_
            intro W2 g8
            replace g8 : Gr _ W2 := g8
            clear E1 E2 E3 E4 F1 F2 F3 F4
            go_wp2
            go_ret
            exact ⟨by rw [hne.out]; rfl, G.trans g8⟩
      · have hkn : k = n := by omega
        subst hkn
        have hend : spansB L M = true := spans_yes fun j => by
          rcases Nat.lt_or_ge j k with h1 | h1
          · exact hno.out j h1
          · rw [List.getElem?_eq_none (by have := hn.out; omega), List.getElem?_eq_none (by have := hn2.out; omega)]
        have hend := Lib.hid hend
        go_wp2
        go_ret
        exact ⟨by rw [hend.out]; rfl, G⟩
  · have hd : spansB L M = false := by
      unfold spansB; rw [decide_eq_false_iff_not]; intro hh
      have := congrArg List.length hh; simp at this; exact hlen this
    rw [hd]
    clear hd
    have h1 : ((L.length : Int) == (M.length : Int)) = false := by simp; omega
    have h2 : ((L.length : Int) != (M.length : Int)) = true := by simp; omega
    go_enter Tryz.func198, Tryz.ntmps198
    go_wp2
    go_ret
    exact ⟨rfl, Gr.refl w⟩

end Go.Proofs.YtablogiielclaaaGreat
namespace Go.Proofs.YtablogiielclaaaGreat

structure Axk (l : List Rc) (k : Nat) (xs ys : List Int) : Prop where
  xi : Inc xs
  yi : Inc ys
  xm : ∀ x, x ∈ xs ↔ ∃ r ∈ l.take k, emptyB r.a r.b r.c r.d = false ∧ (x = r.a ∨ x = r.c)
  ym : ∀ y, y ∈ ys ↔ ∃ r ∈ l.take k, emptyB r.a r.b r.c r.d = false ∧ (y = r.b ∨ y = r.d)
  xl : xs.length ≤ 2 * k
  yl : ys.length ≤ 2 * k
theorem Axk.start (l : List Rc) : Axk l 0 [] [] := ⟨List.Pairwise.nil, List.Pairwise.nil, by simp, by simp, by simp, by simp⟩
theorem Axk.skip {l : List Rc} {k : Nat} {xs ys : List Int} (h : Axk l k xs ys) {r : Rc} (hr : l[k]? = some r) (he : emptyB r.a r.b r.c r.d = true) : Axk l (k + 1) xs ys := by
  have q : ∀ (P : Rc → Prop), (∃ s ∈ l.take (k + 1), emptyB s.a s.b s.c s.d = false ∧ P s) ↔ ∃ s ∈ l.take k, emptyB s.a s.b s.c s.d = false ∧ P s := by
    intro P
    rw [take_more hr]
    constructor
    · rintro ⟨s, h1, h2, h3⟩
      rw [List.mem_append, List.mem_singleton] at h1
      rcases h1 with h1 | rfl
      · exact ⟨s, h1, h2, h3⟩
      · rw [he] at h2; cases h2
    · rintro ⟨s, h1, h2, h3⟩
      exact ⟨s, List.mem_append.2 (.inl h1), h2, h3⟩
  exact ⟨h.xi, h.yi, fun x => by rw [h.xm, q], fun y => by rw [h.ym, q], by have := h.xl; omega, by have := h.yl; omega⟩
theorem Axk.step {l : List Rc} {k : Nat} {xs ys x2 x3 y2 y3 : List Int} (h : Axk l k xs ys) {r : Rc} (hr : l[k]? = some r) (he : emptyB r.a r.b r.c r.d = false) (a1 : Adds xs r.a x2) (a2 : Adds x2 r.c x3) (b1 : Adds ys r.b y2) (b2 : Adds y2 r.d y3) : Axk l (k + 1) x3 y3 := by
  have q : ∀ (P : Rc → Prop), (∃ s ∈ l.take (k + 1), emptyB s.a s.b s.c s.d = false ∧ P s) ↔ (∃ s ∈ l.take k, emptyB s.a s.b s.c s.d = false ∧ P s) ∨ P r := by
    intro P
    rw [take_more hr]
    constructor
    · rintro ⟨s, h1, h2, h3⟩
      rw [List.mem_append, List.mem_singleton] at h1
      rcases h1 with h1 | rfl
      · exact .inl ⟨s, h1, h2, h3⟩
      · exact .inr h3
    · rintro (⟨s, h1, h2, h3⟩ | h3)
      · exact ⟨s, List.mem_append.2 (.inl h1), h2, h3⟩
      · exact ⟨r, by simp, he, h3⟩
  refine ⟨a2.inc, b2.inc, fun x => ?_, fun y => ?_, ?_, ?_⟩
  · rw [a2.mem, a1.mem, h.xm, q, or_assoc]
  · rw [b2.mem, b1.mem, h.ym, q, or_assoc]
  · have := a1.len; have := a2.len; have := h.xl; omega
  · have := b1.len; have := b2.len; have := h.yl; omega
theorem Axk.axes {a b : List Rc} {xs ys : List Int} (h : Axk (a ++ b) (a.length + b.length) xs ys) : Axes a b xs ys := by
  have e : (a ++ b).take (a.length + b.length) = a ++ b := List.take_of_length_le (by simp)
  have x := h.xm
  have y := h.ym
  rw [e] at x y
  exact ⟨h.xi, h.yi, x, y⟩

theorem bandE_sides (y0 y1 y0' y1' : Int) : ∀ (E F : List Int), E.length % 2 = 0 → F.length % 2 = 0 → (bandE y0 y1 E).map (fun r => (r.a, r.c)) = (bandE y0' y1' F).map (fun r => (r.a, r.c)) → E = F
  | [], [], _, _, _ => rfl
  | [], [x], _, h, _ => by simp at h
  | [], x :: z :: F, _, _, h => by simp [bandE] at h
  | [x], F, h, _, _ => by simp at h
  | x :: z :: E, [], _, _, h => by simp [bandE] at h
  | x :: z :: E, [u], _, h, _ => by simp at h
  | x :: z :: E, u :: v :: F, h1, h2, h => by
    unfold bandE at h
    rw [List.map_cons, List.map_cons] at h
    injection h with h3 h4
    injection h3 with h5 h6
    simp only at h5 h6
    subst h5 h6
    rw [bandE_sides y0 y1 y0' y1' E F (by simp at h1; omega) (by simp at h2; omega) h4]
theorem spans_band {y0 y1 y0' y1' : Int} {E F : List Int} (hE : E.length % 2 = 0) (hF : F.length % 2 = 0) : spansB (bandE y0 y1 E) (bandE y0' y1' F) = decide (E = F) := by
  unfold spansB
  rw [decide_eq_decide]
  constructor
  · exact bandE_sides _ _ _ _ E F hE hF
  · rintro rfl
    induction E using bandE.induct with
    | case1 a b E ih =>
      show (a, b) :: _ = (a, b) :: _
      rw [ih (by simp at hE; omega) (by simp at hE; omega)]
    | case2 E h =>
      cases E with
      | nil => rfl
      | cons a E =>
        cases E with
        | nil => simp at hE
        | cons b E => exact absurd rfl (h a b E)

end Go.Proofs.YtablogiielclaaaGreat
namespace Go.Proofs.YtablogiielclaaaGreat
open Go.RowKit Go.Sort

theorem wp_app_rs {ops : Array Oper} {rest : List Oper} {o : Oper} {a : Act} {w : World} {Q : Exit → Act → World → Prop} (hgd : o.guard = none) (s x : Operand)
    (ho : o.op = .call { callee := .builtin .append, args := #[s, x], argTypes := #[32, 32] }) (A : Option Addr) (c : Nat) (L : List Rc) (hs : a.eval s = .slice A L.length c) (B : Nat) (hown : OwR w B A c L)
    (g0 : Nat) (M : List Rc) (c0 : Nat) (B0 : Nat) (hx : a.eval x = .slice (some ⟨g0, 0, none⟩) M.length c0) (hM : OwR w B0 (some ⟨g0, 0, none⟩) c0 M) (hm : 0 < M.length) (hlen : L.length + M.length ≤ 1000000000000) (hB : B ≤ w.heap.size)
    (h : ∀ A' c' w', OwR w' B A' c' (L ++ M) → Apd w w' A A' → wpList Tryz.prog ops Q rest (a.put o.dst (.slice A' (L.length + M.length) c')) w') :
    wpList Tryz.prog ops Q (o :: rest) a w := by
  obtain ⟨i0, hi, hz0, hz1, hz2⟩ := info_parts infoR
  refine wpList_append_lies (P := Tryz.prog) w hgd s x 32 ho B 31 i0 _ 4 32 Tryz.underlying32 hi hz0 hz1 hz2 rfl (by decide) (.slice A L.length c) L.length (cR L) hs hown
    ⟨g0, 0, none⟩ M.length c0 (cR M) hx (cR_len M) (World.ownsRow.cells hM rfl) (cR_one _) hm (by unfold maxLen; omega) (by omega) hB w.heap.size rfl ?_
  intro g cap w' h1 h2 h3 h4
  refine h (some ⟨g, 0, none⟩) cap w' ?_ ⟨?_, ?_⟩
  · unfold OwR; rw [cR_app, List.length_append]; exact h1
  · rw [slice_block] at h2; exact h2
  · rw [slice_block] at h3
    rcases h3 with h3 | h3
    · exact .inl h3
    · right; show some g = _; rw [h3]
theorem wp_app_r0 {ops : Array Oper} {rest : List Oper} {o : Oper} {a : Act} {w : World} {Q : Exit → Act → World → Prop} (hgd : o.guard = none) (s x : Operand)
    (ho : o.op = .call { callee := .builtin .append, args := #[s, x], argTypes := #[32, 32] }) (A : Option Addr) (c : Nat) (L : List Rc) (hs : a.eval s = .slice A L.length c) (B : Nat) (hown : OwR w B A c L)
    (hx : a.eval x = .slice none 0 0) (h : wpList Tryz.prog ops Q rest (a.put o.dst (.slice A L.length c)) w) :
    wpList Tryz.prog ops Q (o :: rest) a w := by
  obtain ⟨i0, hi, hz0, hz1, hz2⟩ := info_parts infoR
  have hr := run_append_owned_none (P := Tryz.prog) w B 32 o.type 31 i0 4 Tryz.underlying32 hi (.slice A L.length c) L.length (cR L) hown
  refine wpList_plain hgd fun K hK => ?_
  unfold Oper.wp execOp
  simp only [ho, resolve, invoke, builtin, Sem.run_bind, Sem.run_pure, Result.andThen_ok, List.map_toArray, List.map_cons, List.map_nil, hs, hx, hr]
  exact hK _ _ h

end Go.Proofs.YtablogiielclaaaGreat
