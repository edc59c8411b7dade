/-
  What is proved: what Hull (the code's and the document's) hands back of a row of rectangles.
-/
import Derived.Test.YtbhekpcjdpbahaaA2
import Derived.LoopTactic
namespace Go.Proofs.Ytbhekpcjdpbahaa
open Go.RowKit Go.Sort

/-- The least rectangle round what was met so far (zero: none) and one more. -/
def joinR (h r : Rc) : Rc := if h.a = 0 ∧ h.b = 0 ∧ h.c = 0 ∧ h.d = 0 then r else ⟨min h.a r.a, min h.b r.b, max h.c r.c, max h.d r.d⟩
def stepR (h r : Rc) : Rc := if emptyB r.a r.b r.c r.d = true then h else joinR h r
def hullR (f : Nat → Rc) : Nat → Rc
  | 0 => ⟨0, 0, 0, 0⟩
  | k + 1 => stepR (hullR f k) (f k)
theorem hullR_zero (f : Nat → Rc) : hullR f 0 = ⟨0, 0, 0, 0⟩ := rfl
theorem hullR_succ (f : Nat → Rc) (k : Nat) : hullR f (k + 1) = stepR (hullR f k) (f k) := rfl

theorem At.put4 {w : World} {b : Nat} {z0 z1 z2 z3 : Value} {t : TypeId} (h : At w b #[z0, z1, z2, z3] t) (u0 u1 u2 u3 : Value) :
    At ((((w.setCell ⟨b, 0, none⟩ u0).setCell ⟨b, 1, none⟩ u1).setCell ⟨b, 2, none⟩ u2).setCell ⟨b, 3, none⟩ u3) b #[u0, u1, u2, u3] t := by
  have h1 := Go.Joins.block_setCell (i := 0) h u0
  have h2 := Go.Joins.block_setCell (i := 1) h1 u1
  have h3 := Go.Joins.block_setCell (i := 2) h2 u2
  have h4 := Go.Joins.block_setCell (i := 3) h3 u3
  unfold At
  simpa using h4
theorem At.far {w : World} {b : Nat} {cs : Array Value} {t : TypeId} (h : At w b cs t) {p : Addr} (hp : b ≠ p.block) (u : Value) : At (w.setCell p u) b cs t := by
  unfold At at *
  rw [Below.heap_setCell _ _ _ _ hp]; exact h

attribute [local go_sem] cell?_grow frozen?_grow nlt_r
attribute [local go_sem ↓] run_min2 run_max2

set_option maxHeartbeats 2000000 in
theorem join1 (a b c d a' b' c' d' : Int) (w : World) :
    Calls Try.prog 93 #[.agg #[.int .i64 a, .int .i64 b, .int .i64 c, .int .i64 d], .agg #[.int .i64 a', .int .i64 b', .int .i64 c', .int .i64 d']] w
      (Rt w (.agg #[.int .i64 (joinR ⟨a, b, c, d⟩ ⟨a', b', c', d'⟩).a, .int .i64 (joinR ⟨a, b, c, d⟩ ⟨a', b', c', d'⟩).b, .int .i64 (joinR ⟨a, b, c, d⟩ ⟨a', b', c', d'⟩).c, .int .i64 (joinR ⟨a, b, c, d⟩ ⟨a', b', c', d'⟩).d])) := by
  go_enter Try.func93, Try.ntmps93
  go_wp2
  all_goals
    go_returns
    refine Rt.rect ?_ ?_
    · unfold joinR
      dsimp only
      first
        | (rw [if_pos (by omega)]; exact ⟨rfl, rfl, rfl, rfl⟩)
        | (rw [if_neg (by omega)]; dsimp only; omega)
    · repeat (first | with_reducible exact Gr.refl _ | with_reducible apply Gr.drew | with_reducible apply Gr.drewN | with_reducible apply Gr.grow | with_reducible apply Gr.alloc | (with_reducible refine Gr.setCell ?_ ?_ _; rotate_left; (simp; try omega)))

end Go.Proofs.Ytbhekpcjdpbahaa
