/-
  What is proved: what Count and Width of package title hand back.
-/
import Derived.Test.YteljpabhcmihoaaDoorVc
namespace Go.Proofs.YteljpabhcmihoaaDoor
open Go.RowKit Go.Sort Go.Shelf
attribute [local go_sem] Oper.semAt_some

theorem zip2 (X : Array Value) (i j : Nat) (a b : Value) : Array.foldl (fun t x => t.setIfInBounds x.1 x.2) X ((#[i, j] : Array Nat).zip #[a, b]) = (X.setIfInBounds i a).setIfInBounds j b := by
  rw [← Array.foldl_toList]; simp
theorem ownAt {β : Type} (B b : Nat) (cs : β → Array Value) (t : TypeId) : OwnFrom B (fun s W => At W b (cs s) t) := fun s X Y row hs hg hr =>
  hs.grown hg (fun e => by obtain ⟨_, o, ho, hc⟩ := hr b e.symm; rw [show X.heap[b]? = _ from hs] at ho; cases ho; cases hc)
theorem then_false {K : Act → World → Prop} {Q : Exit → Act → World → Prop} : ∀ e a w, Exit.then K (fun _ _ _ => False) e a w → Exit.then K Q e a w := by
  intro e a w h
  cases e <;> first | exact h | exact h.elim
/-- Behind the loop's own bookkeeping. -/
theorem below_fin {w W0 W : World} {D : Nat} {o o' : Obj} (h : Below w.heap.size w W) (hD : W0.heap.size ≤ D) (h0 : w.heap.size ≤ W0.heap.size) (_ : W.heap[D]? = some o) : Below w.heap.size w (W.putObj D o') :=
  h.grown (grownBy_putObj' W D o') (by have := h.size; omega) (fun k e => by cases e; omega)

end Go.Proofs.YteljpabhcmihoaaDoor
