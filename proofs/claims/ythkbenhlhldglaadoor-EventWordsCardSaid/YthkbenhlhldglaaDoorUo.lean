/-
  What is proved: what few, all of the statements, Letters and Good of the document's package, and Size of package args, hand back. No conditions but bounds.
-/
import Derived.Test.YthkbenhlhldglaaDoorUn
import Derived.Test.YthkbenhlhldglaaDoorOcf
namespace Go.Proofs.YthkbenhlhldglaaDoor
open Go.RowKit Go.Sort
attribute [local go_sem ↓] run_min2 run_max2

/-- A row of arguments that was made; their bytes are the old ones. -/
def MadeQ (w : World) (l : List Av) (e : Ending) (w' : World) : Prop := ∃ A' c' X, e = .returned (.slice A' (X : List (Av × Value)).length c') ∧ X.map Prod.fst = l ∧ OwV w' w.heap.size A' c' X ∧ (∀ p ∈ X, Sv w p.2 p.1.b) ∧ Bl w w'
def fewA (a : Av) : Av := { a with s := a.s.extract 0 (min a.s.size 300), b := a.b.take 300 }
def fewL (l : List Av) : List Av := (l.take 10).map fewA
theorem take_snoc {α : Type} {l : List α} {k : Nat} {x : α} (h : l[k]? = some x) : l.take (k + 1) = l.take k ++ [x] := by
  rw [List.take_add_one, h]; rfl
theorem min_nat (n k : Nat) : min (n : Int) (k : Int) = ((min n k : Nat) : Int) := by omega

end Go.Proofs.YthkbenhlhldglaaDoor
