/-
  What is proved: a world that holds the two listed tables of Go's library, for the rows' witnesses. No conditions.
-/
import Derived.Test.YthkbenhlhldglaaDoorRows
import Derived.Test.YthkbenhlhldglaaDoorCards
import Derived.Test.YthkbenhlhldglaaDoorTie
import Derived.WalkKit
import Derived.ProofKit
import Derived.OpenShut
import Derived.Deep.DeepHandedRow
import Derived.Lib.LaidTab
namespace Go.Proofs.YthkbenhlhldglaaDoor
open Go.ChangeShapes Go.WideShapes Go.ChangeAt Go.RowKit

/-- The cells that a table's datum lays. -/
def tabCells : DataW Unit → List Value
  | .lit (.int k n) => [.int k n]
  | .agg l => tabAll l
  | _ => []
where tabAll : List (DataW Unit) → List Value
  | [] => []
  | d :: r => tabCells d ++ tabAll r
/-- A block whose cells are these. -/
def layCells (cs : List Value) : Obj → Obj
  | .cells _ t frozen => .cells cs.toArray t frozen
  | o => o
/-- The settled world, the two tables (blocks 0 and 1) holding what their initialisers lay. -/
noncomputable def laidWorld (os : Os) : World :=
  { World.holding Tryd.prog os ⟨#[], #[], []⟩ with heap := ((World.holding Tryd.prog os ⟨#[], #[], []⟩).heap.modify 2 (layCells (tabCells Rows.laid_unicode_utf8_first))).modify 3 (layCells (tabCells Rows.laid_unicode_utf8_acceptRanges)) }

end Go.Proofs.YthkbenhlhldglaaDoor
