/-
  What is proved: what Letters of the document's package hands back of any text. No conditions but a bound.
-/
import Derived.Test.YthkbenhlhldglaaDoorUp
namespace Go.Proofs.YthkbenhlhldglaaDoor
open Go.RowKit Go.Sort
attribute [local go_sem ↓] run_min2 run_max2

theorem concat_one (t : ByteArray) (c : UInt8) : (t ++ (⟨#[c]⟩ : ByteArray)).data.toList = t.data.toList ++ [c] := by
  rw [Go.Joins.data_append]
end Go.Proofs.YthkbenhlhldglaaDoor
