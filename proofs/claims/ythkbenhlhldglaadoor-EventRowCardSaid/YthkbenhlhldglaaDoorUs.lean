/-
  What is proved: the document's example; how arguments that are bytes, arguments of the document's package, and rows of these are opened. No conditions.
-/
import Derived.Test.YthkbenhlhldglaaDoorUr
import Derived.Deep.Slices
namespace Go.Proofs.YthkbenhlhldglaaDoor
open Go.ChangeShapes Go.WideShapes Go.ChangeAt Go.RowKit Go.Joins Go.Sort Go.Deep

theorem pk_lives : pkR [105, 115] [vI (-1), vS ⟨#[97]⟩] = ([255, 255, 255, 255, 1, 97], 0) := by
  have e1 : put 105 (vI (-1)) = some [255, 255, 255, 255] := by rw [put_i (by unfold small; omega)]; rfl
  have e2 : put 115 (vS ⟨#[97]⟩) = some [1, 97] := by rw [put_s (by decide)]; rfl
  unfold pkR
  rw [if_pos ⟨rfl, rfl⟩]
  simp only [pkA, e1, e2]
  rfl
end Go.Proofs.YthkbenhlhldglaaDoor
