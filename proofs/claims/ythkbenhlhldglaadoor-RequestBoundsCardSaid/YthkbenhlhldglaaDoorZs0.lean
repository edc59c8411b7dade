/-
  What is proved: the statement RequestBounds walked: numbers at the bounds are asked for, and those beyond are refused. No conditions but bounds.
-/
import Derived.Test.YthkbenhlhldglaaDoorMk
import Derived.Test.YthkbenhlhldglaaDoorZn
import Derived.Test.YthkbenhlhldglaaDoorZof
import Derived.Test.YthkbenhlhldglaaDoorMa
import Derived.Deep.RegionHeld3
namespace Go.Proofs.YthkbenhlhldglaaDoor
open Go.RowKit Go.Sort

theorem enc_lo0 : (encR ⟨0, 1, 1, 1, 0, 0, 0, 0, ⟨#[]⟩, []⟩).2 = 0 := by rfl
theorem enc_hi0 : (encR ⟨0, 1, 256, 1, 0, 0, 0, 0, ⟨#[]⟩, []⟩).2 = 0 := by rfl
theorem enc_out0 : (encR ⟨0, 1, 257, 1, 0, 0, 0, 0, ⟨#[]⟩, []⟩).2 = 1 := by rfl
theorem enc_lo1 : (encR ⟨7, 1, (-1048576), (-1048576), 0, 0, 0, 0, ⟨#[]⟩, []⟩).2 = 0 := by rfl
theorem enc_hi1 : (encR ⟨7, 1, 1048576, (-1048576), 0, 0, 0, 0, ⟨#[]⟩, []⟩).2 = 0 := by rfl
theorem enc_out1 : (encR ⟨7, 1, 1048577, (-1048576), 0, 0, 0, 0, ⟨#[]⟩, []⟩).2 = 1 := by rfl
theorem enc_lo2 : (encR ⟨10, 1, 1, 0, 0, 0, 0, 0, ⟨#[]⟩, []⟩).2 = 0 := by rfl
theorem enc_hi2 : (encR ⟨10, 1, 8, 0, 0, 0, 0, 0, ⟨#[]⟩, []⟩).2 = 0 := by rfl
theorem enc_out2 : (encR ⟨10, 1, 9, 0, 0, 0, 0, 0, ⟨#[]⟩, []⟩).2 = 1 := by rfl
theorem enc_lo3 : (encR ⟨13, 1, 0, 0, 0, 0, 0, 0, ⟨#[]⟩, []⟩).2 = 0 := by rfl
theorem enc_hi3 : (encR ⟨13, 1, 255, 0, 0, 0, 0, 0, ⟨#[]⟩, []⟩).2 = 0 := by rfl
theorem enc_out3 : (encR ⟨13, 1, 256, 0, 0, 0, 0, 0, ⟨#[]⟩, []⟩).2 = 1 := by rfl
theorem enc_lo4 : (encR ⟨17, 1, (-1048576), (-1048576), 0, 0, 0, 0, ⟨#[]⟩, []⟩).2 = 0 := by rfl
theorem enc_hi4 : (encR ⟨17, 1, 1048576, (-1048576), 0, 0, 0, 0, ⟨#[]⟩, []⟩).2 = 0 := by rfl
theorem enc_out4 : (encR ⟨17, 1, 1048577, (-1048576), 0, 0, 0, 0, ⟨#[]⟩, []⟩).2 = 1 := by rfl

end Go.Proofs.YthkbenhlhldglaaDoor
