/-
  What is proved: what a world that meets the rows' lists holds, where these have the library's powers of ten too. No conditions.
-/
import Derived.Test.YthkbenhlhldglaaDoorDv
import Derived.Test.YthkbenhlhldglaaDoorDo
namespace Go.Proofs.YthkbenhlhldglaaDoor
open Go.ChangeShapes Go.WideShapes Go.ChangeAt Go.RowKit Go.Joins Go.Sort

theorem pow10G : Tryd.prog.globalNamed "internal/strconv.uint64pow10" = some 1 := by kernel_rfl
theorem tb_of_laid {r : List (String × DataW Unit)} {W : World} (h : laidMet Tryd.prog (("internal/strconv.uint64pow10", Rows.laid_internal_strconv_uint64pow10) :: r) W) : Tb W :=
  Lib.tabIs_of_head (e := 166) pow10G (by kernel_rfl) Tryd.underlying182 Tryd.underlying166 (by kernel_rfl) (by kernel_rfl) h
theorem all_row {W : World} (h : laidMetH Tryd.prog [("math/bits.deBruijn32tab", Rows.laid_math_bits_deBruijn32tab), ("math/bits.deBruijn64tab", Rows.laid_math_bits_deBruijn64tab), ("internal/strconv.uint64pow10", Rows.laid_internal_strconv_uint64pow10), ("unicode/utf8.acceptRanges", Rows.laid_unicode_utf8_acceptRanges), ("rondel/event.shapes", Rows.laid_rondel_event_shapes), ("unicode/utf8.first", Rows.laid_unicode_utf8_first)] W) : Sh W ∧ Tb W := by
  have h' : laidMet Tryd.prog _ W := h
  have h2 := laidMet.tail (laidMet.tail h')
  exact ⟨sh_of_laid (laidMet.tail (laidMet.tail h2)), tb_of_laid h2⟩

end Go.Proofs.YthkbenhlhldglaaDoor
