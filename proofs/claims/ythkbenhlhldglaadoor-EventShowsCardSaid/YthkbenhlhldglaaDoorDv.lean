/-
  What is proved: what a world that meets the rows' lists holds: the table of shapes; a world that holds all listed tables, for the rows' witnesses. No conditions.
-/
import Derived.Test.YthkbenhlhldglaaDoorDd
import Derived.Test.YthkbenhlhldglaaDoorCards
import Derived.Test.YthkbenhlhldglaaDoorTie
import Derived.WalkKit
import Derived.ProofKit
import Derived.OpenShut
import Derived.Deep.DeepHandedRow
import Derived.Lib.LaidTab
import Derived.Stop.LaidErr
namespace Go.Proofs.YthkbenhlhldglaaDoor
open Go.ChangeShapes Go.WideShapes Go.ChangeAt Go.RowKit Go.Joins Go.Sort

theorem cellsShape : Tryd.prog.cellsOf 119 = 2 := by kernel_rfl
theorem cellsShapes : Tryd.prog.cellsOf 144 = 12 := by kernel_rfl
theorem cellsStrE : Tryd.prog.cellsOf 9 = 1 := by kernel_rfl
theorem shapesG : Tryd.prog.globalNamed "rondel/event.shapes" = some 0 := by kernel_rfl
theorem shapesT : (Tryd.prog.globals[0]?).map (·.type) = some 144 := by kernel_rfl
theorem list12 {α : Type} {l : List α} (h : l.length = 12) : ∃ v0 v1 v2 v3 v4 v5 v6 v7 v8 v9 v10 v11 : α, l = [v0, v1, v2, v3, v4, v5, v6, v7, v8, v9, v10, v11] := by
  match l, h with
  | [v0, v1, v2, v3, v4, v5, v6, v7, v8, v9, v10, v11], _ => exact ⟨v0, v1, v2, v3, v4, v5, v6, v7, v8, v9, v10, v11, rfl⟩
section
variable {w : World} {base : Nat} {spare : Nat → Bool} {held : Bool} {enc : TypeId × Value → Unit}
set_option maxRecDepth 100000 in
/-- A shape's cells, where its texts are known. -/
theorem shape_cells {n : Nat} {u v : Value} {x : DataW Unit × List MemPlace} {a b : List UInt8} (h : DataW.trod enc Tryd.prog w base spare held n 119 [u, v] = some x) (hx : x.1 = .agg [.lit (.string a), .lit (.string b)]) :
    u = .string ⟨a.toArray⟩ ∧ v = .string ⟨b.toArray⟩ := by
  obtain ⟨y0, y1, m, rfl, _, h0, h1⟩ := trod_struct2 Tryd.underlying119 h
  obtain ⟨s, e0, rfl, _⟩ := DataW.trod_string Tryd.underlying9 h0
  obtain ⟨t, e1, rfl, _⟩ := DataW.trod_string Tryd.underlying9 h1
  simp [cellsStrE] at e0 e1
  subst e0 e1
  dsimp only at hx
  injection hx with hx
  injection hx with h2 h3
  injection h3 with h3 _
  injection h2 with h2
  injection h3 with h3
  injection h2 with h2
  injection h3 with h3
  subst h2 h3
  exact ⟨by cases s; simp, by cases t; simp⟩
end
set_option maxRecDepth 100000 in
theorem sh_of_laid {r : List (String × DataW Unit)} {W : World} (h : laidMet Tryd.prog (("rondel/event.shapes", Rows.laid_rondel_event_shapes) :: r) W) : Sh W := by
  obtain ⟨ps, ⟨g', t', cs, fuel, p, q, hg', ht', hvar, hd, _, _⟩, _⟩ := h
  obtain rfl := Option.some.inj (shapesG.symm.trans hg')
  obtain rfl := Option.some.inj (shapesT.symm.trans ht')
  obtain ⟨xs, m, _, hx, hl, hxl, hf⟩ := DataW.trod_array Tryd.underlying144 hd
  rw [cellsShapes] at hl
  obtain ⟨v0, v1, v2, v3, v4, v5, v6, v7, v8, v9, v10, v11, hcs⟩ := list12 hl
  rw [hcs] at hf
  rw [cellsShape] at hf
  have hx1 := congrArg Prod.fst hx
  dsimp only at hx1
  unfold Rows.laid_rondel_event_shapes at hx1
  injection hx1 with hx1
  match xs, hxl with
  | [x0, x1, x2, x3, x4, x5], _ =>
    simp only [List.map_cons, List.map_nil] at hx1
    injection hx1 with e0 hx1
    injection hx1 with e1 hx1
    injection hx1 with e2 hx1
    injection hx1 with e3 hx1
    injection hx1 with e4 hx1
    injection hx1 with e5 _
    obtain ⟨a0, b0⟩ := shape_cells (hf 0 (by omega)) e0.symm
    obtain ⟨a1, b1⟩ := shape_cells (hf 1 (by omega)) e1.symm
    obtain ⟨a2, b2⟩ := shape_cells (hf 2 (by omega)) e2.symm
    obtain ⟨a3, b3⟩ := shape_cells (hf 3 (by omega)) e3.symm
    obtain ⟨a4, b4⟩ := shape_cells (hf 4 (by omega)) e4.symm
    obtain ⟨a5, b5⟩ := shape_cells (hf 5 (by omega)) e5.symm
    subst a0 b0 a1 b1 a2 b2 a3 b3 a4 b4 a5 b5
    obtain ⟨cl⟩ := cs
    dsimp only at hcs
    subst hcs
    have cell := fun i => World.var?_cell shapesG hvar i
    intro n hn
    rw [cell, cell]
    rcases six hn with rfl | rfl | rfl | rfl | rfl | rfl <;> exact ⟨rfl, rfl⟩
theorem sh_row {W : World} (h : laidMetH Tryd.prog [("unicode/utf8.acceptRanges", Rows.laid_unicode_utf8_acceptRanges), ("rondel/event.shapes", Rows.laid_rondel_event_shapes), ("unicode/utf8.first", Rows.laid_unicode_utf8_first)] W) : Sh W :=
  sh_of_laid (laidMet.tail (show laidMet Tryd.prog _ W from h))
/-- The cells that a table's datum lays. -/
def tabCellsE : DataW Unit → List Value
  | .lit (.int k n) => [.int k n]
  | .lit (.string s) => [.string ⟨s.toArray⟩]
  | .agg l => tabAll l
  | _ => []
where tabAll : List (DataW Unit) → List Value
  | [] => []
  | d :: r => tabCellsE d ++ tabAll r
/-- A block whose cells are these. -/
def layCellsE (d : DataW Unit) : Obj → Obj
  | .cells _ t frozen => .cells (tabCellsE d).toArray t frozen
  | o => o
/-- The settled world, all tables holding what their initialisers lay. -/
noncomputable def laidWorldE (os : Os) : World :=
  { World.holding Tryd.prog os ⟨#[], #[], []⟩ with heap := ((((((World.holding Tryd.prog os ⟨#[], #[], []⟩).heap.modify 2 (layCellsE Rows.laid_unicode_utf8_first)).modify 3 (layCellsE Rows.laid_unicode_utf8_acceptRanges)).modify 0 (layCellsE Rows.laid_rondel_event_shapes)).modify 1 (layCellsE Rows.laid_internal_strconv_uint64pow10)).modify 4 (layCellsE Rows.laid_math_bits_deBruijn32tab)).modify 5 (layCellsE Rows.laid_math_bits_deBruijn64tab) }

end Go.Proofs.YthkbenhlhldglaaDoor
