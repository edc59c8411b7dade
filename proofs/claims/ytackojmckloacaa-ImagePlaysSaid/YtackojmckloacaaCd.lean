/-
  What is proved: what the document's 'over' hands back.
-/
import Derived.Test.YtackojmckloacaaCc
import Derived.Deep.RegionHeld3
import Derived.Lib.SmallJoins
namespace Go.Proofs.Ytackojmckloacaa
open Go.RowKit Go.Sort

attribute [local go_sem ↓] run_min2 run_max2

theorem far_cell {w : World} {b k i j : Nat} {v u : Value} (h : w.cell? ⟨b, i, none⟩ = some v) (hp : b ≠ k) : (w.setCell ⟨k, j, none⟩ u).drew.cell? ⟨b, i, none⟩ = some v := by
  show (w.setCell ⟨k, j, none⟩ u).cell? ⟨b, i, none⟩ = some v
  rw [← h]; unfold World.cell?; rw [Below.heap_setCell _ _ _ _ hp]

end Go.Proofs.Ytackojmckloacaa
