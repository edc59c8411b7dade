/-
  What is proved: what Read of package frame, and the document's, hand back. No conditions but bounds.
-/
import Derived.Test.YthkbenhlhldglaaDoorOe
namespace Go.Proofs.YthkbenhlhldglaaDoor
open Go.RowKit Go.Sort

theorem At.put3 {w : World} {b : Nat} {z0 z1 z2 : Value} {t : TypeId} (h : At w b #[z0, z1, z2] t) (u0 u1 u2 : Value) :
    At (((w.setCell ⟨b, 0, none⟩ u0).setCell ⟨b, 1, none⟩ u1).setCell ⟨b, 2, none⟩ u2) b #[u0, u1, u2] t := by
  have h1 := Go.Joins.block_setCell (i := 0) h u0
  have h2 := Go.Joins.block_setCell (i := 1) h1 u1
  have h3 := Go.Joins.block_setCell (i := 2) h2 u2
  unfold At
  simpa using h3
theorem RowB.cellD {w : World} {b off : Nat} {L : List Int} (h : RowB w b off L) {i : Nat} (hi : i < L.length) : w.cell? ⟨b, off + i, none⟩ = some (.int .u8 (L.getD i 0)) := by
  obtain ⟨x, hx⟩ := list_at hi
  rw [h i x hx, List.getD_eq_getElem?_getD, hx]; rfl
/-- A message that was read. -/
def RdQ (w : World) (L : List Int) (D : Nat → Prop) (e : Ending) (w' : World) : Prop :=
  ∃ v, e = .returned (.tuple #[.agg #[.int .i64 (rdM L).op, .int .i64 (rdM L).id, v], .int .i64 (rdN L : Nat), .int .i64 (rdE L)]) ∧ Sv w' v (rdM L).body ∧ ((rdM L).body = [] ∨ ∃ k, v.ownBlock = some k ∧ D k) ∧ Bl w w'
theorem rd_bad {L : List Int} {x : Int} (h : rdE L = x) (hx : x ≠ 0) : rdM L = ⟨0, 0, []⟩ ∧ rdN L = 0 := by
  unfold rdM rdN
  rw [if_neg (by rw [h]; exact hx), if_neg (by rw [h]; exact hx)]; exact ⟨rfl, rfl⟩
theorem RdQ.bad {w w' : World} {L : List Int} {D : Nat → Prop} {x : Int} (h : rdE L = x) (hx : x ≠ 0) (g : Bl w w') : RdQ w L D (.returned (.tuple #[.agg #[.int .i64 0, .int .i64 0, .slice none 0 0], .int .i64 0, .int .i64 x])) w' := by
  obtain ⟨h1, h2⟩ := rd_bad h hx
  refine ⟨.slice none 0 0, by rw [h1, h2, h]; rfl, by rw [h1]; exact Sv.nil _, by rw [h1]; exact .inl rfl, g⟩
theorem rd_good {L : List Int} (h : rdE L = 0) : rdM L = ⟨L.getD 2 0, L.getD 3 0 * 16777216 + L.getD 4 0 * 65536 + L.getD 5 0 * 256 + L.getD 6 0, (L.take (hdN L).toNat).drop 7⟩ ∧ rdN L = (hdN L).toNat := by
  unfold rdM rdN
  rw [if_pos h, if_pos h]; exact ⟨rfl, rfl⟩

end Go.Proofs.YthkbenhlhldglaaDoor
