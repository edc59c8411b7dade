/-
  What is proved: words for what Split hands back. No program.
-/
import Derived.Test.YthkbenhlhldglaaDoorOh
namespace Go.Proofs.YthkbenhlhldglaaDoor
open Go.RowKit Go.Sort

/-- Messages that were split. -/
def SpQ (w : World) (L : List Int) (D : Nat → Prop) (e : Ending) (w' : World) : Prop :=
  ∃ (A' : Option Addr) (c' : Nat) (X : List (Ms × Value)), e = .returned (.tuple #[.slice A' X.length c', .int .i64 ((spl L).2.1 : Nat), .int .i64 (spl L).2.2]) ∧ X.map Prod.fst = (spl L).1 ∧ Mv w' A' X ∧ (A' = none → c' = 0) ∧ (∀ k, A'.map (·.block) = some k → w.heap.size ≤ k) ∧ (∀ p ∈ X, p.1.body = [] ∨ ∃ k, p.2.ownBlock = some k ∧ D k) ∧ Bl w w'
/-- What was split so far, and what is left to split, is what all is. -/
def Upt (L : List Int) (k : Nat) (X : List (Ms × Value)) : Prop := spl L = (X.map Prod.fst ++ (spl (L.drop k)).1, k + (spl (L.drop k)).2.1, (spl (L.drop k)).2.2)
theorem Upt.zero (L : List Int) : Upt L 0 [] := by unfold Upt; simp
theorem Upt.step {L : List Int} {k : Nat} {X : List (Ms × Value)} (h : Upt L k X) (hr : rdE (L.drop k) = 0) (v : Value) : Upt L (k + rdN (L.drop k)) (X ++ [(rdM (L.drop k), v)]) := by
  unfold Upt at *
  rw [h, spl_ok hr, List.drop_drop]
  simp [Nat.add_assoc]
theorem Upt.bad {L : List Int} {k : Nat} {X : List (Ms × Value)} (h : Upt L k X) (hk : k < L.length) (hr : rdE (L.drop k) ≠ 0) : spl L = (X.map Prod.fst, k, rdE (L.drop k)) := by
  unfold Upt at h
  have hne : L.drop k ≠ [] := by
    intro e
    have := congrArg List.length e
    rw [List.length_drop, List.length_nil] at this
    omega
  rw [h, spl_bad hne hr]
  simp
theorem Upt.all {L : List Int} {X : List (Ms × Value)} (h : Upt L L.length X) : spl L = (X.map Prod.fst, L.length, 0) := by
  unfold Upt at h
  rw [h, List.drop_length, spl_nil]
  simp
theorem Upt.len {L : List Int} {k : Nat} {X : List (Ms × Value)} (h : Upt L k X) : X.length ≤ L.length := by
  have h1 := spl_few L
  unfold Upt at h
  rw [h] at h1
  simp at h1
  omega

end Go.Proofs.YthkbenhlhldglaaDoor
