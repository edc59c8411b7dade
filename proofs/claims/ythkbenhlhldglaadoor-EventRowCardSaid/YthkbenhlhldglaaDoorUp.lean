/-
  What is proved: what all of the statements, Letters of the document's package, and Size of package args, hand back. No conditions but bounds.
-/
import Derived.Test.YthkbenhlhldglaaDoorUo
namespace Go.Proofs.YthkbenhlhldglaaDoor
open Go.RowKit Go.Sort
attribute [local go_sem ↓] run_min2 run_max2

theorem asV_iface (p : Av × Value) : ∃ t x, asV p = .iface t x := by
  unfold asV
  split
  · exact ⟨_, _, rfl⟩
  · split
    · exact ⟨_, _, rfl⟩
    · split
      · exact ⟨_, _, rfl⟩
      · split <;> exact ⟨_, _, rfl⟩
/-- A row of interface values that are these arguments. -/
def AllQ (w : World) (l : List Av) (e : Ending) (w' : World) : Prop := ∃ A' c' xs, e = .returned (.slice A' (xs : List Value).length c') ∧ Yv w' A' xs ∧ AllA w' xs l ∧ Bl w w'
/-- What Size tells. -/
def szR (f : List UInt8) : Int × Bool := if formB f = true then (match szA 0 f with | some n => ((n : Int), true) | none => (0, false)) else (0, false)
theorem fx_le {c : UInt8} {n : Nat} (h : fx c = some n) : n ≤ 16 := by
  unfold fx at h
  split at h
  · cases h; omega
  · split at h
    · cases h; omega
    · cases h
theorem let_ext : ∀ k : Nat, k < 5 → (⟨#[105, 117, 115, 114, 98]⟩ : ByteArray).extract k (k + 1) = ⟨#[letK k]⟩ := by
  intro k hk
  match k, hk with
  | 0, _ => rfl
  | 1, _ => rfl
  | 2, _ => rfl
  | 3, _ => rfl
  | 4, _ => rfl

end Go.Proofs.YthkbenhlhldglaaDoor
