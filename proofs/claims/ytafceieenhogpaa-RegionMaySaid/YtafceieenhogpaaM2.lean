/-
  What is proved: what Scale hands back, and the document's own answers for Move and Scale.
-/
import Derived.Test.YtafceieenhogpaaM1
namespace Go.Proofs.Ytafceieenhogpaa
open Go.RowKit Go.Sort

attribute [local go_sem] cell?_grow frozen?_grow nlt_r

def scaleB (a b c d n : Int) : Bool := mayB a b c d && mayB (n * a) (n * b) (n * c) (n * d)
def scaleR (a b c d n : Int) : Rc := if n < 1 ∨ 8 < n then ⟨0, 0, 0, 0⟩ else if scaleB a b c d n = true then ⟨n * a, n * b, n * c, n * d⟩ else ⟨0, 0, 0, 0⟩
def scaleE (a b c d n : Int) : Int := if n < 1 ∨ 8 < n then 1 else if scaleB a b c d n = true then 0 else 4
theorem scaleR_o {a b c d n : Int} (h : n < 1 ∨ 8 < n) : (scaleR a b c d n).a = 0 ∧ (scaleR a b c d n).b = 0 ∧ (scaleR a b c d n).c = 0 ∧ (scaleR a b c d n).d = 0 ∧ scaleE a b c d n = 1 := by
  unfold scaleR scaleE; rw [if_pos h, if_pos h]; exact ⟨rfl, rfl, rfl, rfl, rfl⟩
theorem scaleR_t {a b c d n : Int} (h : 1 ≤ n ∧ n ≤ 8) (hB : scaleB a b c d n = true) : (scaleR a b c d n).a = n * a ∧ (scaleR a b c d n).b = n * b ∧ (scaleR a b c d n).c = n * c ∧ (scaleR a b c d n).d = n * d ∧ scaleE a b c d n = 0 := by
  have hn : ¬(n < 1 ∨ 8 < n) := by omega
  unfold scaleR scaleE; rw [if_neg hn, if_neg hn, if_pos hB, if_pos hB]; exact ⟨rfl, rfl, rfl, rfl, rfl⟩
theorem scaleR_f {a b c d n : Int} (h : 1 ≤ n ∧ n ≤ 8) (hB : scaleB a b c d n = false) : (scaleR a b c d n).a = 0 ∧ (scaleR a b c d n).b = 0 ∧ (scaleR a b c d n).c = 0 ∧ (scaleR a b c d n).d = 0 ∧ scaleE a b c d n = 4 := by
  have hn : ¬(n < 1 ∨ 8 < n) := by omega
  have hb : ¬(scaleB a b c d n = true) := by simp [hB]
  unfold scaleR scaleE; rw [if_neg hn, if_neg hn, if_neg hb, if_neg hb]; exact ⟨rfl, rfl, rfl, rfl, rfl⟩

end Go.Proofs.Ytafceieenhogpaa
