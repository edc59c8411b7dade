/-
  What is proved: what lives of the statements hands back. No conditions but bounds.
-/
import Derived.Test.YthkbenhlhldglaaDoorZi
namespace Go.Proofs.YthkbenhlhldglaaDoor
open Go.RowKit Go.Sort

theorem dec_live : decR ⟨13, 5, [0, 0, 0, 9]⟩ = (⟨13, 5, 9, 0, 0, 0, 0, 0, ⟨#[]⟩, []⟩, 0) := by rfl
set_option maxRecDepth 100000 in
set_option maxHeartbeats 2000000 in
theorem qlives1 (w : World) : Calls Tryd.prog 19 #[] w (Bt w (.bool true)) := by
  have c1 := dec1 ⟨13, 5, [0, 0, 0, 9]⟩ (some ⟨w.heap.size, 0, none⟩) 4 (w.alloc (.cells #[.int .u8 0, .int .u8 0, .int .u8 0, .int .u8 9] 5))
    (.inr ⟨w.heap.size, 0, rfl, fun i x hx => by
      rw [Nat.zero_add, (At.new w _ _).cell i]
      match i, hx with
      | 0, hx => cases hx; rfl
      | 1, hx => cases hx; rfl
      | 2, hx => cases hx; rfl
      | 3, hx => cases hx; rfl
      | i + 4, hx => simp at hx⟩) (fun h => by cases h) (by simp) (by simp [maxLen]) (fun x hx => by simp at hx; omega) (by simp)
  rw [dec_live] at c1
  dsimp only [List.length_cons, List.length_nil] at c1
  replace c1 := Lib.hid c1
  go_enter Tryd.func19, Tryd.ntmps19
  go_wp2_with fail
  refine c1.out.mono ?_
  rintro e w1 ⟨d, rfl, hQ, g1⟩
  obtain ⟨A0, c0, rfl, _⟩ := hQ.sv
  unfold vQ
  dsimp only
  have G : Bl w w1 := ((Bl.refl w).alloc _).trans g1
  clear hQ g1
  go_wp2
  go_ret
  exact ⟨rfl, by repeat (first | with_reducible assumption | with_reducible apply Bl.drew | with_reducible apply Bl.alloc)⟩

end Go.Proofs.YthkbenhlhldglaaDoor
