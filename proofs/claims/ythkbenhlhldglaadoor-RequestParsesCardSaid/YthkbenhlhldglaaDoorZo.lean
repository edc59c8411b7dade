/-
  What is proved: what Encode of the document hands back of any request. No conditions but bounds.
-/
import Derived.Test.YthkbenhlhldglaaDoorZm
import Derived.Test.YthkbenhlhldglaaDoorMd
import Derived.Deep.RegionHeld3
namespace Go.Proofs.YthkbenhlhldglaaDoor
open Go.RowKit Go.Sort

theorem may_dec {N : Nat} {id : Int} {b : List Int} (hN : N < 19) (hl : b.length ≤ 4096) (h : mayM ⟨N, id, b⟩ = false) : ¬ (decR ⟨N, id, b⟩).2 = 0 := by
  have hm : mayM ⟨N, id, []⟩ = false := by
    cases hc : mayM ⟨N, id, []⟩ with
    | false => rfl
    | true =>
      rw [mayM_iff] at hc
      have : mayM ⟨N, id, b⟩ = true := (mayM_iff _).2 ⟨hc.1, hc.2.1, hl⟩
      rw [this] at h; cases h
  unfold decR
  dsimp only
  rw [if_pos ⟨by omega, by omega⟩]
  unfold decU
  split
  · have hi := setL_id (unR (fmL ((N : Int)).toNat) b).1 (oQ N id) 0
    rw [if_neg (by
      unfold mayQ idB
      rw [hi.1, hi.2]
      show ¬ ((mayM ⟨N, id, []⟩ && _) && _) = true
      rw [hm]; simp)]
    simp
  · assumption
set_option maxRecDepth 100000 in
set_option maxHeartbeats 2000000 in
theorem renc0 (r : Rq) (d : Value) (w : World) (hd : Sv w d r.d) (ho : ¬ (0 ≤ r.op ∧ r.op ≤ 18)) :
    Calls Tryd.prog 13 #[vQ r d] w (EncQ w (encR r)) := by
  have e : encR r = (zM, 12) := by unfold encR; rw [if_neg ho]
  rw [e]
  obtain ⟨A, c, rfl, _⟩ := hd
  obtain ⟨op, id, a, b, x0, y0, x1, y1, s, L⟩ := r
  unfold vQ
  dsimp only at *
  generalize L.length = n at *
  have h' : op < 0 ∨ ¬ op < 0 ∧ 18 < op := by omega
  clear ho e
  rcases h' with h | ⟨h, h'⟩
  all_goals
    go_enter Tryd.func13, Tryd.ntmps13
    go_wp2
    refine bodyPost_ret (v := .tuple #[.agg #[.int .i64 0, .int .i64 0, .slice none 0 0], .int .i64 12]) (by simp [results, Tryd.results13, go_sem]) rfl ⟨.slice none 0 0, rfl, Sv.nil _, ?_⟩
    exact ((Bl.refl w).alloc _).alloc _

end Go.Proofs.YthkbenhlhldglaaDoor
