/-
  What is proved: what cmp.Compare, cmp.Or (of four ints) and rect.Compare hand back.
-/
import Derived.Test.YtdijfbmccnficaaA2
import Derived.Deep.RegionHeld3
import Derived.Deep.DrawnRows
namespace Go.Proofs.Ytdijfbmccnficaa
open Go.RowKit Go.Sort

def cmpI (a b : Int) : Int := if a < b then -1 else if b < a then 1 else 0
def orI (a b : Int) : Int := if a = 0 then b else a
def cmpR (a b c d a' b' c' d' : Int) : Int := orI (cmpI b b') (orI (cmpI a a') (orI (cmpI d d') (cmpI c c')))

theorem cmpI_bd (a b : Int) : -1 ≤ cmpI a b ∧ cmpI a b ≤ 1 := by unfold cmpI; split <;> (try split) <;> omega
theorem cmpR_bd (a b c d a' b' c' d' : Int) : -1 ≤ cmpR a b c d a' b' c' d' ∧ cmpR a b c d a' b' c' d' ≤ 1 := by
  have h1 := cmpI_bd a a'
  have h2 := cmpI_bd b b'
  have h3 := cmpI_bd c c'
  have h4 := cmpI_bd d d'
  unfold cmpR orI
  split <;> (try split) <;> (try split) <;> omega

set_option maxHeartbeats 400000 in
theorem cmp1 (a b : Int) (w : World) :
    Calls Try.prog 39 #[.int .i64 a, .int .i64 b] w fun e w' => e = .returned (.int .i64 (cmpI a b)) ∧ w = w' := by
  go_enter Try.func39, Try.ntmps39
  go_wp2
  all_goals
    go_ret
    refine ⟨ret_int ?_, rfl⟩
    unfold cmpI
    first | rw [if_pos ‹_›] | (rw [if_neg (by omega), if_pos ‹_›]) | (rw [if_neg (by omega), if_neg (by omega)])

set_option maxHeartbeats 1000000 in
theorem or1 (p q r s : Int) (b : Nat) (w : World) (h0 : w.cell? ⟨b, 0, none⟩ = some (.int .i64 p)) (h1 : w.cell? ⟨b, 1, none⟩ = some (.int .i64 q)) (h2 : w.cell? ⟨b, 2, none⟩ = some (.int .i64 r)) (h3 : w.cell? ⟨b, 3, none⟩ = some (.int .i64 s)) :
    Calls Try.prog 38 #[.slice (some ⟨b, 0, none⟩) 4 4] w fun e w' => e = .returned (.int .i64 (orI p (orI q (orI r s)))) ∧ w = w' := by
  go_enter Try.func38, Try.ntmps38
  go_wp2
  refine wp_loop_rounds 5 ?_
  repeat any_goals (rw [rounds_succ]; go_wp2)
  all_goals
    go_ret
    refine ⟨ret_int ?_, rfl⟩
    simp only [bne_iff_ne, ne_eq, bne_eq_false_iff_eq] at *
    simp [orI, *]

set_option maxHeartbeats 1000000 in
theorem compare1 (a b c d a' b' c' d' : Int) (w : World) :
    Calls Try.prog 32 #[.agg #[.int .i64 a, .int .i64 b, .int .i64 c, .int .i64 d], .agg #[.int .i64 a', .int .i64 b', .int .i64 c', .int .i64 d']] w (Rt w (.int .i64 (cmpR a b c d a' b' c' d'))) := by
  go_enter Try.func32, Try.ntmps32
  go_wp2
  go_region_held3 (fun w' => w'.cell? ⟨w.heap.size, 0, none⟩ = some (.int .i64 a) ∧ w'.cell? ⟨w.heap.size, 1, none⟩ = some (.int .i64 b) ∧ w'.cell? ⟨w.heap.size, 2, none⟩ = some (.int .i64 c) ∧ w'.cell? ⟨w.heap.size, 3, none⟩ = some (.int .i64 d) ∧
      w'.cell? ⟨w.heap.size + 1, 0, none⟩ = some (.int .i64 a') ∧ w'.cell? ⟨w.heap.size + 1, 1, none⟩ = some (.int .i64 b') ∧ w'.cell? ⟨w.heap.size + 1, 2, none⟩ = some (.int .i64 c') ∧ w'.cell? ⟨w.heap.size + 1, 3, none⟩ = some (.int .i64 d')) (go_keep)
    (first | (go_at_call 39; refine (cmp1 _ _ _).mono ?_; rintro e w' ⟨rfl, rfl⟩) | (go_at_call 38; (refine (or1 (cmpI b b') (cmpI a a') (cmpI d d') (cmpI c c') _ _ ?_ ?_ ?_ ?_).mono ?_; go_simp; go_simp; go_simp; go_simp; rintro e w' ⟨rfl, rfl⟩)))
  all_goals go_wp2
  all_goals
    go_ret
    refine Rt.int rfl ?_
    repeat (first | with_reducible exact Gr.refl _ | with_reducible apply Gr.drew | with_reducible apply Gr.drewN | with_reducible apply Gr.grow | with_reducible apply Gr.alloc | (with_reducible refine Gr.setCell ?_ ?_ _; rotate_left; (simp; try omega)))

end Go.Proofs.Ytdijfbmccnficaa
