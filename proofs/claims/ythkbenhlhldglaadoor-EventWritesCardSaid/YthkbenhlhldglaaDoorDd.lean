/-
  What is proved: what find, mayNumber, mayTell, split of package event, and form of the document's, hand back. One condition: the table of shapes reads as its initialiser lays it.
-/
import Derived.Test.YthkbenhlhldglaaDoorDc
namespace Go.Proofs.YthkbenhlhldglaaDoor
open Go.RowKit Go.Sort

/-- The table of shapes. -/
def Sh (w : World) : Prop := ∀ n, n < 6 → w.cell? ⟨0, n * 2, none⟩ = some (.string (enS n)) ∧ w.cell? ⟨0, n * 2 + 1, none⟩ = some (.string (efS n))
theorem Sh.bl {w w' : World} (h : Sh w) (g : Bl w w') : Sh w' := fun n hn => ⟨g.keep (h n hn).1, g.keep (h n hn).2⟩
theorem Sh.gr {w w' : World} (h : Sh w) (g : Gr w w') : Sh w' := h.bl g.bl
set_option maxRecDepth 100000 in
set_option maxHeartbeats 2000000 in
theorem findE1 (n : Nat) (h : n < 6) (w : World) (hS : Sh w) : Calls Tryd.prog 62 #[.int .i64 n] w (Rt w (.tuple #[.agg #[.string (enS n), .string (efS n)], .bool true])) := by
  have h1 : ¬ (n : Int) < 0 := by omega
  have h2 : ¬ 6 ≤ (n : Int) := by omega
  obtain ⟨s0, s1⟩ := (hS.bl ((Bl.refl w).alloc (.cells #[.string ⟨#[]⟩, .string ⟨#[]⟩] 119))) n h
  have X := At.new w #[.string ⟨#[]⟩, .string ⟨#[]⟩] 119
  have G := (Gr.refl w).alloc (.cells #[.string ⟨#[]⟩, .string ⟨#[]⟩] 119)
  generalize enS n = N at *
  generalize efS n = F at *
  go_enter Tryd.func62, Tryd.ntmps62
  go_wp2
  have Y := At.new w #[.string N, .string F] 119
  have G2 := (Gr.refl w).alloc (.cells #[.string N, .string F] 119)
  have d0 : (w.alloc (.cells #[.string N, .string F] 119)).cell? ⟨w.heap.size, 0, none⟩ = some (.string N) := Y.cell 0
  have d1 : (w.alloc (.cells #[.string N, .string F] 119)).cell? ⟨w.heap.size, 1, none⟩ = some (.string F) := Y.cell 1
  exact bodyPost_ret (v := .tuple #[.agg #[.string N, .string F], .bool true]) (by simp [results, Tryd.results62, go_sem, d0, d1]) rfl ⟨rfl, G2⟩
set_option maxRecDepth 100000 in
set_option maxHeartbeats 2000000 in
theorem findE0 (k : Int) (h : ¬ (0 ≤ k ∧ k ≤ 5)) (w : World) : Calls Tryd.prog 62 #[.int .i64 k] w (Rt w (.tuple #[.agg #[.string ⟨#[]⟩, .string ⟨#[]⟩], .bool false])) := by
  by_cases h0 : k < 0
  · go_enter Tryd.func62, Tryd.ntmps62
    go_wp2
    have Y := At.new w #[.string ⟨#[]⟩, .string ⟨#[]⟩] 119
    have G2 := (Gr.refl w).alloc (.cells #[.string ⟨#[]⟩, .string ⟨#[]⟩] 119)
    have d0 : (w.alloc (.cells #[.string ⟨#[]⟩, .string ⟨#[]⟩] 119)).cell? ⟨w.heap.size, 0, none⟩ = some (.string ⟨#[]⟩) := Y.cell 0
    have d1 : (w.alloc (.cells #[.string ⟨#[]⟩, .string ⟨#[]⟩] 119)).cell? ⟨w.heap.size, 1, none⟩ = some (.string ⟨#[]⟩) := Y.cell 1
    exact bodyPost_ret (v := .tuple #[.agg #[.string ⟨#[]⟩, .string ⟨#[]⟩], .bool false]) (by simp [results, Tryd.results62, go_sem, d0, d1]) rfl ⟨rfl, G2⟩
  · have h1 : 6 ≤ k := by omega
    go_enter Tryd.func62, Tryd.ntmps62
    go_wp2
    have Y := At.new w #[.string ⟨#[]⟩, .string ⟨#[]⟩] 119
    have G2 := (Gr.refl w).alloc (.cells #[.string ⟨#[]⟩, .string ⟨#[]⟩] 119)
    have d0 : (w.alloc (.cells #[.string ⟨#[]⟩, .string ⟨#[]⟩] 119)).cell? ⟨w.heap.size, 0, none⟩ = some (.string ⟨#[]⟩) := Y.cell 0
    have d1 : (w.alloc (.cells #[.string ⟨#[]⟩, .string ⟨#[]⟩] 119)).cell? ⟨w.heap.size, 1, none⟩ = some (.string ⟨#[]⟩) := Y.cell 1
    exact bodyPost_ret (v := .tuple #[.agg #[.string ⟨#[]⟩, .string ⟨#[]⟩], .bool false]) (by simp [results, Tryd.results62, go_sem, d0, d1]) rfl ⟨rfl, G2⟩
theorem mayNumber1 (n : Int) (w : World) : Calls Tryd.prog 109 #[.int .i64 n] w (Rt w (.bool (decide (1 ≤ n ∧ n ≤ 12)))) := by
  go_enter Tryd.func109, Tryd.ntmps109
  go_wp2
  all_goals
    go_ret
    exact Rt.bool (by simp [*]; try omega) (Gr.refl _)
set_option maxRecDepth 100000 in
set_option maxHeartbeats 2000000 in
theorem mayTell1 (e : Ev) (w : World) : Calls Tryd.prog 84 #[vE e] w (Rt w (.bool (tellB e))) := by
  obtain ⟨k, id, a, b⟩ := e
  unfold vE tellB
  dsimp only
  have c1 := fun V => mayNumber1 a V
  by_cases h0 : k = 0
  · subst h0
    rw [if_pos rfl]
    by_cases ha : 1 ≤ a ∧ a ≤ 12
    · rw [decide_eq_true ha] at c1
      go_enter Tryd.func84, Tryd.ntmps84
      go_wp2_with fail
      refine (c1 _).mono ?_
      rintro e w1 ⟨rfl, g1⟩
      have X := ((At.new w #[.int .i64 0, .int .i64 id, .int .i64 a, .int .i64 b] 65)).gr g1
      have k3 : w1.cell? ⟨w.heap.size, 3, none⟩ = some (.int .i64 b) := (X.cell 3).trans rfl
      go_wp2
      all_goals
        go_ret
        exact Rt.bool (by simp [*]; try omega) (((Gr.refl _).alloc _).trans g1)
    · rw [decide_eq_false ha] at c1
      rw [decide_eq_false (by omega)]
      go_enter Tryd.func84, Tryd.ntmps84
      go_wp2_with fail
      refine (c1 _).mono ?_
      rintro e w1 ⟨rfl, g1⟩
      go_wp2
      go_ret
      exact ⟨rfl, ((Gr.refl _).alloc _).trans g1⟩
  · rw [if_neg h0]
    have q0 : (k == 0) = false := by simpa using h0
    by_cases h1 : k = 1
    · subst h1
      rw [if_pos rfl]
      go_enter Tryd.func84, Tryd.ntmps84
      go_wp2_with fail
      refine (c1 _).mono ?_
      rintro e w1 ⟨rfl, g1⟩
      go_wp2
      go_ret
      exact Rt.bool (by simp) (((Gr.refl _).alloc _).trans g1)
    · rw [if_neg h1]
      have q1 : (k == 1) = false := by simpa using h1
      go_enter Tryd.func84, Tryd.ntmps84
      go_wp2
      go_ret
      exact ⟨rfl, (Gr.refl _).alloc _⟩
/-- What split hands back: the first numbers, and the others, of one new block. -/
def SplitQ (w : World) (a b : Int) (n : Nat) (e : Ending) (w' : World) : Prop :=
  ∃ g A c, e = .returned (.tuple #[.slice (some ⟨g, 0, none⟩) n 2, .slice A (2 - n : Nat) c]) ∧ (n < 2 → A = some ⟨g, n, none⟩) ∧ At w' g #[.int .i64 a, .int .i64 b] 3 ∧ Gr w w'
set_option maxRecDepth 100000 in
set_option maxHeartbeats 2000000 in
theorem split1 (e : Ev) (F : ByteArray) (n : Nat) (hF : F.size = n) (hn : n ≤ 2) (w : World) : Calls Tryd.prog 64 #[vE e, .string F] w (SplitQ w e.a e.b n) := by
  obtain ⟨k, id, a, b⟩ := e
  unfold vE
  dsimp only
  have h3 : n = 0 ∨ n = 1 ∨ n = 2 := by omega
  have hz : (F.size : Int) = n := by omega
  have X := At.newAt (w := w.alloc (.cells #[.int .i64 k, .int .i64 id, .int .i64 a, .int .i64 b] 65)) (n := w.heap.size + 1) (by simp) #[.int .i64 a, .int .i64 b] 3
  have G : Gr w ((w.alloc (.cells #[.int .i64 k, .int .i64 id, .int .i64 a, .int .i64 b] 65)).alloc (.cells #[.int .i64 a, .int .i64 b] 3)) := ((Gr.refl w).alloc _).alloc _
  rcases h3 with rfl | rfl | rfl
  all_goals
    go_enter Tryd.func64, Tryd.ntmps64
    go_wp2
    go_quiet (fail)
    go_wp2
    go_ret2
    exact ⟨_, _, _, rfl, fun h => by first | rfl | omega, X.drewN nq, G.drewN nq⟩
set_option maxRecDepth 100000 in
set_option maxHeartbeats 2000000 in
theorem formE1 (n : Nat) (h : n < 6) (w : World) : Calls Tryd.prog 59 #[.int .i64 n] w (Rt w (.string (efS n))) := by
  rcases six h with rfl | rfl | rfl | rfl | rfl | rfl
  all_goals
    go_enter Tryd.func59, Tryd.ntmps59
    go_wp2
    go_ret
    exact ⟨rfl, (Gr.refl w).alloc _⟩

end Go.Proofs.YthkbenhlhldglaaDoor
