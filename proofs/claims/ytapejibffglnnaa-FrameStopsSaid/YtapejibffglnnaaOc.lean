/-
  What is proved: Around, Few, Good, May of the document's packages; May of package frame. No conditions but bounds.
-/
import Derived.Test.YtapejibffglnnaaOb
namespace Go.Proofs.Ytapejibffglnnaa
open Go.RowKit Go.Sort

/-- A number made one of 0 to m - 1. -/
def around (n m : Int) : Int := if n < 0 then (-(n + 1)) % m else n % m
theorem around_bd (n m : Int) (hm : 0 < m) : 0 ≤ around n m ∧ around n m < m := by
  unfold around
  split
  · exact ⟨Int.emod_nonneg _ (by omega), Int.emod_lt_of_pos _ hm⟩
  · exact ⟨Int.emod_nonneg _ (by omega), Int.emod_lt_of_pos _ hm⟩
theorem ret_int {k : IntKind} {a b : Int} (h : a = b) : Ending.returned (.int k a) = .returned (.int k b) := by rw [h]
set_option maxHeartbeats 400000 in
theorem around1 (n m : Int) (w : World) (hn : I64 n) (hm : 1 ≤ m ∧ m ≤ 1000000) :
    Calls Try.prog 19 #[.int .i64 n, .int .i64 m] w fun e w' => e = .returned (.int .i64 (around n m)) ∧ w = w' := by
  obtain ⟨hn1, hn2⟩ := hn
  obtain ⟨hm1, hm2⟩ := hm
  go_enter Try.func19, Try.ntmps19
  go_wp2
  all_goals
    go_ret
    refine ⟨ret_int ?_, rfl⟩
    unfold around
    first | (rw [if_pos ‹_›, ← Int.neg_tmod, Int.tmod_eq_emod_of_nonneg (by omega)]) | (rw [if_neg (by omega), Int.tmod_eq_emod_of_nonneg (by omega)]) | rw [if_pos ‹_›] | rw [if_neg (by omega)]

theorem few1 (A : Option Addr) (c : Nat) (L : List Int) (n : Nat) (m : Int) (hm : m = n) (w : World) (hA : AdB A L) (hc : L.length ≤ c) (hcm : c ≤ maxLen) (hn : n ≤ 100000) :
    Calls Try.prog 14 #[.slice A L.length c, .int .i64 m] w fun e w' => e = .returned (.slice A (L.take n).length c) ∧ w = w' := by
  subst hm
  have hcm2 : c ≤ 9223372036854775807 := by unfold maxLen at hcm; omega
  clear hcm
  by_cases h : n < L.length
  · obtain ⟨b, off, rfl⟩ : ∃ b off, A = some ⟨b, off, none⟩ := by
      rcases hA with hA | hA
      · subst hA; simp at h
      · exact hA
    have e : (L.take n).length = n := by rw [List.length_take]; omega
    rw [e]
    clear e
    generalize L.length = N at *
    have h' : (n : Int) < (N : Int) := by omega
    go_enter Try.func14, Try.ntmps14
    go_wp2
    go_ret
    exact ⟨rfl, rfl⟩
  · have e : (L.take n).length = L.length := by rw [List.length_take]; omega
    rw [e]
    clear e
    generalize L.length = N at *
    have h' : ¬ (n : Int) < (N : Int) := by omega
    go_enter Try.func14, Try.ntmps14
    go_wp2
    go_ret
    exact ⟨rfl, rfl⟩

/-- A message made one that may be. -/
def goodM (m : Ms) (n : Nat) : Ms := ⟨max (m.op.tmod 256) (-(m.op.tmod 256)), max (m.id.tmod 4294967296) (-(m.id.tmod 4294967296)), m.body.take n⟩
theorem tmod_bd (x n : Int) (h : 0 < n) : -n < x.tmod n ∧ x.tmod n < n := by
  rcases Int.le_total 0 x with hx | hx
  · rw [Int.tmod_eq_emod_of_nonneg hx]
    have := Int.emod_nonneg x (b := n) (by omega)
    have := Int.emod_lt_of_pos x h
    omega
  · have e : x = -(-x) := by omega
    rw [e, Int.neg_tmod, Int.tmod_eq_emod_of_nonneg (by omega : 0 ≤ -x)]
    have := Int.emod_nonneg (-x) (b := n) (by omega)
    have := Int.emod_lt_of_pos (-x) h
    omega
theorem goodM_ok (m : Ms) {n : Nat} (hn : n ≤ 4096) : okM (goodM m n) := by
  have h1 := tmod_bd m.op 256 (by omega)
  have h2 := tmod_bd m.id 4294967296 (by omega)
  unfold okM goodM
  dsimp only
  rw [List.length_take]
  omega
theorem goodM_len (m : Ms) (n : Nat) : (goodM m n).body.length ≤ n := by
  unfold goodM; dsimp only; rw [List.length_take]; omega
attribute [local go_sem ↓] run_min2 run_max2

set_option maxRecDepth 100000 in
set_option maxHeartbeats 1000000 in
theorem good1 (A : Option Addr) (c : Nat) (m : Ms) (n : Nat) (k : Int) (hk : k = n) (w : World) (hA : AdB A m.body) (hc : m.body.length ≤ c) (hcm : c ≤ maxLen) (hn : n ≤ 100000) :
    Calls Try.prog 9 #[.agg #[.int .i64 m.op, .int .i64 m.id, .slice A m.body.length c], .int .i64 k] w
      (Rt w (.agg #[.int .i64 (goodM m n).op, .int .i64 (goodM m n).id, .slice A (goodM m n).body.length c])) := by
  have h1 := tmod_bd m.op 256 (by omega)
  have h2 := tmod_bd m.id 4294967296 (by omega)
  subst hk
  have cf := fun w' => few1 A c m.body n n rfl w' hA hc hcm hn
  unfold goodM
  dsimp only
  obtain ⟨op, id, body⟩ := m
  dsimp only at *
  obtain ⟨h10, h11⟩ := h1
  obtain ⟨h20, h21⟩ := h2
  have w1 : IntKind.i64.wrap (-(op.tmod 256)) = -(op.tmod 256) := IntWalk.i64_in _ (by omega)
  have w2 : IntKind.i64.wrap (-(id.tmod 4294967296)) = -(id.tmod 4294967296) := IntWalk.i64_in _ (by omega)
  go_enter Try.func9, Try.ntmps9
  go_wp2_with fail
  refine (cf _).mono ?_
  rintro e w3 ⟨rfl, rfl⟩
  go_wp2
  go_returns
  exact ⟨by simp, ((Gr.refl _).alloc _).alloc _⟩

theorem decB {p : Prop} [Decidable p] {b : Bool} (h : b = true ↔ p) : b = decide p := by
  by_cases hp : p
  · rw [h.2 hp]; simp [hp]
  · cases b with
    | true => exact absurd (h.1 rfl) hp
    | false => simp [hp]
set_option maxRecDepth 100000 in
set_option maxHeartbeats 1000000 in
theorem rmay1 (A : Option Addr) (c : Nat) (m : Ms) (w : World) :
    Calls Try.prog 13 #[.agg #[.int .i64 m.op, .int .i64 m.id, .slice A m.body.length c]] w (Rt w (.bool (mayB m))) := by
  obtain ⟨op, id, body⟩ := m
  unfold mayB
  dsimp only
  generalize body.length = n
  go_enter Try.func13, Try.ntmps13
  go_wp2
  all_goals
    go_ret
    refine Rt.bool ?_ ?_
    · simp [*]; try omega
    · first | exact ((Gr.refl _).alloc _) | exact ((Gr.refl _).alloc _).drew | exact (((Gr.refl _).alloc _).drewN _)
set_option maxRecDepth 100000 in
set_option maxHeartbeats 1000000 in
theorem fmay1 (A : Option Addr) (c : Nat) (m : Ms) (w : World) :
    Calls Try.prog 12 #[.agg #[.int .i64 m.op, .int .i64 m.id, .slice A m.body.length c]] w (Rt w (.bool (mayB m))) := by
  obtain ⟨op, id, body⟩ := m
  unfold mayB
  dsimp only
  generalize body.length = n
  go_enter Try.func12, Try.ntmps12
  go_wp2
  all_goals
    go_ret
    refine Rt.bool ?_ ?_
    · simp [*]; try omega
    · first | exact ((Gr.refl _).alloc _) | exact ((Gr.refl _).alloc _).drew | exact (((Gr.refl _).alloc _).drewN _)

end Go.Proofs.Ytapejibffglnnaa
