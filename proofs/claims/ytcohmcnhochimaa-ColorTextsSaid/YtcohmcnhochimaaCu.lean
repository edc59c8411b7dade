/-
  What is proved: what Show hands back, and the document's.
-/
import Derived.Test.YtcohmcnhochimaaCt
namespace Go.Proofs.Ytcohmcnhochimaa
open Go.RowKit Go.Sort

/-- The digit of a number below 16. -/
def dg (n : Int) : Int := if n < 10 then 48 + n else 87 + n
def shL (c : Int) : List Int := [dg (c / 268435456 % 16), dg (c / 16777216 % 16), dg (c / 1048576 % 16), dg (c / 65536 % 16), dg (c / 4096 % 16), dg (c / 256 % 16), dg (c / 16 % 16), dg (c % 16)]
def shS (c : Int) : ByteArray := strOfNums (shL c)

theorem dg_bd {n : Int} (h0 : 0 ≤ n) (h1 : n < 16) : 48 ≤ dg n ∧ dg n ≤ 102 := by unfold dg; split <;> omega
theorem hv_dg {n : Int} (h0 : 0 ≤ n) (h1 : n < 16) : hv (dg n) = n := by unfold hv dg; split <;> (try split) <;> (try split) <;> omega
theorem dgs_dg {n : Nat} (h : n < 16) : ((dgs[n]'h).toNat : Int) = dg n := by
  have : ∀ n : Fin 16, ((dgs[n.1]'n.2).toNat : Int) = dg n.1 := by decide
  exact this ⟨n, h⟩
theorem sh_size (c : Int) : (shS c).size = 8 := rfl
theorem sh_at (c : Int) (j : Nat) (x : Int) (h : (shL c)[j]? = some x) (h0 : 0 ≤ x) (h1 : x < 256) : (bAt (shS c) j : Int) = x := by
  unfold bAt shS strOfNums
  simp [List.getD, h]
  omega
theorem sh_hx {c : Int} (hc : C32 c) : okP (shS c) 8 ∧ hx (shS c) 8 = c := by
  unfold C32 at hc
  have a0 := dg_bd (n := (c / 268435456 % 16)) (by omega) (by omega)
  have b0 := sh_at c 0 _ rfl (by omega) (by omega)
  have d0 := hv_dg (n := (c / 268435456 % 16)) (by omega) (by omega)
  rw [← b0] at d0
  have a1 := dg_bd (n := (c / 16777216 % 16)) (by omega) (by omega)
  have b1 := sh_at c 1 _ rfl (by omega) (by omega)
  have d1 := hv_dg (n := (c / 16777216 % 16)) (by omega) (by omega)
  rw [← b1] at d1
  have a2 := dg_bd (n := (c / 1048576 % 16)) (by omega) (by omega)
  have b2 := sh_at c 2 _ rfl (by omega) (by omega)
  have d2 := hv_dg (n := (c / 1048576 % 16)) (by omega) (by omega)
  rw [← b2] at d2
  have a3 := dg_bd (n := (c / 65536 % 16)) (by omega) (by omega)
  have b3 := sh_at c 3 _ rfl (by omega) (by omega)
  have d3 := hv_dg (n := (c / 65536 % 16)) (by omega) (by omega)
  rw [← b3] at d3
  have a4 := dg_bd (n := (c / 4096 % 16)) (by omega) (by omega)
  have b4 := sh_at c 4 _ rfl (by omega) (by omega)
  have d4 := hv_dg (n := (c / 4096 % 16)) (by omega) (by omega)
  rw [← b4] at d4
  have a5 := dg_bd (n := (c / 256 % 16)) (by omega) (by omega)
  have b5 := sh_at c 5 _ rfl (by omega) (by omega)
  have d5 := hv_dg (n := (c / 256 % 16)) (by omega) (by omega)
  rw [← b5] at d5
  have a6 := dg_bd (n := (c / 16 % 16)) (by omega) (by omega)
  have b6 := sh_at c 6 _ rfl (by omega) (by omega)
  have d6 := hv_dg (n := (c / 16 % 16)) (by omega) (by omega)
  rw [← b6] at d6
  have a7 := dg_bd (n := (c % 16)) (by omega) (by omega)
  have b7 := sh_at c 7 _ rfl (by omega) (by omega)
  have d7 := hv_dg (n := (c % 16)) (by omega) (by omega)
  rw [← b7] at d7
  refine ⟨fun j hj => ?_, ?_⟩
  · obtain rfl | rfl | rfl | rfl | rfl | rfl | rfl | rfl : j = 0 ∨ j = 1 ∨ j = 2 ∨ j = 3 ∨ j = 4 ∨ j = 5 ∨ j = 6 ∨ j = 7 := by omega
    · rw [d0]; omega
    · rw [d1]; omega
    · rw [d2]; omega
    · rw [d3]; omega
    · rw [d4]; omega
    · rw [d5]; omega
    · rw [d6]; omega
    · rw [d7]; omega
  · simp only [hx, d0, d1, d2, d3, d4, d5, d6, d7]
    omega

theorem and15 {x : Int} (h0 : 0 ≤ x) (h1 : x ≤ 4294967295) : bits .and .u32 x 15 = x % 16 :=
  bits_mask .u32 32 (by decide) (fun n h h' => by rw [IntKind.wrap_u32]; omega) 4 (by decide) x h0 (by omega)

theorem lit_dg {q : Int} (h0 : 0 ≤ q) (h1 : q < 16) (h : q.toNat < (⟨#[48, 49, 50, 51, 52, 53, 54, 55, 56, 57, 97, 98, 99, 100, 101, 102]⟩ : ByteArray).size) : (((⟨#[48, 49, 50, 51, 52, 53, 54, 55, 56, 57, 97, 98, 99, 100, 101, 102]⟩ : ByteArray)[q.toNat]'h).toNat : Int) = dg q := by
  have := dgs_dg (n := q.toNat) (by omega)
  rw [Int.toNat_of_nonneg h0] at this
  exact this

set_option maxRecDepth 100000 in
set_option maxHeartbeats 4000000 in
theorem show1 (c : Int) (hc : C32 c) (w : World) : Calls Try.prog 28 #[.int .u32 c] w (Rt w (.string (shS c))) := by
  obtain ⟨hc0, hc1⟩ := hc
  unfold shS shL
  have e0 : bits .and .u32 (c / 268435456) 15 = (c / 268435456 % 16) := and15 (by omega) (by omega)
  have m0 : 0 ≤ (c / 268435456 % 16) ∧ (c / 268435456 % 16) < 16 := by omega
  generalize (c / 268435456 % 16) = q0 at *
  obtain ⟨m0a, m0b⟩ := m0
  have g0 := lit_dg m0a m0b
  generalize dg q0 = x0 at *
  have e1 : bits .and .u32 (c / 16777216) 15 = (c / 16777216 % 16) := and15 (by omega) (by omega)
  have m1 : 0 ≤ (c / 16777216 % 16) ∧ (c / 16777216 % 16) < 16 := by omega
  generalize (c / 16777216 % 16) = q1 at *
  obtain ⟨m1a, m1b⟩ := m1
  have g1 := lit_dg m1a m1b
  generalize dg q1 = x1 at *
  have e2 : bits .and .u32 (c / 1048576) 15 = (c / 1048576 % 16) := and15 (by omega) (by omega)
  have m2 : 0 ≤ (c / 1048576 % 16) ∧ (c / 1048576 % 16) < 16 := by omega
  generalize (c / 1048576 % 16) = q2 at *
  obtain ⟨m2a, m2b⟩ := m2
  have g2 := lit_dg m2a m2b
  generalize dg q2 = x2 at *
  have e3 : bits .and .u32 (c / 65536) 15 = (c / 65536 % 16) := and15 (by omega) (by omega)
  have m3 : 0 ≤ (c / 65536 % 16) ∧ (c / 65536 % 16) < 16 := by omega
  generalize (c / 65536 % 16) = q3 at *
  obtain ⟨m3a, m3b⟩ := m3
  have g3 := lit_dg m3a m3b
  generalize dg q3 = x3 at *
  have e4 : bits .and .u32 (c / 4096) 15 = (c / 4096 % 16) := and15 (by omega) (by omega)
  have m4 : 0 ≤ (c / 4096 % 16) ∧ (c / 4096 % 16) < 16 := by omega
  generalize (c / 4096 % 16) = q4 at *
  obtain ⟨m4a, m4b⟩ := m4
  have g4 := lit_dg m4a m4b
  generalize dg q4 = x4 at *
  have e5 : bits .and .u32 (c / 256) 15 = (c / 256 % 16) := and15 (by omega) (by omega)
  have m5 : 0 ≤ (c / 256 % 16) ∧ (c / 256 % 16) < 16 := by omega
  generalize (c / 256 % 16) = q5 at *
  obtain ⟨m5a, m5b⟩ := m5
  have g5 := lit_dg m5a m5b
  generalize dg q5 = x5 at *
  have e6 : bits .and .u32 (c / 16) 15 = (c / 16 % 16) := and15 (by omega) (by omega)
  have m6 : 0 ≤ (c / 16 % 16) ∧ (c / 16 % 16) < 16 := by omega
  generalize (c / 16 % 16) = q6 at *
  obtain ⟨m6a, m6b⟩ := m6
  have g6 := lit_dg m6a m6b
  generalize dg q6 = x6 at *
  have e7 : bits .and .u32 (c) 15 = (c % 16) := and15 (by omega) (by omega)
  have m7 : 0 ≤ (c % 16) ∧ (c % 16) < 16 := by omega
  generalize (c % 16) = q7 at *
  obtain ⟨m7a, m7b⟩ := m7
  have g7 := lit_dg m7a m7b
  generalize dg q7 = x7 at *
  have hcv : (convert 47 9 (.slice (some ⟨w.heap.size, 0, none⟩) 8 8)).run Try.prog (w.alloc (.cells #[.int .u8 x0, .int .u8 x1, .int .u8 x2, .int .u8 x3, .int .u8 x4, .int .u8 x5, .int .u8 x6, .int .u8 x7] 46)) = .ok (.string (strOfNums [x0, x1, x2, x3, x4, x5, x6, x7])) (w.alloc (.cells #[.int .u8 x0, .int .u8 x1, .int .u8 x2, .int .u8 x3, .int .u8 x4, .int .u8 x5, .int .u8 x6, .int .u8 x7] 46)) := by
    have X := At.new w #[.int .u8 x0, .int .u8 x1, .int .u8 x2, .int .u8 x3, .int .u8 x4, .int .u8 x5, .int .u8 x6, .int .u8 x7] 46
    refine run_convert_bytes_arg (P := Try.prog) _ 47 5 Try.underlying47 Try.underlying5 w.heap.size 0 8 8 [x0, x1, x2, x3, x4, x5, x6, x7] rfl (fun i hi => ?_) 9 Try.underlying9
    rw [Nat.zero_add, X.cell i]
    obtain rfl | rfl | rfl | rfl | rfl | rfl | rfl | rfl : i = 0 ∨ i = 1 ∨ i = 2 ∨ i = 3 ∨ i = 4 ∨ i = 5 ∨ i = 6 ∨ i = 7 := by omega
    all_goals rfl
  go_enter Try.func28, Try.ntmps28
  go_wp2
  refine wp_loop_rounds 9 ?_
  rw [rounds_succ]; go_wp2
  rw [rounds_succ]; go_wp2
  rw [rounds_succ]; go_wp2
  rw [rounds_succ]; go_wp2
  rw [rounds_succ]; go_wp2
  rw [rounds_succ]; go_wp2
  rw [rounds_succ]; go_wp2
  rw [rounds_succ]; go_wp2
  rw [rounds_succ]; go_wp2
  go_ret
  exact ⟨rfl, (Gr.refl w).alloc _⟩

end Go.Proofs.Ytcohmcnhochimaa
