/-
  What is proved: what wordAt, signedAt of package args, and num, sign of the document's, tell of bytes. No conditions but bounds.
-/
import Derived.Test.YthkbenhlhldglaaDoorMc
import Derived.Deep.RegionHeld3
namespace Go.Proofs.YthkbenhlhldglaaDoor
open Go.RowKit Go.Sort

set_option maxRecDepth 100000 in
set_option maxHeartbeats 2000000 in
theorem num1 (b off n c at0 : Nat) (x0 x1 x2 x3 : Int) (w : World) (k0 : w.cell? ⟨b, off + at0, none⟩ = some (.int .u8 x0)) (k1 : w.cell? ⟨b, off + (at0 + 1), none⟩ = some (.int .u8 x1)) (k2 : w.cell? ⟨b, off + (at0 + 2), none⟩ = some (.int .u8 x2)) (k3 : w.cell? ⟨b, off + (at0 + 3), none⟩ = some (.int .u8 x3))
    (b0 : 0 ≤ x0 ∧ x0 ≤ 255) (b1 : 0 ≤ x1 ∧ x1 ≤ 255) (b2 : 0 ≤ x2 ∧ x2 ≤ 255) (b3 : 0 ≤ x3 ∧ x3 ≤ 255) (hn : at0 + 4 ≤ n) (hm : n ≤ 1000000) :
    Calls Tryd.prog 75 #[.slice (some ⟨b, off, none⟩) n c, .int .i64 at0] w (Rt w (.int .i64 (x0 * 16777216 + x1 * 65536 + x2 * 256 + x3))) := by
  obtain ⟨b00, b01⟩ := b0
  obtain ⟨b10, b11⟩ := b1
  obtain ⟨b20, b21⟩ := b2
  obtain ⟨b30, b31⟩ := b3
  have q0 : (0 : Int) ≤ at0 := by omega
  have q1 : (at0 : Int) < n := by omega
  have q2 : (at0 : Int) + 1 < n := by omega
  have q3 : (at0 : Int) + 2 < n := by omega
  have q4 : (at0 : Int) + 3 < n := by omega
  have w1 : IntKind.i64.wrap ((at0 : Int) + 1) = (at0 : Int) + 1 := IntWalk.i64_in _ (by omega)
  have w2 : IntKind.i64.wrap ((at0 : Int) + 2) = (at0 : Int) + 2 := IntWalk.i64_in _ (by omega)
  have w3 : IntKind.i64.wrap ((at0 : Int) + 3) = (at0 : Int) + 3 := IntWalk.i64_in _ (by omega)
  have t1 : ((at0 : Int) + 1).toNat = at0 + 1 := by omega
  have t2 : ((at0 : Int) + 2).toNat = at0 + 2 := by omega
  have t3 : ((at0 : Int) + 3).toNat = at0 + 3 := by omega
  have r1 : 0 ≤ (at0 : Int) + 1 := by omega
  have r2 : 0 ≤ (at0 : Int) + 2 := by omega
  have r3 : 0 ≤ (at0 : Int) + 3 := by omega
  have v0 : IntKind.i64.wrap x0 = x0 := IntWalk.i64_in _ (by omega)
  have v1 : IntKind.i64.wrap x1 = x1 := IntWalk.i64_in _ (by omega)
  have v2 : IntKind.i64.wrap x2 = x2 := IntWalk.i64_in _ (by omega)
  have v3 : IntKind.i64.wrap x3 = x3 := IntWalk.i64_in _ (by omega)
  have m0 : IntKind.i64.wrap (x0 * 16777216) = x0 * 16777216 := IntWalk.i64_in _ (by omega)
  have m1 : IntKind.i64.wrap (x1 * 65536) = x1 * 65536 := IntWalk.i64_in _ (by omega)
  have m2 : IntKind.i64.wrap (x2 * 256) = x2 * 256 := IntWalk.i64_in _ (by omega)
  have a1 : IntKind.i64.wrap (x0 * 16777216 + x1 * 65536) = x0 * 16777216 + x1 * 65536 := IntWalk.i64_in _ (by omega)
  have a2 : IntKind.i64.wrap (x0 * 16777216 + x1 * 65536 + x2 * 256) = x0 * 16777216 + x1 * 65536 + x2 * 256 := IntWalk.i64_in _ (by omega)
  have a3 : IntKind.i64.wrap (x0 * 16777216 + x1 * 65536 + x2 * 256 + x3) = x0 * 16777216 + x1 * 65536 + x2 * 256 + x3 := IntWalk.i64_in _ (by omega)
  go_enter Tryd.func75, Tryd.ntmps75
  go_wp2
  go_quiet (fail)
  go_wp2
  go_ret
  exact ⟨rfl, by first | exact Gr.refl _ | exact (Gr.refl _).drew | exact (Gr.refl _).drewN _⟩

theorem sign1 (n : Int) (h0 : 0 ≤ n) (h1 : n ≤ 4294967295) (w : World) : Calls Tryd.prog 76 #[.int .i64 n] w (Rt w (.int .i64 (sg n))) := by
  unfold sg
  by_cases h : 2147483647 < n
  · rw [if_pos h]
    go_enter Tryd.func76, Tryd.ntmps76
    go_wp2
    go_ret
    exact ⟨rfl, Gr.refl _⟩
  · rw [if_neg h]
    go_enter Tryd.func76, Tryd.ntmps76
    go_wp2
    go_ret
    exact ⟨rfl, Gr.refl _⟩

theorem or32 {i : Nat} {x y : Int} (h0 : 0 ≤ x) (h1 : x ≤ 4294967295) (hx : x % 2 ^ i = 0) (h2 : 0 ≤ y) (h3 : y < 2 ^ i) (h4 : y ≤ 4294967295) : bits .or .u32 x y = x + y :=
  bits_join .u32 32 (by decide) (fun n h h' => by rw [IntKind.wrap_u32]; omega) i x y h0 hx (by omega) h2 h3 (by omega)
theorem sg_wrap (n : Int) (h0 : 0 ≤ n) (h1 : n ≤ 4294967295) : IntKind.i32.wrap n = sg n := by
  rw [IntKind.wrap_i32]; unfold sg; split <;> omega

set_option maxRecDepth 100000 in
set_option maxHeartbeats 2000000 in
theorem word0 (b off n c : Nat) (x0 x1 x2 x3 : Int) (w : World) (k0 : w.cell? ⟨b, off, none⟩ = some (.int .u8 x0)) (k1 : w.cell? ⟨b, off + 1, none⟩ = some (.int .u8 x1)) (k2 : w.cell? ⟨b, off + 2, none⟩ = some (.int .u8 x2)) (k3 : w.cell? ⟨b, off + 3, none⟩ = some (.int .u8 x3))
    (b0 : 0 ≤ x0 ∧ x0 ≤ 255) (b1 : 0 ≤ x1 ∧ x1 ≤ 255) (b2 : 0 ≤ x2 ∧ x2 ≤ 255) (b3 : 0 ≤ x3 ∧ x3 ≤ 255) (hn : 4 ≤ n) (hm : n ≤ 1000000) (hc : n ≤ c) :
    Calls Tryd.prog 103 #[.slice (some ⟨b, off, none⟩) n c, .int .i64 0] w (Rt w (.int .u32 (x0 * 16777216 + x1 * 65536 + x2 * 256 + x3))) := by
  obtain ⟨b00, b01⟩ := b0
  obtain ⟨b10, b11⟩ := b1
  obtain ⟨b20, b21⟩ := b2
  obtain ⟨b30, b31⟩ := b3
  have e1 := or32 (i := 24) (x := x0 * 16777216) (y := x1 * 65536) (by omega) (by omega) (by omega) (by omega) (by omega) (by omega)
  have e2 := or32 (i := 16) (x := x0 * 16777216 + x1 * 65536) (y := x2 * 256) (by omega) (by omega) (by omega) (by omega) (by omega) (by omega)
  have e3 := or32 (i := 8) (x := x0 * 16777216 + x1 * 65536 + x2 * 256) (y := x3) (by omega) (by omega) (by omega) (by omega) (by omega) (by omega)
  have hc0 : ¬ c = 0 := by omega
  have hz0 : 0 ≤ n := by omega
  have hz1 : (0 : Int) ≤ n := by omega
  have hz2 : 0 ≤ c := by omega
  have z0 : 0 < n - 0 := by omega
  have z1 : 1 < n - 0 := by omega
  have z2 : 2 < n - 0 := by omega
  have z3 : 3 < n - 0 := by omega
  have y0 : (0 : Int) < ((n - 0 : Nat) : Int) := by omega
  have y1 : (1 : Int) < ((n - 0 : Nat) : Int) := by omega
  have y2 : (2 : Int) < ((n - 0 : Nat) : Int) := by omega
  have y3 : (3 : Int) < ((n - 0 : Nat) : Int) := by omega
  replace e1 := Lib.hid e1
  replace e2 := Lib.hid e2
  replace e3 := Lib.hid e3
  go_enter Tryd.func103, Tryd.ntmps103
  go_wp2
  go_quiet (fail)
  go_wp2
  go_ret
  refine ⟨?_, by first | exact Gr.refl _ | exact (Gr.refl _).drew | exact (Gr.refl _).drewN _⟩
  have E : bits .or .u32 (bits .or .u32 (bits .or .u32 (x0 * 16777216) (x1 * 65536)) (x2 * 256)) x3 = x0 * 16777216 + x1 * 65536 + x2 * 256 + x3 := by rw [e1.out, e2.out, e3.out]
  exact ret_int E

theorem signed0A (b off n c : Nat) (x0 x1 x2 x3 : Int) (w : World) (k0 : w.cell? ⟨b, off, none⟩ = some (.int .u8 x0)) (k1 : w.cell? ⟨b, off + 1, none⟩ = some (.int .u8 x1)) (k2 : w.cell? ⟨b, off + 2, none⟩ = some (.int .u8 x2)) (k3 : w.cell? ⟨b, off + 3, none⟩ = some (.int .u8 x3))
    (b0 : 0 ≤ x0 ∧ x0 ≤ 255) (b1 : 0 ≤ x1 ∧ x1 ≤ 255) (b2 : 0 ≤ x2 ∧ x2 ≤ 255) (b3 : 0 ≤ x3 ∧ x3 ≤ 255) (hn : 4 ≤ n) (hm : n ≤ 1000000) (hc : n ≤ c) :
    Calls Tryd.prog 102 #[.slice (some ⟨b, off, none⟩) n c, .int .i64 0] w (Rt w (.int .i64 (sg (x0 * 16777216 + x1 * 65536 + x2 * 256 + x3)))) := by
  have cw := word0 b off n c x0 x1 x2 x3 w k0 k1 k2 k3 b0 b1 b2 b3 hn hm hc
  have hw := sg_wrap (x0 * 16777216 + x1 * 65536 + x2 * 256 + x3) (by omega) (by omega)
  have hs : -2147483648 ≤ sg (x0 * 16777216 + x1 * 65536 + x2 * 256 + x3) ∧ sg (x0 * 16777216 + x1 * 65536 + x2 * 256 + x3) ≤ 2147483647 := by unfold sg; split <;> omega
  obtain ⟨N, hN⟩ : ∃ N, N = x0 * 16777216 + x1 * 65536 + x2 * 256 + x3 := ⟨_, rfl⟩
  rw [← hN] at cw hw hs ⊢
  clear hN k0 k1 k2 k3 b0 b1 b2 b3
  obtain ⟨M, hM⟩ : ∃ M, M = sg N := ⟨_, rfl⟩
  rw [← hM] at hw hs ⊢
  obtain ⟨hs1, hs2⟩ := hs
  clear hM
  go_enter Tryd.func102, Tryd.ntmps102
  go_wp2_with fail
  refine cw.mono ?_
  rintro e w1 ⟨rfl, g1⟩
  go_wp2
  go_ret
  refine ⟨?_, g1⟩
  first | rfl | exact ret_int hw | (simp [hw])

set_option maxRecDepth 100000 in
set_option maxHeartbeats 2000000 in
theorem word1 (b off n c o : Nat) (x0 x1 x2 x3 : Int) (w : World) (ho : off + 4 = o) (k0 : w.cell? ⟨b, o, none⟩ = some (.int .u8 x0)) (k1 : w.cell? ⟨b, o + 1, none⟩ = some (.int .u8 x1)) (k2 : w.cell? ⟨b, o + 2, none⟩ = some (.int .u8 x2)) (k3 : w.cell? ⟨b, o + 3, none⟩ = some (.int .u8 x3))
    (b0 : 0 ≤ x0 ∧ x0 ≤ 255) (b1 : 0 ≤ x1 ∧ x1 ≤ 255) (b2 : 0 ≤ x2 ∧ x2 ≤ 255) (b3 : 0 ≤ x3 ∧ x3 ≤ 255) (hn : 8 ≤ n) (hm : n ≤ 1000000) (hc : n ≤ c) :
    Calls Tryd.prog 103 #[.slice (some ⟨b, off, none⟩) n c, .int .i64 1] w (Rt w (.int .u32 (x0 * 16777216 + x1 * 65536 + x2 * 256 + x3))) := by
  obtain ⟨b00, b01⟩ := b0
  obtain ⟨b10, b11⟩ := b1
  obtain ⟨b20, b21⟩ := b2
  obtain ⟨b30, b31⟩ := b3
  have e1 := or32 (i := 24) (x := x0 * 16777216) (y := x1 * 65536) (by omega) (by omega) (by omega) (by omega) (by omega) (by omega)
  have e2 := or32 (i := 16) (x := x0 * 16777216 + x1 * 65536) (y := x2 * 256) (by omega) (by omega) (by omega) (by omega) (by omega) (by omega)
  have e3 := or32 (i := 8) (x := x0 * 16777216 + x1 * 65536 + x2 * 256) (y := x3) (by omega) (by omega) (by omega) (by omega) (by omega) (by omega)
  have hc0 : ¬ c = 4 := by omega
  have hz0 : 4 ≤ n := by omega
  have hz1 : (4 : Int) ≤ n := by omega
  have hz2 : 4 ≤ c := by omega
  have z0 : 0 < n - 4 := by omega
  have z1 : 1 < n - 4 := by omega
  have z2 : 2 < n - 4 := by omega
  have z3 : 3 < n - 4 := by omega
  have y0 : (0 : Int) < ((n - 4 : Nat) : Int) := by omega
  have y1 : (1 : Int) < ((n - 4 : Nat) : Int) := by omega
  have y2 : (2 : Int) < ((n - 4 : Nat) : Int) := by omega
  have y3 : (3 : Int) < ((n - 4 : Nat) : Int) := by omega
  replace e1 := Lib.hid e1
  replace e2 := Lib.hid e2
  replace e3 := Lib.hid e3
  go_enter Tryd.func103, Tryd.ntmps103
  go_wp2
  go_quiet (fail)
  go_wp2
  go_ret
  refine ⟨?_, by first | exact Gr.refl _ | exact (Gr.refl _).drew | exact (Gr.refl _).drewN _⟩
  have E : bits .or .u32 (bits .or .u32 (bits .or .u32 (x0 * 16777216) (x1 * 65536)) (x2 * 256)) x3 = x0 * 16777216 + x1 * 65536 + x2 * 256 + x3 := by rw [e1.out, e2.out, e3.out]
  exact ret_int E

theorem signed1A (b off n c o : Nat) (x0 x1 x2 x3 : Int) (w : World) (ho : off + 4 = o) (k0 : w.cell? ⟨b, o, none⟩ = some (.int .u8 x0)) (k1 : w.cell? ⟨b, o + 1, none⟩ = some (.int .u8 x1)) (k2 : w.cell? ⟨b, o + 2, none⟩ = some (.int .u8 x2)) (k3 : w.cell? ⟨b, o + 3, none⟩ = some (.int .u8 x3))
    (b0 : 0 ≤ x0 ∧ x0 ≤ 255) (b1 : 0 ≤ x1 ∧ x1 ≤ 255) (b2 : 0 ≤ x2 ∧ x2 ≤ 255) (b3 : 0 ≤ x3 ∧ x3 ≤ 255) (hn : 8 ≤ n) (hm : n ≤ 1000000) (hc : n ≤ c) :
    Calls Tryd.prog 102 #[.slice (some ⟨b, off, none⟩) n c, .int .i64 1] w (Rt w (.int .i64 (sg (x0 * 16777216 + x1 * 65536 + x2 * 256 + x3)))) := by
  have cw := word1 b off n c o x0 x1 x2 x3 w ho k0 k1 k2 k3 b0 b1 b2 b3 hn hm hc
  have hw := sg_wrap (x0 * 16777216 + x1 * 65536 + x2 * 256 + x3) (by omega) (by omega)
  have hs : -2147483648 ≤ sg (x0 * 16777216 + x1 * 65536 + x2 * 256 + x3) ∧ sg (x0 * 16777216 + x1 * 65536 + x2 * 256 + x3) ≤ 2147483647 := by unfold sg; split <;> omega
  obtain ⟨N, hN⟩ : ∃ N, N = x0 * 16777216 + x1 * 65536 + x2 * 256 + x3 := ⟨_, rfl⟩
  rw [← hN] at cw hw hs ⊢
  clear hN k0 k1 k2 k3 b0 b1 b2 b3
  obtain ⟨M, hM⟩ : ∃ M, M = sg N := ⟨_, rfl⟩
  rw [← hM] at hw hs ⊢
  obtain ⟨hs1, hs2⟩ := hs
  clear hM
  go_enter Tryd.func102, Tryd.ntmps102
  go_wp2_with fail
  refine cw.mono ?_
  rintro e w1 ⟨rfl, g1⟩
  go_wp2
  go_ret
  refine ⟨?_, g1⟩
  first | rfl | exact ret_int hw | (simp [hw])

set_option maxRecDepth 100000 in
set_option maxHeartbeats 2000000 in
theorem word2 (b off n c o : Nat) (x0 x1 x2 x3 : Int) (w : World) (ho : off + 8 = o) (k0 : w.cell? ⟨b, o, none⟩ = some (.int .u8 x0)) (k1 : w.cell? ⟨b, o + 1, none⟩ = some (.int .u8 x1)) (k2 : w.cell? ⟨b, o + 2, none⟩ = some (.int .u8 x2)) (k3 : w.cell? ⟨b, o + 3, none⟩ = some (.int .u8 x3))
    (b0 : 0 ≤ x0 ∧ x0 ≤ 255) (b1 : 0 ≤ x1 ∧ x1 ≤ 255) (b2 : 0 ≤ x2 ∧ x2 ≤ 255) (b3 : 0 ≤ x3 ∧ x3 ≤ 255) (hn : 12 ≤ n) (hm : n ≤ 1000000) (hc : n ≤ c) :
    Calls Tryd.prog 103 #[.slice (some ⟨b, off, none⟩) n c, .int .i64 2] w (Rt w (.int .u32 (x0 * 16777216 + x1 * 65536 + x2 * 256 + x3))) := by
  obtain ⟨b00, b01⟩ := b0
  obtain ⟨b10, b11⟩ := b1
  obtain ⟨b20, b21⟩ := b2
  obtain ⟨b30, b31⟩ := b3
  have e1 := or32 (i := 24) (x := x0 * 16777216) (y := x1 * 65536) (by omega) (by omega) (by omega) (by omega) (by omega) (by omega)
  have e2 := or32 (i := 16) (x := x0 * 16777216 + x1 * 65536) (y := x2 * 256) (by omega) (by omega) (by omega) (by omega) (by omega) (by omega)
  have e3 := or32 (i := 8) (x := x0 * 16777216 + x1 * 65536 + x2 * 256) (y := x3) (by omega) (by omega) (by omega) (by omega) (by omega) (by omega)
  have hc0 : ¬ c = 8 := by omega
  have hz0 : 8 ≤ n := by omega
  have hz1 : (8 : Int) ≤ n := by omega
  have hz2 : 8 ≤ c := by omega
  have z0 : 0 < n - 8 := by omega
  have z1 : 1 < n - 8 := by omega
  have z2 : 2 < n - 8 := by omega
  have z3 : 3 < n - 8 := by omega
  have y0 : (0 : Int) < ((n - 8 : Nat) : Int) := by omega
  have y1 : (1 : Int) < ((n - 8 : Nat) : Int) := by omega
  have y2 : (2 : Int) < ((n - 8 : Nat) : Int) := by omega
  have y3 : (3 : Int) < ((n - 8 : Nat) : Int) := by omega
  replace e1 := Lib.hid e1
  replace e2 := Lib.hid e2
  replace e3 := Lib.hid e3
  go_enter Tryd.func103, Tryd.ntmps103
  go_wp2
  go_quiet (fail)
  go_wp2
  go_ret
  refine ⟨?_, by first | exact Gr.refl _ | exact (Gr.refl _).drew | exact (Gr.refl _).drewN _⟩
  have E : bits .or .u32 (bits .or .u32 (bits .or .u32 (x0 * 16777216) (x1 * 65536)) (x2 * 256)) x3 = x0 * 16777216 + x1 * 65536 + x2 * 256 + x3 := by rw [e1.out, e2.out, e3.out]
  exact ret_int E

theorem signed2A (b off n c o : Nat) (x0 x1 x2 x3 : Int) (w : World) (ho : off + 8 = o) (k0 : w.cell? ⟨b, o, none⟩ = some (.int .u8 x0)) (k1 : w.cell? ⟨b, o + 1, none⟩ = some (.int .u8 x1)) (k2 : w.cell? ⟨b, o + 2, none⟩ = some (.int .u8 x2)) (k3 : w.cell? ⟨b, o + 3, none⟩ = some (.int .u8 x3))
    (b0 : 0 ≤ x0 ∧ x0 ≤ 255) (b1 : 0 ≤ x1 ∧ x1 ≤ 255) (b2 : 0 ≤ x2 ∧ x2 ≤ 255) (b3 : 0 ≤ x3 ∧ x3 ≤ 255) (hn : 12 ≤ n) (hm : n ≤ 1000000) (hc : n ≤ c) :
    Calls Tryd.prog 102 #[.slice (some ⟨b, off, none⟩) n c, .int .i64 2] w (Rt w (.int .i64 (sg (x0 * 16777216 + x1 * 65536 + x2 * 256 + x3)))) := by
  have cw := word2 b off n c o x0 x1 x2 x3 w ho k0 k1 k2 k3 b0 b1 b2 b3 hn hm hc
  have hw := sg_wrap (x0 * 16777216 + x1 * 65536 + x2 * 256 + x3) (by omega) (by omega)
  have hs : -2147483648 ≤ sg (x0 * 16777216 + x1 * 65536 + x2 * 256 + x3) ∧ sg (x0 * 16777216 + x1 * 65536 + x2 * 256 + x3) ≤ 2147483647 := by unfold sg; split <;> omega
  obtain ⟨N, hN⟩ : ∃ N, N = x0 * 16777216 + x1 * 65536 + x2 * 256 + x3 := ⟨_, rfl⟩
  rw [← hN] at cw hw hs ⊢
  clear hN k0 k1 k2 k3 b0 b1 b2 b3
  obtain ⟨M, hM⟩ : ∃ M, M = sg N := ⟨_, rfl⟩
  rw [← hM] at hw hs ⊢
  obtain ⟨hs1, hs2⟩ := hs
  clear hM
  go_enter Tryd.func102, Tryd.ntmps102
  go_wp2_with fail
  refine cw.mono ?_
  rintro e w1 ⟨rfl, g1⟩
  go_wp2
  go_ret
  refine ⟨?_, g1⟩
  first | rfl | exact ret_int hw | (simp [hw])

set_option maxRecDepth 100000 in
set_option maxHeartbeats 2000000 in
theorem word3 (b off n c o : Nat) (x0 x1 x2 x3 : Int) (w : World) (ho : off + 12 = o) (k0 : w.cell? ⟨b, o, none⟩ = some (.int .u8 x0)) (k1 : w.cell? ⟨b, o + 1, none⟩ = some (.int .u8 x1)) (k2 : w.cell? ⟨b, o + 2, none⟩ = some (.int .u8 x2)) (k3 : w.cell? ⟨b, o + 3, none⟩ = some (.int .u8 x3))
    (b0 : 0 ≤ x0 ∧ x0 ≤ 255) (b1 : 0 ≤ x1 ∧ x1 ≤ 255) (b2 : 0 ≤ x2 ∧ x2 ≤ 255) (b3 : 0 ≤ x3 ∧ x3 ≤ 255) (hn : 16 ≤ n) (hm : n ≤ 1000000) (hc : n ≤ c) :
    Calls Tryd.prog 103 #[.slice (some ⟨b, off, none⟩) n c, .int .i64 3] w (Rt w (.int .u32 (x0 * 16777216 + x1 * 65536 + x2 * 256 + x3))) := by
  obtain ⟨b00, b01⟩ := b0
  obtain ⟨b10, b11⟩ := b1
  obtain ⟨b20, b21⟩ := b2
  obtain ⟨b30, b31⟩ := b3
  have e1 := or32 (i := 24) (x := x0 * 16777216) (y := x1 * 65536) (by omega) (by omega) (by omega) (by omega) (by omega) (by omega)
  have e2 := or32 (i := 16) (x := x0 * 16777216 + x1 * 65536) (y := x2 * 256) (by omega) (by omega) (by omega) (by omega) (by omega) (by omega)
  have e3 := or32 (i := 8) (x := x0 * 16777216 + x1 * 65536 + x2 * 256) (y := x3) (by omega) (by omega) (by omega) (by omega) (by omega) (by omega)
  have hc0 : ¬ c = 12 := by omega
  have hz0 : 12 ≤ n := by omega
  have hz1 : (12 : Int) ≤ n := by omega
  have hz2 : 12 ≤ c := by omega
  have z0 : 0 < n - 12 := by omega
  have z1 : 1 < n - 12 := by omega
  have z2 : 2 < n - 12 := by omega
  have z3 : 3 < n - 12 := by omega
  have y0 : (0 : Int) < ((n - 12 : Nat) : Int) := by omega
  have y1 : (1 : Int) < ((n - 12 : Nat) : Int) := by omega
  have y2 : (2 : Int) < ((n - 12 : Nat) : Int) := by omega
  have y3 : (3 : Int) < ((n - 12 : Nat) : Int) := by omega
  replace e1 := Lib.hid e1
  replace e2 := Lib.hid e2
  replace e3 := Lib.hid e3
  go_enter Tryd.func103, Tryd.ntmps103
  go_wp2
  go_quiet (fail)
  go_wp2
  go_ret
  refine ⟨?_, by first | exact Gr.refl _ | exact (Gr.refl _).drew | exact (Gr.refl _).drewN _⟩
  have E : bits .or .u32 (bits .or .u32 (bits .or .u32 (x0 * 16777216) (x1 * 65536)) (x2 * 256)) x3 = x0 * 16777216 + x1 * 65536 + x2 * 256 + x3 := by rw [e1.out, e2.out, e3.out]
  exact ret_int E

theorem signed3A (b off n c o : Nat) (x0 x1 x2 x3 : Int) (w : World) (ho : off + 12 = o) (k0 : w.cell? ⟨b, o, none⟩ = some (.int .u8 x0)) (k1 : w.cell? ⟨b, o + 1, none⟩ = some (.int .u8 x1)) (k2 : w.cell? ⟨b, o + 2, none⟩ = some (.int .u8 x2)) (k3 : w.cell? ⟨b, o + 3, none⟩ = some (.int .u8 x3))
    (b0 : 0 ≤ x0 ∧ x0 ≤ 255) (b1 : 0 ≤ x1 ∧ x1 ≤ 255) (b2 : 0 ≤ x2 ∧ x2 ≤ 255) (b3 : 0 ≤ x3 ∧ x3 ≤ 255) (hn : 16 ≤ n) (hm : n ≤ 1000000) (hc : n ≤ c) :
    Calls Tryd.prog 102 #[.slice (some ⟨b, off, none⟩) n c, .int .i64 3] w (Rt w (.int .i64 (sg (x0 * 16777216 + x1 * 65536 + x2 * 256 + x3)))) := by
  have cw := word3 b off n c o x0 x1 x2 x3 w ho k0 k1 k2 k3 b0 b1 b2 b3 hn hm hc
  have hw := sg_wrap (x0 * 16777216 + x1 * 65536 + x2 * 256 + x3) (by omega) (by omega)
  have hs : -2147483648 ≤ sg (x0 * 16777216 + x1 * 65536 + x2 * 256 + x3) ∧ sg (x0 * 16777216 + x1 * 65536 + x2 * 256 + x3) ≤ 2147483647 := by unfold sg; split <;> omega
  obtain ⟨N, hN⟩ : ∃ N, N = x0 * 16777216 + x1 * 65536 + x2 * 256 + x3 := ⟨_, rfl⟩
  rw [← hN] at cw hw hs ⊢
  clear hN k0 k1 k2 k3 b0 b1 b2 b3
  obtain ⟨M, hM⟩ : ∃ M, M = sg N := ⟨_, rfl⟩
  rw [← hM] at hw hs ⊢
  obtain ⟨hs1, hs2⟩ := hs
  clear hM
  go_enter Tryd.func102, Tryd.ntmps102
  go_wp2_with fail
  refine cw.mono ?_
  rintro e w1 ⟨rfl, g1⟩
  go_wp2
  go_ret
  refine ⟨?_, g1⟩
  first | rfl | exact ret_int hw | (simp [hw])

end Go.Proofs.YthkbenhlhldglaaDoor
