/-
  What is proved: what the document's 'over' hands back.
-/
import Derived.Test.YtafceieenhogpaaCc
import Derived.Deep.RegionHeld3
import Derived.Lib.SmallJoins
namespace Go.Proofs.Ytafceieenhogpaa
open Go.RowKit Go.Sort

attribute [local go_sem ↓] run_min2 run_max2

theorem far_cell {w : World} {b k i j : Nat} {v u : Value} (h : w.cell? ⟨b, i, none⟩ = some v) (hp : b ≠ k) : (w.setCell ⟨k, j, none⟩ u).drew.cell? ⟨b, i, none⟩ = some v := by
  show (w.setCell ⟨k, j, none⟩ u).cell? ⟨b, i, none⟩ = some v
  rw [← h]; unfold World.cell?; rw [Below.heap_setCell _ _ _ _ hp]

set_option maxHeartbeats 400000 in
theorem refpart0 (p q : Int) (w : World) :
    Calls Try.prog 95 #[.int .i64 p, .int .i64 q] w (fun e w' => e = .returned (.int .i64 (pt p q)) ∧ w = w') := by
  have h := mul_by (cl_by p) (cl_by q)
  unfold cl at h
  obtain ⟨h1, h2⟩ := h
  go_enter Try.func95, Try.ntmps95
  go_wp2
  go_ret
  exact ⟨rfl, rfl⟩

set_option maxHeartbeats 4000000 in
theorem refover1 (c d : Int) (w : World) (hc : C32 c) (hd : C32 d) :
    Calls Try.prog 80 #[.int .u32 c, .int .u32 d] w (Rt w (.int .u32 (ov c d))) := by
  have b0 := pA_by hc; have b1 := pR_by c; have b2 := pG_by c; have b3 := pB_by c
  have ep := fun w => refparts1 c w hc
  have eq := fun w => refparts1 d w hd
  unfold ov
  clear hc hd
  generalize pA c = a at *; generalize pR c = r at *; generalize pG c = g at *; generalize pB c = b at *
  generalize pA d = a' at *; generalize pR d = r' at *; generalize pG d = g' at *; generalize pB d = b' at *
  obtain ⟨rest, hrest⟩ : ∃ x, x = 255 - a := ⟨_, rfl⟩
  unfold ovc
  rw [← hrest]
  have t0 := pt_by a' rest; have t1 := pt_by r' rest; have t2 := pt_by g' rest; have t3 := pt_by b' rest
  have p0 := refpart0 a' rest; have p1 := refpart0 r' rest; have p2 := refpart0 g' rest; have p3 := refpart0 b' rest
  generalize pt a' rest = x0 at *; generalize pt r' rest = x1 at *; generalize pt g' rest = x2 at *; generalize pt b' rest = x3 at *
  unfold By at b0 b1 b2 b3 t0 t1 t2 t3
  obtain ⟨b00, b01⟩ := b0; obtain ⟨b10, b11⟩ := b1; obtain ⟨b20, b21⟩ := b2; obtain ⟨b30, b31⟩ := b3
  obtain ⟨t00, t01⟩ := t0; obtain ⟨t10, t11⟩ := t1; obtain ⟨t20, t21⟩ := t2; obtain ⟨t30, t31⟩ := t3
  have s : IntKind.i64.wrap (255 - a) = rest := by rw [hrest]; exact IntWalk.i64_in _ (by omega)
  have s0 : IntKind.i64.wrap (a + x0) = a + x0 := IntWalk.i64_in _ (by omega)
  have s1 : IntKind.i64.wrap (r + x1) = r + x1 := IntWalk.i64_in _ (by omega)
  have s2 : IntKind.i64.wrap (g + x2) = g + x2 := IntWalk.i64_in _ (by omega)
  have s3 : IntKind.i64.wrap (b + x3) = b + x3 := IntWalk.i64_in _ (by omega)
  clear b00 b01 b10 b11 b20 b21 b30 b31 t00 t01 t10 t11 t20 t21 t30 t31 hrest
  have mm : mk (a + x0) (r + x1) (g + x2) (b + x3) = mk (min (a + x0) 255) (min (r + x1) 255) (min (g + x2) 255) (min (b + x3) 255) := by unfold mk; rw [cl_min, cl_min, cl_min, cl_min]
  rw [mm]
  clear mm
  go_enter Try.func80, Try.ntmps80
  go_wp2_with fail
  refine (ep _).mono ?_
  rintro e w1 ⟨rfl, g1⟩
  have P := At.new w1 #[.int .i64 a, .int .i64 r, .int .i64 g, .int .i64 b] 114
  replace g1 := g1.alloc (.cells #[.int .i64 a, .int .i64 r, .int .i64 g, .int .i64 b] 114)
  go_wp2_with fail
  refine (eq _).mono ?_
  rintro e w2 ⟨rfl, g2⟩
  replace P := ((P.gr g2).alloc (.cells #[.int .i64 a', .int .i64 r', .int .i64 g', .int .i64 b'] 114)).alloc (.cells #[.int .i64 0, .int .i64 0, .int .i64 0, .int .i64 0] 114)
  have Q := (At.new w2 #[.int .i64 a', .int .i64 r', .int .i64 g', .int .i64 b'] 114).alloc (.cells #[.int .i64 0, .int .i64 0, .int .i64 0, .int .i64 0] 114)
  have O := At.newAt (w := w2.alloc (.cells #[.int .i64 a', .int .i64 r', .int .i64 g', .int .i64 b'] 114)) (n := w2.heap.size + 1) (by simp) #[.int .i64 0, .int .i64 0, .int .i64 0, .int .i64 0] 114
  have zz : w1.heap.size < w2.heap.size := by have := g2.size; simp at this; omega
  have z0 := g1.size
  simp at z0
  replace g2 := ((g1.trans g2).alloc (.cells #[.int .i64 a', .int .i64 r', .int .i64 g', .int .i64 b'] 114)).alloc (.cells #[.int .i64 0, .int .i64 0, .int .i64 0, .int .i64 0] 114)
  clear g1 ep eq
  go_wp2
  obtain ⟨kp, hkp⟩ : ∃ k, k = w1.heap.size := ⟨_, rfl⟩
  obtain ⟨kq, hkq⟩ : ∃ k, k = w2.heap.size := ⟨_, rfl⟩
  obtain ⟨V0, hV⟩ : ∃ V, V = (w2.alloc (.cells #[.int .i64 a', .int .i64 r', .int .i64 g', .int .i64 b'] 114)).alloc (.cells #[.int .i64 0, .int .i64 0, .int .i64 0, .int .i64 0] 114) := ⟨_, rfl⟩
  rw [← hV] at P Q O g2 ⊢
  rw [← hkp] at P zz ⊢
  rw [← hkq] at Q O zz ⊢
  clear hV
  have z1 : kp ≠ kq + 1 := by omega
  have z2 : kq ≠ kq + 1 := by omega
  have z3 : w.heap.size ≤ kq + 1 := by omega
  clear hkp hkq zz z0
  refine wp_loop_rounds 5 ?_
  have k0 : V0.cell? ⟨kp, 0, none⟩ = some (.int .i64 a) := P.cell 0
  have k2 : V0.cell? ⟨kq, 0, none⟩ = some (.int .i64 a') := Q.cell 0
  have k3 : V0.cell? ⟨kq + 1, 0, none⟩ = some (.int .i64 0) := O.cell 0
  have k4 := O.free 0
  rw [rounds_succ]; go_wp2
  go_region_held3 (fun w' => w'.cell? ⟨kp, 0, none⟩ = some (.int .i64 a) ∧ w'.cell? ⟨kq, 0, none⟩ = some (.int .i64 a')) ((first | exact ⟨far_cell k0 z1, far_cell k2 z2⟩ | go_keep))
    ((first | (go_at_call 95; (refine (p0 _).mono ?_); rintro e w' ⟨rfl, rfl⟩)))
  go_wp2
  have O' : At ((V0.setCell ⟨kq + 1, 0, none⟩ (.int .i64 (min (a + x0) 255))).drew) (kq + 1) #[.int .i64 (min (a + x0) 255), .int .i64 0, .int .i64 0, .int .i64 0] 114 := by
    have := Go.Joins.block_setCell (i := 0) O (.int .i64 (min (a + x0) 255))
    refine At.drew ?_
    unfold At
    simpa using this
  replace P := (At.far P (p := ⟨kq + 1, 0, none⟩) z1 (.int .i64 (min (a + x0) 255))).drew
  replace Q := (At.far Q (p := ⟨kq + 1, 0, none⟩) z2 (.int .i64 (min (a + x0) 255))).drew
  replace g2 := (Gr.setCell g2 (p := ⟨kq + 1, 0, none⟩) z3 (.int .i64 (min (a + x0) 255))).drew
  replace O := O'
  clear k0  k2 k3 k4 O'
  generalize (V0.setCell ⟨kq + 1, 0, none⟩ (.int .i64 (min (a + x0) 255))).drew = V1 at P Q O g2 ⊢
  have k0 : V1.cell? ⟨kp, 0, none⟩ = some (.int .i64 a) := P.cell 0
  have k1 : V1.cell? ⟨kp, 1, none⟩ = some (.int .i64 r) := P.cell 1
  have k2 : V1.cell? ⟨kq, 1, none⟩ = some (.int .i64 r') := Q.cell 1
  have k3 : V1.cell? ⟨kq + 1, 1, none⟩ = some (.int .i64 0) := O.cell 1
  have k4 := O.free 1
  rw [rounds_succ]; go_wp2
  go_region_held3 (fun w' => w'.cell? ⟨kp, 0, none⟩ = some (.int .i64 a) ∧ w'.cell? ⟨kq, 1, none⟩ = some (.int .i64 r') ∧ w'.cell? ⟨kp, 1, none⟩ = some (.int .i64 r)) ((first | exact ⟨far_cell k0 z1, far_cell k2 z2, far_cell k1 z1⟩ | go_keep))
    ((first | (go_at_call 95; (refine (p1 _).mono ?_); rintro e w' ⟨rfl, rfl⟩)))
  go_wp2
  have O' : At ((V1.setCell ⟨kq + 1, 1, none⟩ (.int .i64 (min (r + x1) 255))).drew) (kq + 1) #[.int .i64 (min (a + x0) 255), .int .i64 (min (r + x1) 255), .int .i64 0, .int .i64 0] 114 := by
    have := Go.Joins.block_setCell (i := 1) O (.int .i64 (min (r + x1) 255))
    refine At.drew ?_
    unfold At
    simpa using this
  replace P := (At.far P (p := ⟨kq + 1, 1, none⟩) z1 (.int .i64 (min (r + x1) 255))).drew
  replace Q := (At.far Q (p := ⟨kq + 1, 1, none⟩) z2 (.int .i64 (min (r + x1) 255))).drew
  replace g2 := (Gr.setCell g2 (p := ⟨kq + 1, 1, none⟩) z3 (.int .i64 (min (r + x1) 255))).drew
  replace O := O'
  clear k0 k1 k2 k3 k4 O'
  generalize (V1.setCell ⟨kq + 1, 1, none⟩ (.int .i64 (min (r + x1) 255))).drew = V2 at P Q O g2 ⊢
  have k0 : V2.cell? ⟨kp, 0, none⟩ = some (.int .i64 a) := P.cell 0
  have k1 : V2.cell? ⟨kp, 2, none⟩ = some (.int .i64 g) := P.cell 2
  have k2 : V2.cell? ⟨kq, 2, none⟩ = some (.int .i64 g') := Q.cell 2
  have k3 : V2.cell? ⟨kq + 1, 2, none⟩ = some (.int .i64 0) := O.cell 2
  have k4 := O.free 2
  rw [rounds_succ]; go_wp2
  go_region_held3 (fun w' => w'.cell? ⟨kp, 0, none⟩ = some (.int .i64 a) ∧ w'.cell? ⟨kq, 2, none⟩ = some (.int .i64 g') ∧ w'.cell? ⟨kp, 2, none⟩ = some (.int .i64 g)) ((first | exact ⟨far_cell k0 z1, far_cell k2 z2, far_cell k1 z1⟩ | go_keep))
    ((first | (go_at_call 95; (refine (p2 _).mono ?_); rintro e w' ⟨rfl, rfl⟩)))
  go_wp2
  have O' : At ((V2.setCell ⟨kq + 1, 2, none⟩ (.int .i64 (min (g + x2) 255))).drew) (kq + 1) #[.int .i64 (min (a + x0) 255), .int .i64 (min (r + x1) 255), .int .i64 (min (g + x2) 255), .int .i64 0] 114 := by
    have := Go.Joins.block_setCell (i := 2) O (.int .i64 (min (g + x2) 255))
    refine At.drew ?_
    unfold At
    simpa using this
  replace P := (At.far P (p := ⟨kq + 1, 2, none⟩) z1 (.int .i64 (min (g + x2) 255))).drew
  replace Q := (At.far Q (p := ⟨kq + 1, 2, none⟩) z2 (.int .i64 (min (g + x2) 255))).drew
  replace g2 := (Gr.setCell g2 (p := ⟨kq + 1, 2, none⟩) z3 (.int .i64 (min (g + x2) 255))).drew
  replace O := O'
  clear k0 k1 k2 k3 k4 O'
  generalize (V2.setCell ⟨kq + 1, 2, none⟩ (.int .i64 (min (g + x2) 255))).drew = V3 at P Q O g2 ⊢
  have k0 : V3.cell? ⟨kp, 0, none⟩ = some (.int .i64 a) := P.cell 0
  have k1 : V3.cell? ⟨kp, 3, none⟩ = some (.int .i64 b) := P.cell 3
  have k2 : V3.cell? ⟨kq, 3, none⟩ = some (.int .i64 b') := Q.cell 3
  have k3 : V3.cell? ⟨kq + 1, 3, none⟩ = some (.int .i64 0) := O.cell 3
  have k4 := O.free 3
  rw [rounds_succ]; go_wp2
  go_region_held3 (fun w' => w'.cell? ⟨kp, 0, none⟩ = some (.int .i64 a) ∧ w'.cell? ⟨kq, 3, none⟩ = some (.int .i64 b') ∧ w'.cell? ⟨kp, 3, none⟩ = some (.int .i64 b)) ((first | exact ⟨far_cell k0 z1, far_cell k2 z2, far_cell k1 z1⟩ | go_keep))
    ((first | (go_at_call 95; (refine (p3 _).mono ?_); rintro e w' ⟨rfl, rfl⟩)))
  go_wp2
  have O' : At ((V3.setCell ⟨kq + 1, 3, none⟩ (.int .i64 (min (b + x3) 255))).drew) (kq + 1) #[.int .i64 (min (a + x0) 255), .int .i64 (min (r + x1) 255), .int .i64 (min (g + x2) 255), .int .i64 (min (b + x3) 255)] 114 := by
    have := Go.Joins.block_setCell (i := 3) O (.int .i64 (min (b + x3) 255))
    refine At.drew ?_
    unfold At
    simpa using this
  replace P := (At.far P (p := ⟨kq + 1, 3, none⟩) z1 (.int .i64 (min (b + x3) 255))).drew
  replace Q := (At.far Q (p := ⟨kq + 1, 3, none⟩) z2 (.int .i64 (min (b + x3) 255))).drew
  replace g2 := (Gr.setCell g2 (p := ⟨kq + 1, 3, none⟩) z3 (.int .i64 (min (b + x3) 255))).drew
  replace O := O'
  clear k0 k1 k2 k3 k4 O'
  generalize (V3.setCell ⟨kq + 1, 3, none⟩ (.int .i64 (min (b + x3) 255))).drew = V4 at P Q O g2 ⊢
  have k0 : V4.cell? ⟨kq + 1, 0, none⟩ = _ := O.cell 0
  have k1 : V4.cell? ⟨kq + 1, 1, none⟩ = _ := O.cell 1
  have k2 : V4.cell? ⟨kq + 1, 2, none⟩ = _ := O.cell 2
  have k3 : V4.cell? ⟨kq + 1, 3, none⟩ = _ := O.cell 3
  simp at k0 k1 k2 k3
  rw [rounds_succ]; go_wp2_with fail
  refine (refmake1 _ _ _ _ _).mono ?_
  rintro e w6 ⟨rfl, g6⟩
  go_wp2
  go_ret
  exact ⟨rfl, g2.trans g6⟩

end Go.Proofs.Ytafceieenhogpaa
