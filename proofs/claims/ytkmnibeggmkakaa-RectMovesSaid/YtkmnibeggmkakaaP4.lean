/-
  What is proved: the statement RectMoves: what is moved, and scaled, is the document's, or refused. No conditions.
-/
import Derived.Test.YtkmnibeggmkakaaB1
import Derived.Test.YtkmnibeggmkakaaA4
import Derived.Test.YtkmnibeggmkakaaM3
import Derived.Test.YtkmnibeggmkakaaM4
import Derived.Test.YtkmnibeggmkakaaM6
namespace Go.Proofs.Ytkmnibeggmkakaa
open Go.ChangeShapes Go.WideShapes Go.ChangeAt Go.RowKit Go.Joins Go.Sort

set_option maxHeartbeats 8000000 in
theorem moves_core (a b c d x y n q0 q1 q2 q3 a0 a1 a2 a3 E c0 c1 c2 c3 K x0 x1 x2 x3 I S : Int) (w : World)
    (hG : ∀ w, Calls Try.prog 14 #[.agg #[.int .i64 a, .int .i64 b, .int .i64 c, .int .i64 d]] w (Rt w (.agg #[.int .i64 q0, .int .i64 q1, .int .i64 q2, .int .i64 q3])))
    (hM : ∀ w, Calls Try.prog 15 #[.agg #[.int .i64 q0, .int .i64 q1, .int .i64 q2, .int .i64 q3], .int .i64 x, .int .i64 y] w (Rt w (.tuple #[.agg #[.int .i64 a0, .int .i64 a1, .int .i64 a2, .int .i64 a3], .int .i64 E])))
    (hM' : ∀ w, Calls Try.prog 16 #[.agg #[.int .i64 q0, .int .i64 q1, .int .i64 q2, .int .i64 q3], .int .i64 x, .int .i64 y] w (Rt w (.tuple #[.agg #[.int .i64 a0, .int .i64 a1, .int .i64 a2, .int .i64 a3], .int .i64 E])))
    (hS : ∀ w, Calls Try.prog 17 #[.agg #[.int .i64 q0, .int .i64 q1, .int .i64 q2, .int .i64 q3], .int .i64 n] w (Rt w (.tuple #[.agg #[.int .i64 c0, .int .i64 c1, .int .i64 c2, .int .i64 c3], .int .i64 K])))
    (hS' : ∀ w, Calls Try.prog 18 #[.agg #[.int .i64 q0, .int .i64 q1, .int .i64 q2, .int .i64 q3], .int .i64 n] w (Rt w (.tuple #[.agg #[.int .i64 c0, .int .i64 c1, .int .i64 c2, .int .i64 c3], .int .i64 K])))
    (hT : ∀ w, Calls Try.prog 17 #[.agg #[.int .i64 a, .int .i64 b, .int .i64 c, .int .i64 d], .int .i64 n] w (Rt w (.tuple #[.agg #[.int .i64 x0, .int .i64 x1, .int .i64 x2, .int .i64 x3], .int .i64 I])))
    (hT' : ∀ w, Calls Try.prog 18 #[.agg #[.int .i64 a, .int .i64 b, .int .i64 c, .int .i64 d], .int .i64 n] w (Rt w (.tuple #[.agg #[.int .i64 x0, .int .i64 x1, .int .i64 x2, .int .i64 x3], .int .i64 I])))
    (hE : E = 0 ∨ E = 4) (hK : K = 0 ∨ K = 1 ∨ K = 4)
    (hA : E = 0 → ∀ w, Calls Try.prog 19 #[.agg #[.int .i64 a0, .int .i64 a1, .int .i64 a2, .int .i64 a3]] w (Rt w (.int .i64 S))) (hA' : ∀ w, Calls Try.prog 20 #[.agg #[.int .i64 q0, .int .i64 q1, .int .i64 q2, .int .i64 q3]] w (Rt w (.int .i64 S)))
    (hC : K = 0 → ∀ w, Calls Try.prog 19 #[.agg #[.int .i64 c0, .int .i64 c1, .int .i64 c2, .int .i64 c3]] w (Rt w (.int .i64 (n * n * S))))
    (hn : K = 0 → 0 ≤ n * n ∧ n * n ≤ 64 ∧ 0 ≤ n * n * S ∧ n * n * S ≤ 4398046511104) :
    Calls Try.prog 3 #[.agg #[.int .i64 a, .int .i64 b, .int .i64 c, .int .i64 d], .int .i64 x, .int .i64 y, .int .i64 n] w (Rt w (.bool true)) := by
  have mixed : Try.prog.follows .mixedOrders = true := by kernel_rfl
  have L := lives1
  rcases hE with rfl | rfl
  all_goals rcases hK with rfl | rfl | rfl
  all_goals
    try (have hA1 := hA rfl)
    try (have hC1 := hC rfl)
    try (have hn1 := hn rfl)
    try (obtain ⟨n1, n2, n3, n4⟩ := hn1)
    clear hA hC hn
    go_enter Try.func3, Try.ntmps3
    go_wp2_with fail
    refine (hG _).mono ?_
    rintro e W1 ⟨rfl, g1⟩
    have R := (At.new w _ _).gr g1
    have kR := R.cell
    have lR := R.lt
    go_wp2_with fail
    refine (hM _).mono ?_
    rintro e W2 ⟨rfl, g2⟩
    replace R := (R.alloc _).gr g2
    clear kR lR
    have G := (At.new W1 _ _).gr g2
    have kR := R.cell
    have lR := R.lt
    have kG := G.cell
    have lG := G.lt
    go_wp2_with fail
    refine (hM' _).mono ?_
    rintro e W3 ⟨rfl, g3⟩
    replace R := (R.alloc _).gr g3
    clear kR lR
    replace G := (G.alloc _).gr g3
    clear kG lG
    have A := (At.new W2 _ _).gr g3
    have kR := R.cell
    have lR := R.lt
    have kG := G.cell
    have lG := G.lt
    have kA := A.cell
    have lA := A.lt
    go_wp2_with fail
    refine (hS _).mono ?_
    rintro e W4 ⟨rfl, g4⟩
    replace R := (R.alloc _).gr g4
    clear kR lR
    replace G := (G.alloc _).gr g4
    clear kG lG
    replace A := (A.alloc _).gr g4
    clear kA lA
    have B := (At.new W3 _ _).gr g4
    have kR := R.cell
    have lR := R.lt
    have kG := G.cell
    have lG := G.lt
    have kA := A.cell
    have lA := A.lt
    have kB := B.cell
    have lB := B.lt
    go_wp2_with fail
    refine (hS' _).mono ?_
    rintro e W5 ⟨rfl, g5⟩
    replace R := (R.alloc _).gr g5
    clear kR lR
    replace G := (G.alloc _).gr g5
    clear kG lG
    replace A := (A.alloc _).gr g5
    clear kA lA
    replace B := (B.alloc _).gr g5
    clear kB lB
    have C := (At.new W4 _ _).gr g5
    have kR := R.cell
    have lR := R.lt
    have kG := G.cell
    have lG := G.lt
    have kA := A.cell
    have lA := A.lt
    have kB := B.cell
    have lB := B.lt
    have kC := C.cell
    have lC := C.lt
    go_wp2_with fail
    refine (hT _).mono ?_
    rintro e W6 ⟨rfl, g6⟩
    replace R := (R.alloc _).gr g6
    clear kR lR
    replace G := (G.alloc _).gr g6
    clear kG lG
    replace A := (A.alloc _).gr g6
    clear kA lA
    replace B := (B.alloc _).gr g6
    clear kB lB
    replace C := (C.alloc _).gr g6
    clear kC lC
    have D := (At.new W5 _ _).gr g6
    have kR := R.cell
    have lR := R.lt
    have kG := G.cell
    have lG := G.lt
    have kA := A.cell
    have lA := A.lt
    have kB := B.cell
    have lB := B.lt
    have kC := C.cell
    have lC := C.lt
    have kD := D.cell
    have lD := D.lt
    go_wp2_with fail
    refine (hT' _).mono ?_
    rintro e W7 ⟨rfl, g7⟩
    replace R := (R.alloc _).gr g7
    clear kR lR
    replace G := (G.alloc _).gr g7
    clear kG lG
    replace A := (A.alloc _).gr g7
    clear kA lA
    replace B := (B.alloc _).gr g7
    clear kB lB
    replace C := (C.alloc _).gr g7
    clear kC lC
    replace D := (D.alloc _).gr g7
    clear kD lD
    have X := (At.new W6 _ _).gr g7
    have kR := R.cell
    have lR := R.lt
    have kG := G.cell
    have lG := G.lt
    have kA := A.cell
    have lA := A.lt
    have kB := B.cell
    have lB := B.lt
    have kC := C.cell
    have lC := C.lt
    have kD := D.cell
    have lD := D.lt
    have kX := X.cell
    have lX := X.lt
    go_wp2
    clear hG hM hM' hS hS' hT hT'
    replace G := G.alloc (.cells #[Value.int .i64 x0, .int .i64 x1, .int .i64 x2, .int .i64 x3] 23)
    replace A := A.alloc (.cells #[Value.int .i64 x0, .int .i64 x1, .int .i64 x2, .int .i64 x3] 23)
    replace C := C.alloc (.cells #[Value.int .i64 x0, .int .i64 x1, .int .i64 x2, .int .i64 x3] 23)
    clear kR lR kG lG kA lA kB lB kC lC kD lD kX lX R B D X
    have pG := G.cells
    have pA := A.cells
    refine wp_region_quiet_grown (by assumption) (by kernel_rfl) ?_
    repeat (first | go_big_quiet_step ((first | (go_at_call 19; exact Calls.grown (hA1 _)) | (go_at_call 20; exact Calls.grown (hA' _)))) | quiet_step ((first | (go_at_call 19; exact Calls.grown (hA1 _)) | (go_at_call 20; exact Calls.grown (hA' _)))))
    refine wpQuiet_nil ?_
    intro W8 g8
    replace g8 : Gr _ W8 := g8
    replace G := G.gr g8
    replace C := C.gr g8
    clear pG pA A
    go_wp2
    have pG := G.cells
    have pC := C.cells
    refine wp_region_quiet_grown (by assumption) (by kernel_rfl) ?_
    repeat (first | go_big_quiet_step ((first | (go_at_call 19; exact Calls.grown (hC1 _)) | (go_at_call 20; exact Calls.grown (hA' _)) | (go_at_call 21; exact Calls.grown (L _)))) | quiet_step ((first | (go_at_call 19; exact Calls.grown (hC1 _)) | (go_at_call 20; exact Calls.grown (hA' _)) | (go_at_call 21; exact Calls.grown (L _)))))
    refine wpQuiet_nil ?_
    intro W9 g9
    replace g9 : Gr _ W9 := g9
    go_wp2
    go_ret
    refine Rt.bool (by simp) ?_
    exact (((((((((((((((Gr.refl w).alloc _).trans g1).alloc _).trans g2).alloc _).trans g3).alloc _).trans g4).alloc _).trans g5).alloc _).trans g6).alloc _).trans g7).alloc _ |>.trans g8 |>.trans g9

theorem moves1 (a b c d x y n : Int) (w : World) (_ : I64 a) (_ : I64 b) (_ : I64 c) (_ : I64 d) (hx : I64 x) (hy : I64 y) (hn : I64 n) :
    Calls Try.prog 3 #[.agg #[.int .i64 a, .int .i64 b, .int .i64 c, .int .i64 d], .int .i64 x, .int .i64 y, .int .i64 n] w (Rt w (.bool true)) := by
  have hg := good_may a b c d
  obtain ⟨ba, bb, bc, bd⟩ := may_bd hg
  refine moves_core a b c d x y n _ _ _ _ _ _ _ _ _ _ _ _ _ _ _ _ _ _ _ (areaI (goodR a b c d).a (goodR a b c d).b (goodR a b c d).c (goodR a b c d).d) w (good1 a b c d)
    (fun w => move1 _ _ _ _ x y w ba bb bc bd hx hy) (fun w => refmove1 _ _ _ _ x y w ba bb bc bd hx hy)
    (fun w => scale1 _ _ _ _ n w hn) (fun w => refscale1 _ _ _ _ n w hn) (fun w => scale1 a b c d n w hn) (fun w => refscale1 a b c d n w hn) ?_ ?_ ?_ (fun w => refarea1 _ _ _ _ w hg) ?_ ?_
  · unfold moveE; split
    · exact .inl rfl
    · exact .inr rfl
  · unfold scaleE; split
    · exact .inr (.inl rfl)
    · split
      · exact .inl rfl
      · exact .inr (.inr rfl)
  · intro h w
    obtain ⟨h1, h2⟩ := move_area h
    have := area1 _ _ _ _ w h2
    rw [h1] at this
    exact this
  · intro h w
    obtain ⟨h0, h1, h2, h3⟩ := scale_area h
    have := area1 _ _ _ _ w h2
    rw [h1] at this
    exact this
  · intro h
    obtain ⟨h0, h1, h2, h3⟩ := scale_area h
    have hb := area_bd h2
    rw [← h1]
    obtain ⟨p, q⟩ := h0
    have m0 : 0 ≤ n * n := Int.mul_nonneg (by omega) (by omega)
    have m1 : n * n ≤ 8 * 8 := Int.mul_le_mul q q (by omega) (by omega)
    exact ⟨m0, by omega, hb.1, hb.2⟩

set_option maxRecDepth 100000 in
theorem rectMoves_lifted (os : Os) (started : os.Started) (H : Type) (enc : TypeId × Value → H) :
    ReturnsInHanded {} Try.checked os 3 .any (Rows.rectMovesSpec.pre6 enc Try.prog Try.f3 Rows.rectMovesRow.domain false) (Rows.rectMovesSpec.post enc Try.prog Try.f3 false true false false) := by
  refine returnsInHanded_of_change (C := Try.checked) own started (by kernel_rfl) Try.func3
    (ChangeSpec.witness6 (enc := enc) (C := Try.checked) false ⟨#[], #[.agg #[.int .i64 0, .int .i64 0, .int .i64 0, .int .i64 0], .int .i64 0, .int .i64 0, .int .i64 0], []⟩ 8 (by kernel_rfl) (by kernel_rfl) (by kernel_rfl) (by kernel_rfl)) ?_
  intro W base args ds gs before hval0 hW hcnd _
  have hval : ∀ (j : Nat) t v, Try.f3.params[j]? = some t → args[j]? = some v → Value.okWide Try.prog W .any base t v := hval0
  have hW' := hW
  obtain ⟨p, q, hA0, hV, rfl, hfz, hnd⟩ := hW
  have hA : DataW.TrodAll enc Try.prog W 0 (fun _ => true) true Try.f3.params.toList args.toList ds p := hA0
  rw [Try.params3] at hA hval
  obtain ⟨v0, vs0, d0, ds0, p0, q0, hargs, rfl, rfl, h0, r0⟩ := trodAll_cons hA
  obtain ⟨v1, vs1, d1, ds1, p1, q1, rfl, rfl, rfl, h1, r1⟩ := trodAll_cons r0
  obtain ⟨v2, vs2, d2, ds2, p2, q2, rfl, rfl, rfl, h2, r2⟩ := trodAll_cons r1
  obtain ⟨v3, vs3, d3, ds3, p3, q3, rfl, rfl, rfl, h3, r3⟩ := trodAll_cons r2
  obtain ⟨rfl, rfl, rfl⟩ := trodAll_nil r3
  obtain rfl : args = #[v0, v1, v2, v3] := by cases args; simp_all
  obtain ⟨rfl, rfl⟩ := trodVars_none hV
  obtain ⟨a0, b0, c0, d0, rfl, rfl, rfl, wa0, wb0, wc0, wd0⟩ := open_rect (hval 0 23 v0 rfl rfl) h0
  obtain ⟨n1, rfl, rfl, rfl, wn1⟩ := open_int Try.underlying3 (hval 1 3 v1 rfl rfl) h1
  obtain ⟨n2, rfl, rfl, rfl, wn2⟩ := open_int Try.underlying3 (hval 2 3 v2 rfl rfl) h2
  obtain ⟨n3, rfl, rfl, rfl, wn3⟩ := open_int Try.underlying3 (hval 3 3 v3 rfl rfl) h3
  clear hA0 hval0
  simp only [List.append_nil] at hW'
  refine (moves1 a0 b0 c0 d0 n1 n2 n3 W (I64.of_wf wa0) (I64.of_wf wb0) (I64.of_wf wc0) (I64.of_wf wd0) (I64.of_wf wn1) (I64.of_wf wn2) (I64.of_wf wn3)).mono fun e W' ⟨he, hg⟩ => ?_
  subst he
  exact ⟨_, rfl, close_below (pa := []) (pv := []) hW' (fun _ _ _ => (trodAll_cons_mk (shut_bool Try.underlying4 _) trodAll_mk0)) (fun sp _ => (trodAll_cons_mk (shut_rect wa0 wb0 wc0 wd0) (trodAll_cons_mk (shut_int Try.underlying3 wn1) (trodAll_cons_mk (shut_int Try.underlying3 wn2) (trodAll_cons_mk (shut_int Try.underlying3 wn3) trodAll_mk0))))) (fun _ _ => rfl) rfl
    hg.below (ok_one (by kernel_rfl) rfl (okWide_bool_mk Try.underlying4 _))⟩

theorem rectMoves_holds : Rows.RectMovesSaid :=
  OpenClaim.holds_of_wide 3 Try.f3 rfl rfl rfl rfl rfl rfl rfl ⟨rfl, rfl, rfl, rfl, rfl⟩ rfl rfl rfl rfl rfl (by kernel_rfl) Try.func3 (by kernel_rfl)
    (of_decide_eq_true (by kernel_rfl)) (by unfold Func.isWrapper; first | (rw [if_pos (by decide +kernel)]; kernel_rfl) | (rw [if_neg (by decide +kernel)]; exact ⟨rfl, rfl⟩))
    (fun os started H enc _ => rectMoves_lifted os started H enc)

#print axioms rectMoves_holds
end Go.Proofs.Ytkmnibeggmkakaa
