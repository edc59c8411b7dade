/-
  What is proved: the statement RectBack: what is moved there and back is as it was, and meets what moves with it just as ahead. No conditions.
-/
import Derived.Test.YtkmnibeggmkakaaB1
import Derived.Test.YtkmnibeggmkakaaB2
import Derived.Test.YtkmnibeggmkakaaB3
import Derived.Test.YtkmnibeggmkakaaA4
import Derived.Test.YtkmnibeggmkakaaM6
namespace Go.Proofs.Ytkmnibeggmkakaa
open Go.ChangeShapes Go.WideShapes Go.ChangeAt Go.RowKit Go.Joins Go.Sort

set_option maxHeartbeats 8000000 in
theorem back_core (a b c d a' b' c' d' x y X Y p0 p1 p2 p3 q0 q1 q2 q3 m0 m1 m2 m3 n0 n1 n2 n3 : Int) (T U : Bool) (w : World)
    (hP : ∀ w, Calls Try.prog 22 #[.agg #[.int .i64 a, .int .i64 b, .int .i64 c, .int .i64 d]] w (Rt w (.agg #[.int .i64 p0, .int .i64 p1, .int .i64 p2, .int .i64 p3])))
    (hQ : ∀ w, Calls Try.prog 22 #[.agg #[.int .i64 a', .int .i64 b', .int .i64 c', .int .i64 d']] w (Rt w (.agg #[.int .i64 q0, .int .i64 q1, .int .i64 q2, .int .i64 q3])))
    (hX : ∀ w, Calls Try.prog 23 #[.int .i64 x, .int .i64 2001] w fun e w' => e = .returned (.int .i64 X) ∧ w = w')
    (hY : ∀ w, Calls Try.prog 23 #[.int .i64 y, .int .i64 2001] w fun e w' => e = .returned (.int .i64 Y) ∧ w = w')
    (hM : ∀ w, Calls Try.prog 15 #[.agg #[.int .i64 p0, .int .i64 p1, .int .i64 p2, .int .i64 p3], .int .i64 (X - 1000), .int .i64 (Y - 1000)] w (Rt w (.tuple #[.agg #[.int .i64 m0, .int .i64 m1, .int .i64 m2, .int .i64 m3], .int .i64 0])))
    (hN : ∀ w, Calls Try.prog 15 #[.agg #[.int .i64 q0, .int .i64 q1, .int .i64 q2, .int .i64 q3], .int .i64 (X - 1000), .int .i64 (Y - 1000)] w (Rt w (.tuple #[.agg #[.int .i64 n0, .int .i64 n1, .int .i64 n2, .int .i64 n3], .int .i64 0])))
    (hB : ∀ w, Calls Try.prog 15 #[.agg #[.int .i64 m0, .int .i64 m1, .int .i64 m2, .int .i64 m3], .int .i64 (-(X - 1000)), .int .i64 (-(Y - 1000))] w (Rt w (.tuple #[.agg #[.int .i64 p0, .int .i64 p1, .int .i64 p2, .int .i64 p3], .int .i64 0])))
    (h1 : ∀ w, Calls Try.prog 24 #[.agg #[.int .i64 m0, .int .i64 m1, .int .i64 m2, .int .i64 m3], .agg #[.int .i64 n0, .int .i64 n1, .int .i64 n2, .int .i64 n3]] w (Rt w (.bool T)))
    (h2 : ∀ w, Calls Try.prog 24 #[.agg #[.int .i64 p0, .int .i64 p1, .int .i64 p2, .int .i64 p3], .agg #[.int .i64 q0, .int .i64 q1, .int .i64 q2, .int .i64 q3]] w (Rt w (.bool T)))
    (h3 : ∀ w, Calls Try.prog 25 #[.agg #[.int .i64 m0, .int .i64 m1, .int .i64 m2, .int .i64 m3], .agg #[.int .i64 n0, .int .i64 n1, .int .i64 n2, .int .i64 n3]] w (Rt w (.bool U)))
    (h4 : ∀ w, Calls Try.prog 25 #[.agg #[.int .i64 p0, .int .i64 p1, .int .i64 p2, .int .i64 p3], .agg #[.int .i64 q0, .int .i64 q1, .int .i64 q2, .int .i64 q3]] w (Rt w (.bool U)))
    (bX : 0 ≤ X ∧ X < 2001) (bY : 0 ≤ Y ∧ Y < 2001) :
    Calls Try.prog 4 #[.agg #[.int .i64 a, .int .i64 b, .int .i64 c, .int .i64 d], .agg #[.int .i64 a', .int .i64 b', .int .i64 c', .int .i64 d'], .int .i64 x, .int .i64 y] w (Rt w (.bool true)) := by
  have mixed : Try.prog.follows .mixedOrders = true := by kernel_rfl
  have L := lives1
  obtain ⟨bX1, bX2⟩ := bX
  obtain ⟨bY1, bY2⟩ := bY
  go_enter Try.func4, Try.ntmps4
  go_wp2_with fail
  refine (hP _).mono ?_
  rintro e W1 ⟨rfl, g1⟩
  have B := (At.new (w.alloc _) _ _).gr g1
  simp only [World.size_alloc] at B
  have kB := B.cell
  have lB := B.lt
  go_wp2_with fail
  refine (hQ _).mono ?_
  rintro e W2 ⟨rfl, g2⟩
  have P := (At.new W1 _ _).gr g2
  clear kB lB B
  have kP := P.cell
  have lP := P.lt
  go_wp2_with fail
  refine (hX _).mono ?_
  rintro e w' ⟨rfl, rfl⟩
  go_wp2_with fail
  refine (hY _).mono ?_
  rintro e w' ⟨rfl, rfl⟩
  go_wp2_with fail
  refine (hM _).mono ?_
  rintro e W3 ⟨rfl, g3⟩
  have Q := (At.new W2 _ _).gr g3
  replace P := (P.alloc _).gr g3
  clear kP lP
  have kP := P.cell
  have lP := P.lt
  have kQ := Q.cell
  have lQ := Q.lt
  go_wp2_with fail
  refine (hN _).mono ?_
  rintro e W4 ⟨rfl, g4⟩
  have M := (At.new W3 _ _).gr g4
  replace P := (P.alloc _).gr g4
  replace Q := (Q.alloc _).gr g4
  clear kP lP kQ lQ
  have kM := M.cell
  have lM := M.lt
  go_wp2_with fail
  refine (hB _).mono ?_
  rintro e W5 ⟨rfl, g5⟩
  have N := (((At.new W4 _ _).gr g5).alloc (.cells #[Value.int .i64 p0, .int .i64 p1, .int .i64 p2, .int .i64 p3] 23))
  replace P := ((P.alloc _).gr g5).alloc (.cells #[Value.int .i64 p0, .int .i64 p1, .int .i64 p2, .int .i64 p3] 23)
  replace Q := ((Q.alloc _).gr g5).alloc (.cells #[Value.int .i64 p0, .int .i64 p1, .int .i64 p2, .int .i64 p3] 23)
  replace M := ((M.alloc _).gr g5).alloc (.cells #[Value.int .i64 p0, .int .i64 p1, .int .i64 p2, .int .i64 p3] 23)
  have K := At.new W5 #[Value.int .i64 p0, .int .i64 p1, .int .i64 p2, .int .i64 p3] 23
  clear kM lM hP hQ hX hY hM hN hB
  go_wp2
  have kP := P.cells
  have kQ := Q.cells
  have kM := M.cells
  have kN := N.cells
  have kK := K.cells
  refine wp_region_quiet_grown (by assumption) (by kernel_rfl) ?_
  repeat (first | go_big_quiet_step ((first | (go_at_call 24; with_reducible exact Calls.grown (h1 _)) | (go_at_call 24; with_reducible exact Calls.grown (h2 _)) | (go_at_call 25; with_reducible exact Calls.grown (h3 _)) | (go_at_call 25; with_reducible exact Calls.grown (h4 _)) | (go_at_call 21; exact Calls.grown (L _)))) | quiet_step ((first | (go_at_call 24; with_reducible exact Calls.grown (h1 _)) | (go_at_call 24; with_reducible exact Calls.grown (h2 _)) | (go_at_call 25; with_reducible exact Calls.grown (h3 _)) | (go_at_call 25; with_reducible exact Calls.grown (h4 _)) | (go_at_call 21; exact Calls.grown (L _)))))
  refine wpQuiet_nil ?_
  intro W9 g9
  replace g9 : Gr _ W9 := g9
  go_wp2
  go_ret
  refine Rt.bool (by simp) ?_
  exact ((((((((((((((Gr.refl w).alloc _).alloc _).trans g1).alloc _).trans g2).alloc _).trans g3).alloc _).trans g4).alloc _).trans g5).alloc _)).trans g9

theorem empty_move (a b c d x y : Int) : emptyB (a + x) (b + y) (c + x) (d + y) = emptyB a b c d := by
  unfold emptyB
  rw [decide_eq_decide]
  omega
theorem meets_move (a b c d a' b' c' d' x y : Int) : meetsB (a + x) (b + y) (c + x) (d + y) (a' + x) (b' + y) (c' + x) (d' + y) = meetsB a b c d a' b' c' d' := by
  unfold meetsB
  rw [show max (a + x) (a' + x) = max a a' + x from by omega, show max (b + y) (b' + y) = max b b' + y from by omega, show min (c + x) (c' + x) = min c c' + x from by omega, show min (d + y) (d' + y) = min d d' + y from by omega, empty_move]
theorem covers_move (a b c d a' b' c' d' x y : Int) : coversB (a + x) (b + y) (c + x) (d + y) (a' + x) (b' + y) (c' + x) (d' + y) = coversB a b c d a' b' c' d' := by
  unfold coversB
  rw [empty_move]
  congr 1
  rw [decide_eq_decide]
  omega

theorem back1 (a b c d a' b' c' d' x y : Int) (w : World) (ha : I64 a) (hb : I64 b) (hc : I64 c) (hd : I64 d) (ha' : I64 a') (hb' : I64 b') (hc' : I64 c') (hd' : I64 d') (hx : I64 x) (hy : I64 y) :
    Calls Try.prog 4 #[.agg #[.int .i64 a, .int .i64 b, .int .i64 c, .int .i64 d], .agg #[.int .i64 a', .int .i64 b', .int .i64 c', .int .i64 d'], .int .i64 x, .int .i64 y] w (Rt w (.bool true)) := by
  have bX := around_bd x 2001 (by omega)
  have bY := around_bd y 2001 (by omega)
  have bp := small_bd a b c d
  have bq := small_bd a' b' c' d'
  have cX := fun w => around1 x 2001 w hx (by omega)
  have cY := fun w => around1 y 2001 w hy (by omega)
  have cP := fun w => small1 a b c d w ha hb hc hd
  have cQ := fun w => small1 a' b' c' d' w ha' hb' hc' hd'
  obtain ⟨X, eX⟩ : ∃ X, X = around x 2001 := ⟨_, rfl⟩
  obtain ⟨Y, eY⟩ : ∃ Y, Y = around y 2001 := ⟨_, rfl⟩
  obtain ⟨p, ep⟩ : ∃ p, p = smallR a b c d := ⟨_, rfl⟩
  obtain ⟨q, eq⟩ : ∃ q, q = smallR a' b' c' d' := ⟨_, rfl⟩
  rw [← eX] at bX
  rw [← eY] at bY
  simp only [← eX] at cX
  simp only [← eY] at cY
  simp only [← ep] at cP bp
  simp only [← eq] at cQ bq
  clear eX eY ep eq
  have kp : moveB p.a p.b p.c p.d (X - 1000) (Y - 1000) = true := by unfold moveB mayB; simp only [Bool.and_eq_true, decide_eq_true_eq]; omega
  have kq : moveB q.a q.b q.c q.d (X - 1000) (Y - 1000) = true := by unfold moveB mayB; simp only [Bool.and_eq_true, decide_eq_true_eq]; omega
  have km : moveB (p.a + (X - 1000)) (p.b + (Y - 1000)) (p.c + (X - 1000)) (p.d + (Y - 1000)) (-(X - 1000)) (-(Y - 1000)) = true := by unfold moveB mayB; simp only [Bool.and_eq_true, decide_eq_true_eq]; omega
  obtain ⟨e1, e2, e3, e4, e5⟩ := moveR_t kp
  obtain ⟨f1, f2, f3, f4, f5⟩ := moveR_t kq
  obtain ⟨g1, g2, g3, g4, g5⟩ := moveR_t km
  have cM := fun w => move1 p.a p.b p.c p.d (X - 1000) (Y - 1000) w (by unfold Bd; omega) (by unfold Bd; omega) (by unfold Bd; omega) (by unfold Bd; omega) (by unfold I64; omega) (by unfold I64; omega)
  have cN := fun w => move1 q.a q.b q.c q.d (X - 1000) (Y - 1000) w (by unfold Bd; omega) (by unfold Bd; omega) (by unfold Bd; omega) (by unfold Bd; omega) (by unfold I64; omega) (by unfold I64; omega)
  have cB := fun w => move1 (p.a + (X - 1000)) (p.b + (Y - 1000)) (p.c + (X - 1000)) (p.d + (Y - 1000)) (-(X - 1000)) (-(Y - 1000)) w (by unfold Bd; omega) (by unfold Bd; omega) (by unfold Bd; omega) (by unfold Bd; omega) (by unfold I64; omega) (by unfold I64; omega)
  simp only [e1, e2, e3, e4, e5] at cM
  simp only [f1, f2, f3, f4, f5] at cN
  simp only [g1, g2, g3, g4, g5] at cB
  have z : ∀ s t : Int, s + t + -t = s := fun s t => by omega
  simp only [z] at cB
  refine back_core a b c d a' b' c' d' x y X Y _ _ _ _ _ _ _ _ _ _ _ _ _ _ _ _ (meetsB p.a p.b p.c p.d q.a q.b q.c q.d) (coversB p.a p.b p.c p.d q.a q.b q.c q.d) w cP cQ cX cY cM cN cB ?_ (fun w => meets1 _ _ _ _ _ _ _ _ w) ?_ (fun w => covers1 _ _ _ _ _ _ _ _ w) bX bY
  · intro w
    have := meets1 (p.a + (X - 1000)) (p.b + (Y - 1000)) (p.c + (X - 1000)) (p.d + (Y - 1000)) (q.a + (X - 1000)) (q.b + (Y - 1000)) (q.c + (X - 1000)) (q.d + (Y - 1000)) w
    rw [meets_move] at this
    exact this
  · intro w
    have := covers1 (p.a + (X - 1000)) (p.b + (Y - 1000)) (p.c + (X - 1000)) (p.d + (Y - 1000)) (q.a + (X - 1000)) (q.b + (Y - 1000)) (q.c + (X - 1000)) (q.d + (Y - 1000)) w
    rw [covers_move] at this
    exact this

set_option maxRecDepth 100000 in
theorem rectBack_lifted (os : Os) (started : os.Started) (H : Type) (enc : TypeId × Value → H) :
    ReturnsInHanded {} Try.checked os 4 .any (Rows.rectBackSpec.pre6 enc Try.prog Try.f4 Rows.rectBackRow.domain false) (Rows.rectBackSpec.post enc Try.prog Try.f4 false true false false) := by
  refine returnsInHanded_of_change (C := Try.checked) own started (by kernel_rfl) Try.func4
    (ChangeSpec.witness6 (enc := enc) (C := Try.checked) false ⟨#[], #[.agg #[.int .i64 0, .int .i64 0, .int .i64 0, .int .i64 0], .agg #[.int .i64 0, .int .i64 0, .int .i64 0, .int .i64 0], .int .i64 0, .int .i64 0], []⟩ 8 (by kernel_rfl) (by kernel_rfl) (by kernel_rfl) (by kernel_rfl)) ?_
  intro W base args ds gs before hval0 hW hcnd _
  have hval : ∀ (j : Nat) t v, Try.f4.params[j]? = some t → args[j]? = some v → Value.okWide Try.prog W .any base t v := hval0
  have hW' := hW
  obtain ⟨p, q, hA0, hV, rfl, hfz, hnd⟩ := hW
  have hA : DataW.TrodAll enc Try.prog W 0 (fun _ => true) true Try.f4.params.toList args.toList ds p := hA0
  rw [Try.params4] at hA hval
  obtain ⟨v0, vs0, d0, ds0, p0, q0, hargs, rfl, rfl, h0, r0⟩ := trodAll_cons hA
  obtain ⟨v1, vs1, d1, ds1, p1, q1, rfl, rfl, rfl, h1, r1⟩ := trodAll_cons r0
  obtain ⟨v2, vs2, d2, ds2, p2, q2, rfl, rfl, rfl, h2, r2⟩ := trodAll_cons r1
  obtain ⟨v3, vs3, d3, ds3, p3, q3, rfl, rfl, rfl, h3, r3⟩ := trodAll_cons r2
  obtain ⟨rfl, rfl, rfl⟩ := trodAll_nil r3
  obtain rfl : args = #[v0, v1, v2, v3] := by cases args; simp_all
  obtain ⟨rfl, rfl⟩ := trodVars_none hV
  obtain ⟨a0, b0, c0, d0, rfl, rfl, rfl, wa0, wb0, wc0, wd0⟩ := open_rect (hval 0 23 v0 rfl rfl) h0
  obtain ⟨a1, b1, c1, d1, rfl, rfl, rfl, wa1, wb1, wc1, wd1⟩ := open_rect (hval 1 23 v1 rfl rfl) h1
  obtain ⟨n2, rfl, rfl, rfl, wn2⟩ := open_int Try.underlying3 (hval 2 3 v2 rfl rfl) h2
  obtain ⟨n3, rfl, rfl, rfl, wn3⟩ := open_int Try.underlying3 (hval 3 3 v3 rfl rfl) h3
  clear hA0 hval0
  simp only [List.append_nil] at hW'
  refine (back1 a0 b0 c0 d0 a1 b1 c1 d1 n2 n3 W (I64.of_wf wa0) (I64.of_wf wb0) (I64.of_wf wc0) (I64.of_wf wd0) (I64.of_wf wa1) (I64.of_wf wb1) (I64.of_wf wc1) (I64.of_wf wd1) (I64.of_wf wn2) (I64.of_wf wn3)).mono fun e W' ⟨he, hg⟩ => ?_
  subst he
  exact ⟨_, rfl, close_below (pa := []) (pv := []) hW' (fun _ _ _ => (trodAll_cons_mk (shut_bool Try.underlying4 _) trodAll_mk0)) (fun sp _ => (trodAll_cons_mk (shut_rect wa0 wb0 wc0 wd0) (trodAll_cons_mk (shut_rect wa1 wb1 wc1 wd1) (trodAll_cons_mk (shut_int Try.underlying3 wn2) (trodAll_cons_mk (shut_int Try.underlying3 wn3) trodAll_mk0))))) (fun _ _ => rfl) rfl
    hg.below (ok_one (by kernel_rfl) rfl (okWide_bool_mk Try.underlying4 _))⟩

theorem rectBack_holds : Rows.RectBackSaid :=
  OpenClaim.holds_of_wide 4 Try.f4 rfl rfl rfl rfl rfl rfl rfl ⟨rfl, rfl, rfl, rfl, rfl⟩ rfl rfl rfl rfl rfl (by kernel_rfl) Try.func4 (by kernel_rfl)
    (of_decide_eq_true (by kernel_rfl)) (by unfold Func.isWrapper; first | (rw [if_pos (by decide +kernel)]; kernel_rfl) | (rw [if_neg (by decide +kernel)]; exact ⟨rfl, rfl⟩))
    (fun os started H enc _ => rectBack_lifted os started H enc)

#print axioms rectBack_holds
end Go.Proofs.Ytkmnibeggmkakaa
