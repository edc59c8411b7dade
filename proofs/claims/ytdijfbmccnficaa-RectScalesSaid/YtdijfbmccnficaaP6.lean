/-
  What is proved: the statement RectScales: a rectangle that is scaled has a point, so many times, just if it has it. No conditions.
-/
import Derived.Test.YtdijfbmccnficaaB1
import Derived.Test.YtdijfbmccnficaaA4
import Derived.Test.YtdijfbmccnficaaM3
import Derived.Test.YtdijfbmccnficaaM6
namespace Go.Proofs.Ytdijfbmccnficaa
open Go.ChangeShapes Go.WideShapes Go.ChangeAt Go.RowKit Go.Joins Go.Sort

set_option maxHeartbeats 8000000 in
theorem scales_core (a b c d x y n X Y N q0 q1 q2 q3 s0 s1 s2 s3 : Int) (T : Bool) (w : World)
    (hG : ∀ w, Calls Try.prog 18 #[.agg #[.int .i64 a, .int .i64 b, .int .i64 c, .int .i64 d]] w (Rt w (.agg #[.int .i64 q0, .int .i64 q1, .int .i64 q2, .int .i64 q3])))
    (hN : ∀ w, Calls Try.prog 34 #[.int .i64 n, .int .i64 8] w fun e w' => e = .returned (.int .i64 N) ∧ w = w')
    (hX : ∀ w, Calls Try.prog 34 #[.int .i64 x, .int .i64 40] w fun e w' => e = .returned (.int .i64 X) ∧ w = w')
    (hY : ∀ w, Calls Try.prog 34 #[.int .i64 y, .int .i64 40] w fun e w' => e = .returned (.int .i64 Y) ∧ w = w')
    (hS : ∀ w, Calls Try.prog 28 #[.agg #[.int .i64 q0, .int .i64 q1, .int .i64 q2, .int .i64 q3], .int .i64 (1 + N)] w (Rt w (.tuple #[.agg #[.int .i64 s0, .int .i64 s1, .int .i64 s2, .int .i64 s3], .int .i64 0])))
    (h1 : ∀ w, Calls Try.prog 14 #[.agg #[.int .i64 s0, .int .i64 s1, .int .i64 s2, .int .i64 s3], .int .i64 ((X - 10) * (1 + N)), .int .i64 ((Y - 10) * (1 + N))] w (Rt w (.bool T)))
    (h2 : ∀ w, Calls Try.prog 15 #[.agg #[.int .i64 q0, .int .i64 q1, .int .i64 q2, .int .i64 q3], .int .i64 (X - 10), .int .i64 (Y - 10)] w (Rt w (.bool T)))
    (h3 : ∀ w, Calls Try.prog 14 #[.agg #[.int .i64 s0, .int .i64 s1, .int .i64 s2, .int .i64 s3], .int .i64 ((X - 10) * (1 + N) + (1 + N) - 1), .int .i64 ((Y - 10) * (1 + N) + (1 + N) - 1)] w (Rt w (.bool T)))
    (bN : 0 ≤ N ∧ N < 8) (bX : 0 ≤ X ∧ X < 40) (bY : 0 ≤ Y ∧ Y < 40) (b1 : -1000 ≤ (X - 10) * (1 + N) ∧ (X - 10) * (1 + N) ≤ 1000) (b2 : -1000 ≤ (Y - 10) * (1 + N) ∧ (Y - 10) * (1 + N) ≤ 1000) :
    Calls Try.prog 8 #[.agg #[.int .i64 a, .int .i64 b, .int .i64 c, .int .i64 d], .int .i64 x, .int .i64 y, .int .i64 n] w (Rt w (.bool true)) := by
  have mixed : Try.prog.follows .mixedOrders = true := by kernel_rfl
  have L := lives1
  obtain ⟨bN1, bN2⟩ := bN
  obtain ⟨bX1, bX2⟩ := bX
  obtain ⟨bY1, bY2⟩ := bY
  obtain ⟨b11, b12⟩ := b1
  obtain ⟨b21, b22⟩ := b2
  go_enter Try.func8, Try.ntmps8
  go_wp2_with fail
  refine (hG _).mono ?_
  rintro e W1 ⟨rfl, g1⟩
  go_wp2_with fail
  refine (hN _).mono ?_
  rintro e w' ⟨rfl, rfl⟩
  go_wp2_with fail
  refine (hX _).mono ?_
  rintro e w' ⟨rfl, rfl⟩
  go_wp2_with fail
  refine (hY _).mono ?_
  rintro e w' ⟨rfl, rfl⟩
  go_wp2_with fail
  refine (hS _).mono ?_
  rintro e W2 ⟨rfl, g2⟩
  have G := ((At.new W1 _ _).gr g2).alloc (.cells #[Value.int .i64 s0, .int .i64 s1, .int .i64 s2, .int .i64 s3] 23)
  have B := At.new W2 #[Value.int .i64 s0, .int .i64 s1, .int .i64 s2, .int .i64 s3] 23
  have kG := ((At.new W1 _ _).gr g2).cell
  have lG := ((At.new W1 _ _).gr g2).lt
  clear hG hN hX hY hS
  go_wp2
  clear kG lG
  have pG := G.cells
  have pB := B.cells
  refine wp_region_quiet_grown (by assumption) (by kernel_rfl) ?_
  repeat (first | go_big_quiet_step ((first | (go_at_call 15; exact Calls.grown (h2 _)) | (go_at_call 16; exact Calls.grown (L _)) | (go_at_call 14; with_reducible exact Calls.grown (h1 _)) | (go_at_call 14; with_reducible exact Calls.grown (h3 _)))) | quiet_step ((first | (go_at_call 15; exact Calls.grown (h2 _)) | (go_at_call 16; exact Calls.grown (L _)) | (go_at_call 14; with_reducible exact Calls.grown (h1 _)) | (go_at_call 14; with_reducible exact Calls.grown (h3 _)))))
  refine wpQuiet_nil ?_
  intro W9 g9
  replace g9 : Gr _ W9 := g9
  go_wp2
  go_ret
  refine Rt.bool (by simp) ?_
  exact ((((((Gr.refl w).alloc _).trans g1).alloc _).trans g2).alloc _).trans g9

/-- A point, so many times. -/
theorem has_scale {p k u v : Int} (hk : 1 ≤ k) (e : Int) (h0 : 0 ≤ e) (h1 : e ≤ k - 1) : (k * u ≤ p * k + e ↔ u ≤ p) ∧ (p * k + e < k * v ↔ p < v) := by
  constructor
  · constructor
    · intro h
      rcases Int.lt_or_le p u with h2 | h2
      · exfalso
        have : k * (p + 1) ≤ k * u := Int.mul_le_mul_of_nonneg_left (by omega) (by omega)
        rw [Int.mul_add, Int.mul_comm k p] at this
        omega
      · exact h2
    · intro h
      have : k * u ≤ k * p := Int.mul_le_mul_of_nonneg_left h (by omega)
      rw [Int.mul_comm k p] at this
      omega
  · constructor
    · intro h
      rcases Int.lt_or_le p v with h2 | h2
      · exact h2
      · exfalso
        have : k * v ≤ k * p := Int.mul_le_mul_of_nonneg_left h2 (by omega)
        rw [Int.mul_comm k p] at this
        omega
    · intro h
      have : k * (p + 1) ≤ k * v := Int.mul_le_mul_of_nonneg_left (by omega) (by omega)
      rw [Int.mul_add, Int.mul_comm k p] at this
      omega

theorem has_scaled {a b c d x y k : Int} (hk : 1 ≤ k) (e : Int) (h0 : 0 ≤ e) (h1 : e ≤ k - 1) : hasB (k * a) (k * b) (k * c) (k * d) (x * k + e) (y * k + e) = hasB a b c d x y := by
  unfold hasB
  have hx := has_scale (p := x) (u := a) (v := c) hk e h0 h1
  have hy := has_scale (p := y) (u := b) (v := d) hk e h0 h1
  simp only [hx.1, hx.2, hy.1, hy.2]

theorem scales1 (a b c d x y n : Int) (w : World) (ha : I64 a) (hb : I64 b) (hc : I64 c) (hd : I64 d) (hx : I64 x) (hy : I64 y) (hn : I64 n) :
    Calls Try.prog 8 #[.agg #[.int .i64 a, .int .i64 b, .int .i64 c, .int .i64 d], .int .i64 x, .int .i64 y, .int .i64 n] w (Rt w (.bool true)) := by
  have bN := around_bd n 8 (by omega)
  have bX := around_bd x 40 (by omega)
  have bY := around_bd y 40 (by omega)
  have bs := small_bd a b c d
  obtain ⟨N, eN⟩ : ∃ N, N = around n 8 := ⟨_, rfl⟩
  obtain ⟨X, eX⟩ : ∃ X, X = around x 40 := ⟨_, rfl⟩
  obtain ⟨Y, eY⟩ : ∃ Y, Y = around y 40 := ⟨_, rfl⟩
  obtain ⟨q, eq⟩ : ∃ q, q = smallR a b c d := ⟨_, rfl⟩
  have cN := fun w => around1 n 8 w hn (by omega)
  have cX := fun w => around1 x 40 w hx (by omega)
  have cY := fun w => around1 y 40 w hy (by omega)
  have cG := fun w => small1 a b c d w ha hb hc hd
  rw [← eN] at bN
  rw [← eX] at bX
  rw [← eY] at bY
  simp only [← eN] at cN
  simp only [← eX] at cX
  simp only [← eY] at cY
  simp only [← eq] at cG bs
  clear eN eX eY eq
  have hm : mayB q.a q.b q.c q.d = true := by simp only [mayB, decide_eq_true_eq]; omega
  have hk : 1 ≤ 1 + N ∧ 1 + N ≤ 8 := by omega
  have u : ∀ z : Int, -4 ≤ z → z ≤ 31 → -32 ≤ (1 + N) * z ∧ (1 + N) * z ≤ 248 := fun z h1 h2 => by
    have e1 : (1 + N) * z ≤ (1 + N) * 31 := Int.mul_le_mul_of_nonneg_left h2 (by omega)
    have e2 : (1 + N) * (-4) ≤ (1 + N) * z := Int.mul_le_mul_of_nonneg_left h1 (by omega)
    omega
  have mono : ∀ z z' : Int, z ≤ z' → (1 + N) * z ≤ (1 + N) * z' := fun z z' h => Int.mul_le_mul_of_nonneg_left h (by omega)
  have hms : mayB ((1 + N) * q.a) ((1 + N) * q.b) ((1 + N) * q.c) ((1 + N) * q.d) = true := by
    have u1 := u q.a (by omega) (by omega)
    have u2 := u q.b (by omega) (by omega)
    have u3 := u q.c (by omega) (by omega)
    have u4 := u q.d (by omega) (by omega)
    have m1 := mono q.a q.c (by omega)
    have m2 := mono q.b q.d (by omega)
    simp only [mayB, decide_eq_true_eq]
    omega
  have hB : scaleB q.a q.b q.c q.d (1 + N) = true := by unfold scaleB; rw [hm, hms]; rfl
  obtain ⟨e1, e2, e3, e4, e5⟩ := scaleR_t hk hB
  have cS := fun w => scale1 q.a q.b q.c q.d (1 + N) w (by unfold I64; omega)
  simp only [e1, e2, e3, e4, e5] at cS
  have v : ∀ z : Int, -10 ≤ z → z ≤ 30 → -1000 ≤ z * (1 + N) ∧ z * (1 + N) ≤ 1000 := fun z h1 h2 => by
    have e1 : (1 + N) * z ≤ (1 + N) * 30 := Int.mul_le_mul_of_nonneg_left h2 (by omega)
    have e2 : (1 + N) * (-10) ≤ (1 + N) * z := Int.mul_le_mul_of_nonneg_left h1 (by omega)
    rw [Int.mul_comm z]
    omega
  refine scales_core a b c d x y n X Y N _ _ _ _ _ _ _ _ (hasB q.a q.b q.c q.d (X - 10) (Y - 10)) w cG cN cX cY cS ?_ (fun w => refhas1 _ _ _ _ _ _ w) ?_ bN bX bY (v _ (by omega) (by omega)) (v _ (by omega) (by omega))
  · intro w
    have := has1 ((1 + N) * q.a) ((1 + N) * q.b) ((1 + N) * q.c) ((1 + N) * q.d) ((X - 10) * (1 + N)) ((Y - 10) * (1 + N)) w
    have e := has_scaled (a := q.a) (b := q.b) (c := q.c) (d := q.d) (x := X - 10) (y := Y - 10) hk.1 0 (by omega) (by omega)
    rw [Int.add_zero, Int.add_zero] at e
    rw [e] at this
    exact this
  · intro w
    have := has1 ((1 + N) * q.a) ((1 + N) * q.b) ((1 + N) * q.c) ((1 + N) * q.d) ((X - 10) * (1 + N) + (1 + N) - 1) ((Y - 10) * (1 + N) + (1 + N) - 1) w
    have e := has_scaled (a := q.a) (b := q.b) (c := q.c) (d := q.d) (x := X - 10) (y := Y - 10) hk.1 ((1 + N) - 1) (by omega) (by omega)
    rw [show (X - 10) * (1 + N) + ((1 + N) - 1) = (X - 10) * (1 + N) + (1 + N) - 1 from by omega, show (Y - 10) * (1 + N) + ((1 + N) - 1) = (Y - 10) * (1 + N) + (1 + N) - 1 from by omega] at e
    rw [e] at this
    exact this

set_option maxRecDepth 100000 in
theorem rectScales_lifted (os : Os) (started : os.Started) (H : Type) (enc : TypeId × Value → H) :
    ReturnsInHanded {} Try.checked os 8 .any (Rows.rectScalesSpec.pre6 enc Try.prog Try.f8 Rows.rectScalesRow.domain false) (Rows.rectScalesSpec.post enc Try.prog Try.f8 false true false false) := by
  refine returnsInHanded_of_change (C := Try.checked) own started (by kernel_rfl) Try.func8
    (ChangeSpec.witness6 (enc := enc) (C := Try.checked) false ⟨#[], #[.agg #[.int .i64 0, .int .i64 0, .int .i64 0, .int .i64 0], .int .i64 0, .int .i64 0, .int .i64 0], []⟩ 8 (by kernel_rfl) (by kernel_rfl) (by kernel_rfl) (by kernel_rfl)) ?_
  intro W base args ds gs before hval0 hW hcnd _
  have hval : ∀ (j : Nat) t v, Try.f8.params[j]? = some t → args[j]? = some v → Value.okWide Try.prog W .any base t v := hval0
  have hW' := hW
  obtain ⟨p, q, hA0, hV, rfl, hfz, hnd⟩ := hW
  have hA : DataW.TrodAll enc Try.prog W 0 (fun _ => true) true Try.f8.params.toList args.toList ds p := hA0
  rw [Try.params8] at hA hval
  obtain ⟨v0, vs0, d0, ds0, p0, q0, hargs, rfl, rfl, h0, r0⟩ := trodAll_cons hA
  obtain ⟨v1, vs1, d1, ds1, p1, q1, rfl, rfl, rfl, h1, r1⟩ := trodAll_cons r0
  obtain ⟨v2, vs2, d2, ds2, p2, q2, rfl, rfl, rfl, h2, r2⟩ := trodAll_cons r1
  obtain ⟨v3, vs3, d3, ds3, p3, q3, rfl, rfl, rfl, h3, r3⟩ := trodAll_cons r2
  obtain ⟨rfl, rfl, rfl⟩ := trodAll_nil r3
  obtain rfl : args = #[v0, v1, v2, v3] := by cases args; simp_all
  obtain ⟨rfl, rfl⟩ := trodVars_none hV
  obtain ⟨a0, b0, c0, d0, rfl, rfl, rfl, wa0, wb0, wc0, wd0⟩ := open_rect (hval 0 23 v0 rfl rfl) h0
  obtain ⟨n1, rfl, rfl, rfl, wn1⟩ := open_int Try.underlying3 (hval 1 3 v1 rfl rfl) h1
  obtain ⟨n2, rfl, rfl, rfl, wn2⟩ := open_int Try.underlying3 (hval 2 3 v2 rfl rfl) h2
  obtain ⟨n3, rfl, rfl, rfl, wn3⟩ := open_int Try.underlying3 (hval 3 3 v3 rfl rfl) h3
  clear hA0 hval0
  simp only [List.append_nil] at hW'
  refine (scales1 a0 b0 c0 d0 n1 n2 n3 W (I64.of_wf wa0) (I64.of_wf wb0) (I64.of_wf wc0) (I64.of_wf wd0) (I64.of_wf wn1) (I64.of_wf wn2) (I64.of_wf wn3)).mono fun e W' ⟨he, hg⟩ => ?_
  subst he
  exact ⟨_, rfl, close_below (pa := []) (pv := []) hW' (fun _ _ _ => (trodAll_cons_mk (shut_bool Try.underlying4 _) trodAll_mk0)) (fun sp _ => (trodAll_cons_mk (shut_rect wa0 wb0 wc0 wd0) (trodAll_cons_mk (shut_int Try.underlying3 wn1) (trodAll_cons_mk (shut_int Try.underlying3 wn2) (trodAll_cons_mk (shut_int Try.underlying3 wn3) trodAll_mk0))))) (fun _ _ => rfl) rfl
    hg.below (ok_one (by kernel_rfl) rfl (okWide_bool_mk Try.underlying4 _))⟩

theorem rectScales_holds : Rows.RectScalesSaid :=
  OpenClaim.holds_of_wide 8 Try.f8 rfl rfl rfl rfl rfl rfl rfl ⟨rfl, rfl, rfl, rfl, rfl⟩ rfl rfl rfl rfl rfl (by kernel_rfl) Try.func8 (by kernel_rfl)
    (of_decide_eq_true (by kernel_rfl)) (by unfold Func.isWrapper; first | (rw [if_pos (by decide +kernel)]; kernel_rfl) | (rw [if_neg (by decide +kernel)]; exact ⟨rfl, rfl⟩))
    (fun os started H enc _ => rectScales_lifted os started H enc)

#print axioms rectScales_holds
end Go.Proofs.Ytdijfbmccnficaa
