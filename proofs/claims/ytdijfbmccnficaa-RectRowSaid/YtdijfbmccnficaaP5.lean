/-
  What is proved: the statement RectRow: the row of rectangles is the document's, and an order. No conditions.
-/
import Derived.Test.YtdijfbmccnficaaB1
import Derived.Test.YtdijfbmccnficaaC2
import Derived.Test.YtdijfbmccnficaaLaw
import Derived.Lib.Hide
namespace Go.Proofs.Ytdijfbmccnficaa
open Go.ChangeShapes Go.WideShapes Go.ChangeAt Go.RowKit Go.Joins Go.Sort

theorem cmpI_swap (a b : Int) : cmpI b a = - cmpI a b := by unfold cmpI; split <;> (try split) <;> (try split) <;> omega
theorem cmpR_swap (a b c d a' b' c' d' : Int) : cmpR a' b' c' d' a b c d = - cmpR a b c d a' b' c' d' := by
  unfold cmpR
  rw [cmpI_swap a a', cmpI_swap b b', cmpI_swap c c', cmpI_swap d d']
  unfold orI
  split <;> (try split) <;> (try split) <;> (try split) <;> (try split) <;> (try split) <;> omega
theorem cmpR_zero (a b c d a' b' c' d' : Int) : cmpR a b c d a' b' c' d' = 0 ↔ (a = a' ∧ b = b' ∧ c = c' ∧ d = d') := by
  unfold cmpR orI cmpI
  constructor
  · intro h
    by_cases h1 : b < b' <;> by_cases h2 : b' < b <;> by_cases h3 : a < a' <;> by_cases h4 : a' < a <;> simp [h1, h2, h3, h4] at h <;> by_cases h5 : d < d' <;> by_cases h6 : d' < d <;> simp [h5, h6] at h <;> by_cases h7 : c < c' <;> by_cases h8 : c' < c <;> simp [h7, h8] at h <;> omega
  · rintro ⟨rfl, rfl, rfl, rfl⟩; simp
theorem cmpR_le (a b c d a' b' c' d' : Int) : cmpR a b c d a' b' c' d' ≤ 0 ↔ (b < b' ∨ (b = b' ∧ (a < a' ∨ (a = a' ∧ (d < d' ∨ (d = d' ∧ c ≤ c')))))) := by
  unfold cmpR orI cmpI
  by_cases h1 : b < b'
  · simp [h1]
  · by_cases h2 : b' < b
    · simp [h1, h2]; omega
    · have : b = b' := by omega
      subst this
      by_cases h3 : a < a'
      · simp [h3]
      · by_cases h4 : a' < a
        · simp [h3, h4]; omega
        · have : a = a' := by omega
          subst this
          by_cases h5 : d < d'
          · simp [h5]
          · by_cases h6 : d' < d
            · simp [h5, h6]; omega
            · have : d = d' := by omega
              subst this
              by_cases h7 : c < c'
              · simp [h7]; omega
              · by_cases h8 : c' < c
                · simp [h7, h8]
                · simp [h7, h8]; omega
theorem cmpR_trans {a b c d a' b' c' d' a2 b2 c2 d2 : Int} (h : cmpR a b c d a' b' c' d' ≤ 0) (k : cmpR a' b' c' d' a2 b2 c2 d2 ≤ 0) : cmpR a b c d a2 b2 c2 d2 ≤ 0 := by
  rw [cmpR_le] at *
  omega

attribute [local go_sem] cell?_grow frozen?_grow nlt_r

set_option maxHeartbeats 4000000 in
theorem row1 (a b c d a' b' c' d' a2 b2 c2 d2 : Int) (w : World) (_ : I64 a) (_ : I64 b) (_ : I64 c) (_ : I64 d) (_ : I64 a') (_ : I64 b') (_ : I64 c') (_ : I64 d') (_ : I64 a2) (_ : I64 b2) (_ : I64 c2) (_ : I64 d2) :
    Calls Try.prog 7 #[.agg #[.int .i64 a, .int .i64 b, .int .i64 c, .int .i64 d], .agg #[.int .i64 a', .int .i64 b', .int .i64 c', .int .i64 d'], .agg #[.int .i64 a2, .int .i64 b2, .int .i64 c2, .int .i64 d2]] w (Rt w (.bool true)) := by
  -- the three answers, under names of their own
  have t1 := compare1 a b c d a' b' c' d'
  have t2 := compare1 a' b' c' d' a2 b2 c2 d2
  have t3 := refcompare1 a b c d a' b' c' d'
  have t4 := compare1 a' b' c' d' a b c d
  have t5 := compare1 a b c d a2 b2 c2 d2
  rw [cmpR_swap a b c d a' b' c' d'] at t4
  have hz := cmpR_zero a b c d a' b' c' d'
  have hx := cmpR_bd a b c d a' b' c' d'
  have hy := cmpR_bd a' b' c' d' a2 b2 c2 d2
  have hv := cmpR_bd a b c d a2 b2 c2 d2
  have ht := @cmpR_trans a b c d a' b' c' d' a2 b2 c2 d2
  obtain ⟨x, ex⟩ : ∃ x, x = cmpR a b c d a' b' c' d' := ⟨_, rfl⟩
  obtain ⟨y, ey⟩ : ∃ y, y = cmpR a' b' c' d' a2 b2 c2 d2 := ⟨_, rfl⟩
  obtain ⟨v, ev⟩ : ∃ v, v = cmpR a b c d a2 b2 c2 d2 := ⟨_, rfl⟩
  rw [← ex] at t1 t3 t4 hz hx ht
  rw [← ey] at t2 hy ht
  rw [← ev] at t5 hv ht
  clear ex ey ev
  obtain ⟨hx1, hx2⟩ := hx
  obtain ⟨hy1, hy2⟩ := hy
  obtain ⟨hv1, hv2⟩ := hv
  have ways : ((x = 0 ∧ a = a' ∧ b = b' ∧ c = c' ∧ d = d') ∨ (x ≠ 0 ∧ a ≠ a') ∨ (x ≠ 0 ∧ a = a' ∧ b ≠ b') ∨ (x ≠ 0 ∧ a = a' ∧ b = b' ∧ c ≠ c') ∨ (x ≠ 0 ∧ a = a' ∧ b = b' ∧ c = c' ∧ d ≠ d')) := by omega
  have ends : 0 < x ∨ (x ≤ 0 ∧ 0 < y) ∨ (x ≤ 0 ∧ y ≤ 0 ∧ v ≤ 0) := by
    by_cases h1 : 0 < x
    · exact .inl h1
    · by_cases h2 : 0 < y
      · exact .inr (.inl ⟨by omega, h2⟩)
      · exact .inr (.inr ⟨by omega, by omega, ht (by omega) (by omega)⟩)
  clear hz ht
  rcases ways with ⟨rfl, rfl, rfl, rfl, rfl⟩ | ⟨n1, n2⟩ | ⟨n1, rfl, n2⟩ | ⟨n1, rfl, rfl, n2⟩ | ⟨n1, rfl, rfl, rfl, n2⟩
  all_goals rcases ends with p1 | ⟨p1, p2⟩ | ⟨p1, p2, p3⟩
  all_goals (try (exfalso; omega))
  all_goals
    go_enter Try.func7, Try.ntmps7
    go_wp2_with fail
    refine (t1 _).mono ?_
    rintro e w' ⟨rfl, ⟨⟨m1, o1⟩, rfl⟩⟩
    go_wp2_with fail
    refine (t2 _).mono ?_
    rintro e w' ⟨rfl, g⟩
    obtain ⟨⟨m2, o2⟩, rfl⟩ := Gr.step g
    clear g
    go_wp2_with fail
    refine (t3 _).mono ?_
    rintro e w' ⟨rfl, g⟩
    obtain ⟨⟨m3, o3⟩, rfl⟩ := Gr.step g
    clear g
    go_wp2_with fail
    refine (t4 _).mono ?_
    rintro e w' ⟨rfl, g⟩
    obtain ⟨⟨m4, o4⟩, rfl⟩ := Gr.step g
    clear g
    go_wp2_with fail
    try
      (with_reducible refine (t5 _).mono ?_)
      rintro e w' ⟨rfl, g⟩
      obtain ⟨⟨m5, o5⟩, rfl⟩ := Gr.step g
      clear g
      go_wp2_with fail
    refine (lives1 _).mono ?_
    rintro e w' ⟨rfl, g⟩
    obtain ⟨⟨m6, o6⟩, rfl⟩ := Gr.step g
    clear g
    go_wp2
    go_ret
    refine Rt.bool (by simp) ?_
    repeat (first | with_reducible exact Gr.refl _ | with_reducible apply Gr.drew | with_reducible apply Gr.drewN | with_reducible apply Gr.grow | with_reducible apply Gr.alloc)

set_option maxRecDepth 100000 in
theorem rectRow_lifted (os : Os) (started : os.Started) (H : Type) (enc : TypeId × Value → H) :
    ReturnsInHanded {} Try.checked os 7 .any (Rows.rectRowSpec.pre6 enc Try.prog Try.f7 Rows.rectRowRow.domain false) (Rows.rectRowSpec.post enc Try.prog Try.f7 false true false false) := by
  refine returnsInHanded_of_change (C := Try.checked) own started (by kernel_rfl) Try.func7
    (ChangeSpec.witness6 (enc := enc) (C := Try.checked) false ⟨#[], #[.agg #[.int .i64 0, .int .i64 0, .int .i64 0, .int .i64 0], .agg #[.int .i64 0, .int .i64 0, .int .i64 0, .int .i64 0], .agg #[.int .i64 0, .int .i64 0, .int .i64 0, .int .i64 0]], []⟩ 8 (by kernel_rfl) (by kernel_rfl) (by kernel_rfl) (by kernel_rfl)) ?_
  intro W base args ds gs before hval0 hW hcnd _
  have hval : ∀ (j : Nat) t v, Try.f7.params[j]? = some t → args[j]? = some v → Value.okWide Try.prog W .any base t v := hval0
  have hW' := hW
  obtain ⟨p, q, hA0, hV, rfl, hfz, hnd⟩ := hW
  have hA : DataW.TrodAll enc Try.prog W 0 (fun _ => true) true Try.f7.params.toList args.toList ds p := hA0
  rw [Try.params7] at hA hval
  obtain ⟨v0, vs0, d0, ds0, p0, q0, hargs, rfl, rfl, h0, r0⟩ := trodAll_cons hA
  obtain ⟨v1, vs1, d1, ds1, p1, q1, rfl, rfl, rfl, h1, r1⟩ := trodAll_cons r0
  obtain ⟨v2, vs2, d2, ds2, p2, q2, rfl, rfl, rfl, h2, r2⟩ := trodAll_cons r1
  obtain ⟨rfl, rfl, rfl⟩ := trodAll_nil r2
  obtain rfl : args = #[v0, v1, v2] := by cases args; simp_all
  obtain ⟨rfl, rfl⟩ := trodVars_none hV
  obtain ⟨a0, b0, c0, d0, rfl, rfl, rfl, wa0, wb0, wc0, wd0⟩ := open_rect (hval 0 23 v0 rfl rfl) h0
  obtain ⟨a1, b1, c1, d1, rfl, rfl, rfl, wa1, wb1, wc1, wd1⟩ := open_rect (hval 1 23 v1 rfl rfl) h1
  obtain ⟨a2, b2, c2, d2, rfl, rfl, rfl, wa2, wb2, wc2, wd2⟩ := open_rect (hval 2 23 v2 rfl rfl) h2
  clear hA0 hval0
  simp only [List.append_nil] at hW'
  refine (row1 a0 b0 c0 d0 a1 b1 c1 d1 a2 b2 c2 d2 W (I64.of_wf wa0) (I64.of_wf wb0) (I64.of_wf wc0) (I64.of_wf wd0) (I64.of_wf wa1) (I64.of_wf wb1) (I64.of_wf wc1) (I64.of_wf wd1) (I64.of_wf wa2) (I64.of_wf wb2) (I64.of_wf wc2) (I64.of_wf wd2)).mono fun e W' ⟨he, hg⟩ => ?_
  subst he
  exact ⟨_, rfl, close_below (pa := []) (pv := []) hW' (fun _ _ _ => (trodAll_cons_mk (shut_bool Try.underlying4 _) trodAll_mk0)) (fun sp _ => (trodAll_cons_mk (shut_rect wa0 wb0 wc0 wd0) (trodAll_cons_mk (shut_rect wa1 wb1 wc1 wd1) (trodAll_cons_mk (shut_rect wa2 wb2 wc2 wd2) trodAll_mk0)))) (fun _ _ => rfl) rfl
    hg.below (ok_one (by kernel_rfl) rfl (okWide_bool_mk Try.underlying4 _))⟩

theorem rectRow_holds : Rows.RectRowSaid :=
  OpenClaim.holds_of_wide 7 Try.f7 rfl rfl rfl rfl rfl rfl rfl ⟨rfl, rfl, rfl, rfl, rfl⟩ rfl rfl rfl rfl rfl (by kernel_rfl) Try.func7 (by kernel_rfl)
    (of_decide_eq_true (by kernel_rfl)) (by unfold Func.isWrapper; first | (rw [if_pos (by decide +kernel)]; kernel_rfl) | (rw [if_neg (by decide +kernel)]; exact ⟨rfl, rfl⟩))
    (fun os started H enc _ => rectRow_lifted os started H enc)

#print axioms rectRow_holds
end Go.Proofs.Ytdijfbmccnficaa
