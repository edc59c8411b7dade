/-
  What is proved: the statement RectPoints: which rectangles may be, are empty, and have a point, is told as the document says. No conditions.
-/
import Derived.Test.YtdijfbmccnficaaB1
import Derived.Test.YtdijfbmccnficaaLaw
namespace Go.Proofs.Ytdijfbmccnficaa
open Go.ChangeShapes Go.WideShapes Go.ChangeAt Go.RowKit Go.Joins Go.Sort

attribute [local go_sem] cell?_grow frozen?_grow nlt_r

theorem pt_of {a b c d x y : Int} (e : emptyB a b c d = true) : hasB a b c d x y = false := by
  simp [emptyB] at e
  simp [hasB]
  omega

set_option maxHeartbeats 2000000 in
theorem points1 (a b c d x y : Int) (w : World) :
    Calls Try.prog 3 #[.agg #[.int .i64 a, .int .i64 b, .int .i64 c, .int .i64 d], .int .i64 x, .int .i64 y] w (Rt w (.bool true)) := by
  have mixed : Try.prog.follows .mixedOrders = true := by kernel_rfl
  have c1 := may1 a b c d
  have c2 := refmay1 a b c d
  have c3 := empty1 a b c d
  have c4 := refempty1 a b c d
  have c5 := has1 a b c d x y
  have c6 := refhas1 a b c d x y
  by_cases e : emptyB a b c d = true
  · have h := pt_of (x := x) (y := y) e
    rw [e] at c3 c4
    rw [h] at c5 c6
    go_enter Try.func3, Try.ntmps3
    go_wp2
    go_quiet_grown (first | (go_at_call 10; exact Calls.grown (c1 _)) | (go_at_call 11; exact Calls.grown (c2 _)) | (go_at_call 12; exact Calls.grown (c3 _)) | (go_at_call 13; exact Calls.grown (c4 _)) | (go_at_call 14; exact Calls.grown (c5 _)) | (go_at_call 15; exact Calls.grown (c6 _)) | (go_at_call 16; exact Calls.grown (lives1 _)))
    go_wp2
    go_ret
    refine Rt.bool (by simp) ?_
    repeat (first | with_reducible exact Gr.refl _ | with_reducible apply Gr.drew | with_reducible apply Gr.drewN | with_reducible apply Gr.grow | with_reducible apply Gr.alloc)
  · simp only [Bool.not_eq_true] at e
    rw [e] at c3 c4
    go_enter Try.func3, Try.ntmps3
    go_wp2
    go_quiet_grown (first | (go_at_call 10; exact Calls.grown (c1 _)) | (go_at_call 11; exact Calls.grown (c2 _)) | (go_at_call 12; exact Calls.grown (c3 _)) | (go_at_call 13; exact Calls.grown (c4 _)) | (go_at_call 14; exact Calls.grown (c5 _)) | (go_at_call 15; exact Calls.grown (c6 _)) | (go_at_call 16; exact Calls.grown (lives1 _)))
    go_wp2
    go_ret
    refine Rt.bool (by simp) ?_
    repeat (first | with_reducible exact Gr.refl _ | with_reducible apply Gr.drew | with_reducible apply Gr.drewN | with_reducible apply Gr.grow | with_reducible apply Gr.alloc)

theorem points2 (a b c d x y : Int) (w : World) (_ : I64 a) (_ : I64 b) (_ : I64 c) (_ : I64 d) (_ : I64 x) (_ : I64 y) :
    Calls Try.prog 3 #[.agg #[.int .i64 a, .int .i64 b, .int .i64 c, .int .i64 d], .int .i64 x, .int .i64 y] w (Rt w (.bool true)) := points1 a b c d x y w

set_option maxRecDepth 100000 in
theorem rectPoints_lifted (os : Os) (started : os.Started) (H : Type) (enc : TypeId × Value → H) :
    ReturnsInHanded {} Try.checked os 3 .any (Rows.rectPointsSpec.pre6 enc Try.prog Try.f3 Rows.rectPointsRow.domain false) (Rows.rectPointsSpec.post enc Try.prog Try.f3 false true false false) := by
  refine returnsInHanded_of_change (C := Try.checked) own started (by kernel_rfl) Try.func3
    (ChangeSpec.witness6 (enc := enc) (C := Try.checked) false ⟨#[], #[.agg #[.int .i64 0, .int .i64 0, .int .i64 0, .int .i64 0], .int .i64 0, .int .i64 0], []⟩ 8 (by kernel_rfl) (by kernel_rfl) (by kernel_rfl) (by kernel_rfl)) ?_
  intro W base args ds gs before hval0 hW hcnd _
  have hval : ∀ (j : Nat) t v, Try.f3.params[j]? = some t → args[j]? = some v → Value.okWide Try.prog W .any base t v := hval0
  have hW' := hW
  obtain ⟨p, q, hA0, hV, rfl, hfz, hnd⟩ := hW
  have hA : DataW.TrodAll enc Try.prog W 0 (fun _ => true) true Try.f3.params.toList args.toList ds p := hA0
  rw [Try.params3] at hA hval
  obtain ⟨v0, vs0, d0, ds0, p0, q0, hargs, rfl, rfl, h0, r0⟩ := trodAll_cons hA
  obtain ⟨v1, vs1, d1, ds1, p1, q1, rfl, rfl, rfl, h1, r1⟩ := trodAll_cons r0
  obtain ⟨v2, vs2, d2, ds2, p2, q2, rfl, rfl, rfl, h2, r2⟩ := trodAll_cons r1
  obtain ⟨rfl, rfl, rfl⟩ := trodAll_nil r2
  obtain rfl : args = #[v0, v1, v2] := by cases args; simp_all
  obtain ⟨rfl, rfl⟩ := trodVars_none hV
  obtain ⟨a0, b0, c0, d0, rfl, rfl, rfl, wa0, wb0, wc0, wd0⟩ := open_rect (hval 0 23 v0 rfl rfl) h0
  obtain ⟨n1, rfl, rfl, rfl, wn1⟩ := open_int Try.underlying3 (hval 1 3 v1 rfl rfl) h1
  obtain ⟨n2, rfl, rfl, rfl, wn2⟩ := open_int Try.underlying3 (hval 2 3 v2 rfl rfl) h2
  clear hA0 hval0
  simp only [List.append_nil] at hW'
  refine (points2 a0 b0 c0 d0 n1 n2 W (I64.of_wf wa0) (I64.of_wf wb0) (I64.of_wf wc0) (I64.of_wf wd0) (I64.of_wf wn1) (I64.of_wf wn2)).mono fun e W' ⟨he, hg⟩ => ?_
  subst he
  exact ⟨_, rfl, close_below (pa := []) (pv := []) hW' (fun _ _ _ => (trodAll_cons_mk (shut_bool Try.underlying4 _) trodAll_mk0)) (fun sp _ => (trodAll_cons_mk (shut_rect wa0 wb0 wc0 wd0) (trodAll_cons_mk (shut_int Try.underlying3 wn1) (trodAll_cons_mk (shut_int Try.underlying3 wn2) trodAll_mk0)))) (fun _ _ => rfl) rfl
    hg.below (ok_one (by kernel_rfl) rfl (okWide_bool_mk Try.underlying4 _))⟩

theorem rectPoints_holds : Rows.RectPointsSaid :=
  OpenClaim.holds_of_wide 3 Try.f3 rfl rfl rfl rfl rfl rfl rfl ⟨rfl, rfl, rfl, rfl, rfl⟩ rfl rfl rfl rfl rfl (by kernel_rfl) Try.func3 (by kernel_rfl)
    (of_decide_eq_true (by kernel_rfl)) (by unfold Func.isWrapper; first | (rw [if_pos (by decide +kernel)]; kernel_rfl) | (rw [if_neg (by decide +kernel)]; exact ⟨rfl, rfl⟩))
    (fun os started H enc _ => rectPoints_lifted os started H enc)

#print axioms rectPoints_holds
end Go.Proofs.Ytdijfbmccnficaa
