/-
  What is proved: the statement ColorCovers: what is solid covers; what has no alpha shows all; what is faded by 255 is as it was, by 0 nothing. No conditions.
-/
import Derived.Test.YtcohmcnhochimaaCm
import Derived.Test.YtcohmcnhochimaaLawC
namespace Go.Proofs.Ytcohmcnhochimaa
open Go.ChangeShapes Go.WideShapes Go.ChangeAt Go.RowKit Go.Joins Go.Sort

attribute [local go_sem ↓] run_min2 run_max2

set_option maxHeartbeats 2000000 in
theorem covers_core (c d : Int) (w : World) (hc : U32 c) (hd : U32 d) : Calls Try.prog 6 #[.int .u32 c, .int .u32 d] w (Rt w (.bool true)) := by
  have G := Gr.refl w
  have cx := fun w => good1 c w hc
  have cy := fun w => good1 d w hd
  have hx := gd_c32 c
  have hy := gd_c32 d
  generalize gd c = x at *
  generalize gd d = y at *
  have cp := fun w => refparts1 x w hx
  have cs := refmake1 255 (pR x) (pG x) (pB x)
  have c1 := fun w => over1 (mk 255 (pR x) (pG x) (pB x)) y w (mk_c32 _ _ _ _) hy
  rw [ov_solid y (pR_by x) (pG_by x) (pB_by x)] at c1
  have c2 := fun w => over1 0 y w (by unfold C32; omega) hy
  rw [ov_clear hy] at c2
  have c3 := fun w => over1 x 0 w hx (by unfold C32; omega)
  rw [ov_none hx] at c3
  have c4 := fun w => fade1 x 255 w hx
  rw [fd_all hx] at c4
  have c5 := fun w => fade1 x 0 w hx
  rw [fd_none] at c5
  generalize mk 255 (pR x) (pG x) (pB x) = s at *
  generalize pA x = a at *; generalize pR x = r at *; generalize pG x = g' at *; generalize pB x = b at *
  clear hc hd hx hy
  go_enter Try.func6, Try.ntmps6
  go_wp2_with fail
  refine (cx _).mono ?_
  rintro e w1 ⟨rfl, g⟩
  replace G := G.trans g
  clear g
  go_wp2_with fail
  refine (cy _).mono ?_
  rintro e w2 ⟨rfl, g⟩
  replace G := G.trans g
  clear g
  go_wp2_with fail
  refine (cp _).mono ?_
  rintro e w3 ⟨rfl, g⟩
  replace G := G.trans g
  clear g
  replace G := G.alloc (.cells #[.int .i64 a, .int .i64 r, .int .i64 g', .int .i64 b] 24)
  go_wp2_with fail
  refine (cs _).mono ?_
  rintro e w4 ⟨rfl, g⟩
  replace G := G.trans g
  clear g
  go_wp2_with fail
  refine (c1 _).mono ?_
  rintro e w5 ⟨rfl, g⟩
  replace G := G.trans g
  clear g
  go_wp2_with fail
  refine (c2 _).mono ?_
  rintro e w6 ⟨rfl, g⟩
  replace G := G.trans g
  clear g
  go_wp2_with fail
  refine (c3 _).mono ?_
  rintro e w7 ⟨rfl, g⟩
  replace G := G.trans g
  clear g
  go_wp2_with fail
  refine (c4 _).mono ?_
  rintro e w8 ⟨rfl, g⟩
  replace G := G.trans g
  clear g
  go_wp2_with fail
  refine (c5 _).mono ?_
  rintro e w9 ⟨rfl, g⟩
  replace G := G.trans g
  clear g
  go_wp2_with fail
  refine (lives1 _).mono ?_
  rintro e w10 ⟨rfl, g⟩
  replace G := G.trans g
  clear g
  go_wp2
  go_ret
  exact ⟨rfl, G⟩

set_option maxRecDepth 100000 in
theorem colorCovers_lifted (os : Os) (started : os.Started) (H : Type) (enc : TypeId × Value → H) :
    ReturnsInHanded {} Try.checked os 6 .any (Rows.colorCoversSpec.pre6 enc Try.prog Try.f6 Rows.colorCoversRow.domain false) (Rows.colorCoversSpec.post enc Try.prog Try.f6 false true false false) := by
  refine returnsInHanded_of_change (C := Try.checked) own started (by kernel_rfl) Try.func6
    (ChangeSpec.witness6 (enc := enc) (C := Try.checked) false ⟨#[], #[.int .u32 0, .int .u32 0], []⟩ 8 (by kernel_rfl) (by kernel_rfl) (by kernel_rfl) (by kernel_rfl)) ?_
  intro W base args ds gs before hval0 hW hcnd _
  have hval : ∀ (j : Nat) t v, Try.f6.params[j]? = some t → args[j]? = some v → Value.okWide Try.prog W .any base t v := hval0
  have hW' := hW
  obtain ⟨p, q, hA0, hV, rfl, hfz, hnd⟩ := hW
  have hA : DataW.TrodAll enc Try.prog W 0 (fun _ => true) true Try.f6.params.toList args.toList ds p := hA0
  rw [Try.params6] at hA hval
  obtain ⟨v0, vs0, d0, ds0, p0, q0, hargs, rfl, rfl, h0, r0⟩ := trodAll_cons hA
  obtain ⟨v1, vs1, d1, ds1, p1, q1, rfl, rfl, rfl, h1, r1⟩ := trodAll_cons r0
  obtain ⟨rfl, rfl, rfl⟩ := trodAll_nil r1
  obtain rfl : args = #[v0, v1] := by cases args; simp_all
  obtain ⟨rfl, rfl⟩ := trodVars_none hV
  obtain ⟨n0, rfl, rfl, rfl, wn0⟩ := open_int Try.underlying23 (hval 0 23 v0 rfl rfl) h0
  obtain ⟨n1, rfl, rfl, rfl, wn1⟩ := open_int Try.underlying23 (hval 1 23 v1 rfl rfl) h1
  clear hA0 hval0
  simp only [List.append_nil] at hW'
  refine (covers_core n0 n1 W (U32.of_wf wn0) (U32.of_wf wn1)).mono fun e W' ⟨he, hg⟩ => ?_
  subst he
  exact ⟨_, rfl, close_below (pa := []) (pv := []) hW' (fun _ _ _ => (trodAll_cons_mk (shut_bool Try.underlying4 _) trodAll_mk0)) (fun sp _ => (trodAll_cons_mk (shut_int Try.underlying23 wn0) (trodAll_cons_mk (shut_int Try.underlying23 wn1) trodAll_mk0))) (fun _ _ => rfl) rfl
    hg.below (ok_one (by kernel_rfl) rfl (okWide_bool_mk Try.underlying4 _))⟩

theorem colorCovers_holds : Rows.ColorCoversSaid :=
  OpenClaim.holds_of_wide 6 Try.f6 rfl rfl rfl rfl rfl rfl rfl ⟨rfl, rfl, rfl, rfl, rfl⟩ rfl rfl rfl rfl rfl (by kernel_rfl) Try.func6 (by kernel_rfl)
    (of_decide_eq_true (by kernel_rfl)) (by unfold Func.isWrapper; first | (rw [if_pos (by decide +kernel)]; kernel_rfl) | (rw [if_neg (by decide +kernel)]; exact ⟨rfl, rfl⟩))
    (fun os started H enc _ => colorCovers_lifted os started H enc)

#print axioms colorCovers_holds

end Go.Proofs.Ytcohmcnhochimaa
