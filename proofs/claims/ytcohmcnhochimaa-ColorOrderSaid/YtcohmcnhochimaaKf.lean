/-
  What is proved: the statement ColorOrder: a part of a part grows with both; so does what a color is over another one, with that one. No conditions.
-/
import Derived.Test.YtcohmcnhochimaaCm
import Derived.Test.YtcohmcnhochimaaLawC
import Derived.Deep.QuietTactic
import Derived.BigQuiet
namespace Go.Proofs.Ytcohmcnhochimaa
open Go.ChangeShapes Go.WideShapes Go.ChangeAt Go.RowKit Go.Joins Go.Sort

attribute [local go_sem ↓] run_min2 run_max2

set_option maxRecDepth 100000 in
set_option maxHeartbeats 4000000 in
theorem order_core (p q r c : Int) (w : World) (hc : U32 c) : Calls Try.prog 9 #[.int .i64 p, .int .i64 q, .int .i64 r, .int .u32 c] w (Rt w (.bool true)) := by
  have G := Gr.refl w
  have cg := fun w => good1 c w hc
  have hn := gd_c32 c
  generalize gd c = n at *
  have le := ov_grows n (show min (max (min q r) 0) 255 ≤ min (max q (max r 0)) 255 from by omega)
  have cm1 := refmake1 255 (min (max (min q r) 0) 255) (min (max (min q r) 0) 255) (min (max (min q r) 0) 255)
  have cm2 := refmake1 255 (min (max q (max r 0)) 255) (min (max q (max r 0)) 255) (min (max q (max r 0)) 255)
  have h1 := mk_c32 255 (min (max (min q r) 0) 255) (min (max (min q r) 0) 255) (min (max (min q r) 0) 255)
  have h2 := mk_c32 255 (min (max q (max r 0)) 255) (min (max q (max r 0)) 255) (min (max q (max r 0)) 255)
  generalize mk 255 (min (max (min q r) 0) 255) (min (max (min q r) 0) 255) (min (max (min q r) 0) 255) = s1 at *
  generalize mk 255 (min (max q (max r 0)) 255) (min (max q (max r 0)) 255) (min (max q (max r 0)) 255) = s2 at *
  have co1 := fun w => over1 n s1 w hn h1
  have co2 := fun w => over1 n s2 w hn h2
  have i1 := ov_c32 n s1
  have i2 := ov_c32 n s2
  generalize ov n s1 = o1 at *
  generalize ov n s2 = o2 at *
  have cp1 := fun w => parts1 o1 w i1
  have cp2 := fun w => parts1 o2 w i2
  obtain ⟨l0, l1, l2, l3⟩ := le
  generalize pA o1 = x0 at *; generalize pR o1 = x1 at *; generalize pG o1 = x2 at *; generalize pB o1 = x3 at *
  generalize pA o2 = y0 at *; generalize pR o2 = y1 at *; generalize pG o2 = y2 at *; generalize pB o2 = y3 at *
  have f1 := part1 p (min q r)
  have f2 := part1 p (max q r)
  have lp := pt_mono_r p (show min q r ≤ max q r from by omega)
  generalize pt p (min q r) = u1 at *
  generalize pt p (max q r) = u2 at *
  clear hc hn h1 h2 i1 i2
  go_enter Try.func9, Try.ntmps9
  go_wp2_with fail
  with_reducible refine (cg _).mono ?_
  rintro e w1 ⟨rfl, g⟩
  replace G := G.trans g
  clear g
  go_wp2_with fail
  with_reducible refine (cm1 _).mono ?_
  rintro e w2 ⟨rfl, g⟩
  replace G := G.trans g
  clear g
  go_wp2_with fail
  with_reducible refine (co1 _).mono ?_
  rintro e w3 ⟨rfl, g⟩
  replace G := G.trans g
  clear g
  go_wp2_with fail
  with_reducible refine (cp1 _).mono ?_
  rintro e w4 ⟨rfl, g⟩
  replace G := G.trans g
  clear g
  have X := At.new w4 #[.int .i64 x0, .int .i64 x1, .int .i64 x2, .int .i64 x3] 24
  replace G := G.alloc (.cells #[.int .i64 x0, .int .i64 x1, .int .i64 x2, .int .i64 x3] 24)
  go_wp2_with fail
  with_reducible refine (cm2 _).mono ?_
  rintro e w5 ⟨rfl, g⟩
  replace X := X.gr g
  replace G := G.trans g
  clear g
  go_wp2_with fail
  with_reducible refine (co2 _).mono ?_
  rintro e w6 ⟨rfl, g⟩
  replace X := X.gr g
  replace G := G.trans g
  clear g
  go_wp2_with fail
  with_reducible refine (cp2 _).mono ?_
  rintro e w7 ⟨rfl, g⟩
  replace X := X.gr g
  replace G := G.trans g
  clear g
  have Y := At.new w7 #[.int .i64 y0, .int .i64 y1, .int .i64 y2, .int .i64 y3] 24
  replace X := X.alloc (.cells #[.int .i64 y0, .int .i64 y1, .int .i64 y2, .int .i64 y3] 24)
  replace G := G.alloc (.cells #[.int .i64 y0, .int .i64 y1, .int .i64 y2, .int .i64 y3] 24)
  clear cg cm1 cm2 co1 co2 cp1 cp2
  go_wp2
  obtain ⟨V0, hV⟩ : ∃ V, V = w7.alloc (.cells #[.int .i64 y0, .int .i64 y1, .int .i64 y2, .int .i64 y3] 24) := ⟨_, rfl⟩
  rw [← hV] at X Y G ⊢
  clear hV
  refine wp_loop_rounds 5 ?_
  have jx := fun n os => X.cells n os 0
  have jy := fun n os => Y.cells n os 0
  simp at jx jy
  rw [rounds_succ]; go_wp2
  refine wp_region_quiet_grown (by kernel_rfl) (by kernel_rfl) ?_
  repeat (first | go_big_quiet_step (fail) | quiet_step (fail))
  refine wpQuiet_nil ?_
  intro V1 g8
  replace g8 : Gr _ V1 := g8
  replace X := X.gr g8
  replace Y := Y.gr g8
  replace G := G.trans g8
  clear g8 jx jy
  go_wp2
  have jx := fun n os => X.cells n os 1
  have jy := fun n os => Y.cells n os 1
  simp at jx jy
  rw [rounds_succ]; go_wp2
  refine wp_region_quiet_grown (by kernel_rfl) (by kernel_rfl) ?_
  repeat (first | go_big_quiet_step (fail) | quiet_step (fail))
  refine wpQuiet_nil ?_
  intro V2 g8
  replace g8 : Gr _ V2 := g8
  replace X := X.gr g8
  replace Y := Y.gr g8
  replace G := G.trans g8
  clear g8 jx jy
  go_wp2
  have jx := fun n os => X.cells n os 2
  have jy := fun n os => Y.cells n os 2
  simp at jx jy
  rw [rounds_succ]; go_wp2
  refine wp_region_quiet_grown (by kernel_rfl) (by kernel_rfl) ?_
  repeat (first | go_big_quiet_step (fail) | quiet_step (fail))
  refine wpQuiet_nil ?_
  intro V3 g8
  replace g8 : Gr _ V3 := g8
  replace X := X.gr g8
  replace Y := Y.gr g8
  replace G := G.trans g8
  clear g8 jx jy
  go_wp2
  have jx := fun n os => X.cells n os 3
  have jy := fun n os => Y.cells n os 3
  simp at jx jy
  rw [rounds_succ]; go_wp2
  refine wp_region_quiet_grown (by kernel_rfl) (by kernel_rfl) ?_
  repeat (first | go_big_quiet_step (fail) | quiet_step (fail))
  refine wpQuiet_nil ?_
  intro V4 g8
  replace g8 : Gr _ V4 := g8
  replace X := X.gr g8
  replace Y := Y.gr g8
  replace G := G.trans g8
  clear g8 jx jy
  go_wp2
  rw [rounds_succ]
  go_wp2_with fail
  with_reducible refine (f1 _).mono ?_
  rintro e w8 ⟨rfl, g⟩
  replace G := G.trans g
  clear g
  go_wp2_with fail
  with_reducible refine (f2 _).mono ?_
  rintro e w9 ⟨rfl, g⟩
  replace G := G.trans g
  clear g
  go_wp2_with fail
  with_reducible refine (lives1 _).mono ?_
  rintro e w10 ⟨rfl, g⟩
  replace G := G.trans g
  clear g
  go_wp2
  go_ret
  exact ⟨rfl, G⟩

set_option maxRecDepth 100000 in
theorem colorOrder_lifted (os : Os) (started : os.Started) (H : Type) (enc : TypeId × Value → H) :
    ReturnsInHanded {} Try.checked os 9 .any (Rows.colorOrderSpec.pre6 enc Try.prog Try.f9 Rows.colorOrderRow.domain false) (Rows.colorOrderSpec.post enc Try.prog Try.f9 false true false false) := by
  refine returnsInHanded_of_change (C := Try.checked) own started (by kernel_rfl) Try.func9
    (ChangeSpec.witness6 (enc := enc) (C := Try.checked) false ⟨#[], #[.int .i64 0, .int .i64 0, .int .i64 0, .int .u32 0], []⟩ 8 (by kernel_rfl) (by kernel_rfl) (by kernel_rfl) (by kernel_rfl)) ?_
  intro W base args ds gs before hval0 hW hcnd _
  have hval : ∀ (j : Nat) t v, Try.f9.params[j]? = some t → args[j]? = some v → Value.okWide Try.prog W .any base t v := hval0
  have hW' := hW
  obtain ⟨p, q, hA0, hV, rfl, hfz, hnd⟩ := hW
  have hA : DataW.TrodAll enc Try.prog W 0 (fun _ => true) true Try.f9.params.toList args.toList ds p := hA0
  rw [Try.params9] at hA hval
  obtain ⟨v0, vs0, d0, ds0, p0, q0, hargs, rfl, rfl, h0, r0⟩ := trodAll_cons hA
  obtain ⟨v1, vs1, d1, ds1, p1, q1, rfl, rfl, rfl, h1, r1⟩ := trodAll_cons r0
  obtain ⟨v2, vs2, d2, ds2, p2, q2, rfl, rfl, rfl, h2, r2⟩ := trodAll_cons r1
  obtain ⟨v3, vs3, d3, ds3, p3, q3, rfl, rfl, rfl, h3, r3⟩ := trodAll_cons r2
  obtain ⟨rfl, rfl, rfl⟩ := trodAll_nil r3
  obtain rfl : args = #[v0, v1, v2, v3] := by cases args; simp_all
  obtain ⟨rfl, rfl⟩ := trodVars_none hV
  obtain ⟨n0, rfl, rfl, rfl, wn0⟩ := open_int Try.underlying3 (hval 0 3 v0 rfl rfl) h0
  obtain ⟨n1, rfl, rfl, rfl, wn1⟩ := open_int Try.underlying3 (hval 1 3 v1 rfl rfl) h1
  obtain ⟨n2, rfl, rfl, rfl, wn2⟩ := open_int Try.underlying3 (hval 2 3 v2 rfl rfl) h2
  obtain ⟨n3, rfl, rfl, rfl, wn3⟩ := open_int Try.underlying23 (hval 3 23 v3 rfl rfl) h3
  clear hA0 hval0
  simp only [List.append_nil] at hW'
  refine (order_core n0 n1 n2 n3 W (U32.of_wf wn3)).mono fun e W' ⟨he, hg⟩ => ?_
  subst he
  exact ⟨_, rfl, close_below (pa := []) (pv := []) hW' (fun _ _ _ => (trodAll_cons_mk (shut_bool Try.underlying4 _) trodAll_mk0)) (fun sp _ => (trodAll_cons_mk (shut_int Try.underlying3 wn0) (trodAll_cons_mk (shut_int Try.underlying3 wn1) (trodAll_cons_mk (shut_int Try.underlying3 wn2) (trodAll_cons_mk (shut_int Try.underlying23 wn3) trodAll_mk0))))) (fun _ _ => rfl) rfl
    hg.below (ok_one (by kernel_rfl) rfl (okWide_bool_mk Try.underlying4 _))⟩

theorem colorOrder_holds : Rows.ColorOrderSaid :=
  OpenClaim.holds_of_wide 9 Try.f9 rfl rfl rfl rfl rfl rfl rfl ⟨rfl, rfl, rfl, rfl, rfl⟩ rfl rfl rfl rfl rfl (by kernel_rfl) Try.func9 (by kernel_rfl)
    (of_decide_eq_true (by kernel_rfl)) (by unfold Func.isWrapper; first | (rw [if_pos (by decide +kernel)]; kernel_rfl) | (rw [if_neg (by decide +kernel)]; exact ⟨rfl, rfl⟩))
    (fun os started H enc _ => colorOrder_lifted os started H enc)

#print axioms colorOrder_holds

end Go.Proofs.Ytcohmcnhochimaa
