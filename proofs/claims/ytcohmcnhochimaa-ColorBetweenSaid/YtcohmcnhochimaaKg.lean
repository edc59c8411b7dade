/-
  What is proved: the statement ColorBetween: a color over a solid one lies, part by part, no farther from it than it shows. No conditions.
-/
import Derived.Test.YtcohmcnhochimaaCm
import Derived.Test.YtcohmcnhochimaaLawC
import Derived.Deep.QuietTactic
import Derived.BigQuiet
namespace Go.Proofs.Ytcohmcnhochimaa
open Go.ChangeShapes Go.WideShapes Go.ChangeAt Go.RowKit Go.Joins Go.Sort

attribute [local go_sem ↓] run_min2 run_max2

set_option maxRecDepth 100000 in
set_option maxHeartbeats 4000000 in
theorem between_core (c : Int) (w : World) (hc : U32 c) : Calls Try.prog 10 #[.int .u32 c] w (Rt w (.bool true)) := by
  have G := Gr.refl w
  have cg := fun w => good1 c w hc
  have hn := gd_c32 c
  have hm := may_gd c
  generalize gd c = n at *
  obtain ⟨a0, a1, a2, a3⟩ := ov_white hn hm
  obtain ⟨b0, b1, b2, b3⟩ := ov_black hn
  have co1 := fun w => over1 n 4294967295 w hn (by unfold C32; omega)
  have co2 := fun w => over1 n 4278190080 w hn (by unfold C32; omega)
  have cp1 := fun w => parts1 (ov n 4294967295) w (ov_c32 _ _)
  have cp2 := fun w => parts1 (ov n 4278190080) w (ov_c32 _ _)
  have cp3 := fun w => refparts1 n w hn
  rw [a0, a1, a2, a3] at cp1
  rw [b0, b1, b2, b3] at cp2
  clear a0 a1 a2 a3 b0 b1 b2 b3
  have k0 := pA_by hn; have k1 := pR_by n; have k2 := pG_by n; have k3 := pB_by n
  generalize ov n 4294967295 = o1 at *
  generalize ov n 4278190080 = o2 at *
  generalize pA n = a at *; generalize pR n = r at *; generalize pG n = g' at *; generalize pB n = b at *
  unfold By at k0 k1 k2 k3
  obtain ⟨z, hz⟩ : ∃ z, z = 255 - a := ⟨_, rfl⟩
  have z0 : IntKind.i64.wrap (255 - a) = z := by rw [hz]; exact IntWalk.i64_in _ (by omega)
  have z1 : IntKind.i64.wrap (r + (255 - a) - r) = z := by rw [hz, show r + (255 - a) - r = 255 - a from by omega]; exact IntWalk.i64_in _ (by omega)
  have z2 : IntKind.i64.wrap (g' + (255 - a) - g') = z := by rw [hz, show g' + (255 - a) - g' = 255 - a from by omega]; exact IntWalk.i64_in _ (by omega)
  have z3 : IntKind.i64.wrap (b + (255 - a) - b) = z := by rw [hz, show b + (255 - a) - b = 255 - a from by omega]; exact IntWalk.i64_in _ (by omega)
  generalize r + (255 - a) = x1 at *
  generalize g' + (255 - a) = x2 at *
  generalize b + (255 - a) = x3 at *
  clear hc hn hm k0 k1 k2 k3 hz
  go_enter Try.func10, Try.ntmps10
  go_wp2_with fail
  refine (cg _).mono ?_
  rintro e w1 ⟨rfl, g⟩
  replace G := G.trans g
  clear g
  go_wp2_with fail
  refine (co1 _).mono ?_
  rintro e w2 ⟨rfl, g⟩
  replace G := G.trans g
  clear g
  go_wp2_with fail
  refine (cp1 _).mono ?_
  rintro e w3 ⟨rfl, g⟩
  replace G := G.trans g
  clear g
  have X := At.new w3 #[.int .i64 255, .int .i64 x1, .int .i64 x2, .int .i64 x3] 24
  replace G := G.alloc (.cells #[.int .i64 255, .int .i64 x1, .int .i64 x2, .int .i64 x3] 24)
  go_wp2_with fail
  refine (co2 _).mono ?_
  rintro e w4 ⟨rfl, g⟩
  replace X := X.gr g
  replace G := G.trans g
  clear g
  go_wp2_with fail
  refine (cp2 _).mono ?_
  rintro e w5 ⟨rfl, g⟩
  replace X := X.gr g
  replace G := G.trans g
  clear g
  have Y := At.new w5 #[.int .i64 255, .int .i64 r, .int .i64 g', .int .i64 b] 24
  replace X := X.alloc (.cells #[.int .i64 255, .int .i64 r, .int .i64 g', .int .i64 b] 24)
  replace G := G.alloc (.cells #[.int .i64 255, .int .i64 r, .int .i64 g', .int .i64 b] 24)
  go_wp2_with fail
  refine (cp3 _).mono ?_
  rintro e w6 ⟨rfl, g⟩
  replace X := X.gr g
  replace Y := Y.gr g
  replace G := G.trans g
  clear g
  have P := At.new w6 #[.int .i64 a, .int .i64 r, .int .i64 g', .int .i64 b] 24
  replace X := X.alloc (.cells #[.int .i64 a, .int .i64 r, .int .i64 g', .int .i64 b] 24)
  replace Y := Y.alloc (.cells #[.int .i64 a, .int .i64 r, .int .i64 g', .int .i64 b] 24)
  replace G := G.alloc (.cells #[.int .i64 a, .int .i64 r, .int .i64 g', .int .i64 b] 24)
  clear cg co1 co2 cp1 cp2 cp3
  go_wp2
  obtain ⟨V0, hV⟩ : ∃ V, V = w6.alloc (.cells #[.int .i64 a, .int .i64 r, .int .i64 g', .int .i64 b] 24) := ⟨_, rfl⟩
  rw [← hV] at X Y P G ⊢
  clear hV
  refine wp_loop_rounds 4 ?_
  have jx := fun n os => X.cells n os 1
  have jy := fun n os => Y.cells n os 1
  have jp := fun n os => P.cells n os 1
  have jq := fun n os => P.cells n os 0
  simp at jx jy jp jq
  rw [rounds_succ]; go_wp2
  refine wp_region_quiet_grown (by kernel_rfl) (by kernel_rfl) ?_
  repeat (first | go_big_quiet_step (fail) | quiet_step (fail))
  refine wpQuiet_nil ?_
  intro V1 g8
  replace g8 : Gr _ V1 := g8
  replace X := X.gr g8
  replace Y := Y.gr g8
  replace P := P.gr g8
  replace G := G.trans g8
  clear g8 jx jy jp jq
  go_wp2
  have jx := fun n os => X.cells n os 2
  have jy := fun n os => Y.cells n os 2
  have jp := fun n os => P.cells n os 2
  have jq := fun n os => P.cells n os 0
  simp at jx jy jp jq
  rw [rounds_succ]; go_wp2
  refine wp_region_quiet_grown (by kernel_rfl) (by kernel_rfl) ?_
  repeat (first | go_big_quiet_step (fail) | quiet_step (fail))
  refine wpQuiet_nil ?_
  intro V2 g8
  replace g8 : Gr _ V2 := g8
  replace X := X.gr g8
  replace Y := Y.gr g8
  replace P := P.gr g8
  replace G := G.trans g8
  clear g8 jx jy jp jq
  go_wp2
  have jx := fun n os => X.cells n os 3
  have jy := fun n os => Y.cells n os 3
  have jp := fun n os => P.cells n os 3
  have jq := fun n os => P.cells n os 0
  simp at jx jy jp jq
  rw [rounds_succ]; go_wp2
  refine wp_region_quiet_grown (by kernel_rfl) (by kernel_rfl) ?_
  repeat (first | go_big_quiet_step (fail) | quiet_step (fail))
  refine wpQuiet_nil ?_
  intro V3 g8
  replace g8 : Gr _ V3 := g8
  replace X := X.gr g8
  replace Y := Y.gr g8
  replace P := P.gr g8
  replace G := G.trans g8
  clear g8 jx jy jp jq
  go_wp2
  have jx : V3.cell? ⟨w3.heap.size, 0, none⟩ = some (.int .i64 255) := X.cell 0
  have jy : V3.cell? ⟨w5.heap.size, 0, none⟩ = some (.int .i64 255) := Y.cell 0
  rw [rounds_succ]
  go_wp2_with fail
  refine (lives1 _).mono ?_
  rintro e w7 ⟨rfl, g⟩
  replace G := G.trans g
  clear g
  go_wp2
  go_ret
  exact ⟨rfl, G⟩

set_option maxRecDepth 100000 in
theorem colorBetween_lifted (os : Os) (started : os.Started) (H : Type) (enc : TypeId × Value → H) :
    ReturnsInHanded {} Try.checked os 10 .any (Rows.colorBetweenSpec.pre6 enc Try.prog Try.f10 Rows.colorBetweenRow.domain false) (Rows.colorBetweenSpec.post enc Try.prog Try.f10 false true false false) := by
  refine returnsInHanded_of_change (C := Try.checked) own started (by kernel_rfl) Try.func10
    (ChangeSpec.witness6 (enc := enc) (C := Try.checked) false ⟨#[], #[.int .u32 0], []⟩ 8 (by kernel_rfl) (by kernel_rfl) (by kernel_rfl) (by kernel_rfl)) ?_
  intro W base args ds gs before hval0 hW hcnd _
  have hval : ∀ (j : Nat) t v, Try.f10.params[j]? = some t → args[j]? = some v → Value.okWide Try.prog W .any base t v := hval0
  have hW' := hW
  obtain ⟨p, q, hA0, hV, rfl, hfz, hnd⟩ := hW
  have hA : DataW.TrodAll enc Try.prog W 0 (fun _ => true) true Try.f10.params.toList args.toList ds p := hA0
  rw [Try.params10] at hA hval
  obtain ⟨v0, vs0, d0, ds0, p0, q0, hargs, rfl, rfl, h0, r0⟩ := trodAll_cons hA
  obtain ⟨rfl, rfl, rfl⟩ := trodAll_nil r0
  obtain rfl : args = #[v0] := by cases args; simp_all
  obtain ⟨rfl, rfl⟩ := trodVars_none hV
  obtain ⟨n0, rfl, rfl, rfl, wn0⟩ := open_int Try.underlying23 (hval 0 23 v0 rfl rfl) h0
  clear hA0 hval0
  simp only [List.append_nil] at hW'
  refine (between_core n0 W (U32.of_wf wn0)).mono fun e W' ⟨he, hg⟩ => ?_
  subst he
  exact ⟨_, rfl, close_below (pa := []) (pv := []) hW' (fun _ _ _ => (trodAll_cons_mk (shut_bool Try.underlying4 _) trodAll_mk0)) (fun sp _ => (trodAll_cons_mk (shut_int Try.underlying23 wn0) trodAll_mk0)) (fun _ _ => rfl) rfl
    hg.below (ok_one (by kernel_rfl) rfl (okWide_bool_mk Try.underlying4 _))⟩

theorem colorBetween_holds : Rows.ColorBetweenSaid :=
  OpenClaim.holds_of_wide 10 Try.f10 rfl rfl rfl rfl rfl rfl rfl ⟨rfl, rfl, rfl, rfl, rfl⟩ rfl rfl rfl rfl rfl (by kernel_rfl) Try.func10 (by kernel_rfl)
    (of_decide_eq_true (by kernel_rfl)) (by unfold Func.isWrapper; first | (rw [if_pos (by decide +kernel)]; kernel_rfl) | (rw [if_neg (by decide +kernel)]; exact ⟨rfl, rfl⟩))
    (fun os started H enc _ => colorBetween_lifted os started H enc)

#print axioms colorBetween_holds

end Go.Proofs.Ytcohmcnhochimaa
