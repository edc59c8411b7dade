/-
  What is proved: the statement ColorPre: the color of parts that are not multiplied yet is the document's, and may be. No conditions.
-/
import Derived.Test.YtcohmcnhochimaaCm
import Derived.Test.YtcohmcnhochimaaLawC
namespace Go.Proofs.Ytcohmcnhochimaa
open Go.ChangeShapes Go.WideShapes Go.ChangeAt Go.RowKit Go.Joins Go.Sort

attribute [local go_sem ↓] run_min2 run_max2

set_option maxHeartbeats 2000000 in
theorem pre_core (a r g' b : Int) (w : World) : Calls Try.prog 7 #[.agg #[.int .i64 a, .int .i64 r, .int .i64 g', .int .i64 b]] w (Rt w (.bool true)) := by
  have G := (Gr.refl w).alloc (.cells #[.int .i64 a, .int .i64 r, .int .i64 g', .int .i64 b] 24)
  have X := At.new w #[.int .i64 a, .int .i64 r, .int .i64 g', .int .i64 b] 24
  have c1 := pre1 a r g' b
  have c2 := refpre1 a r g' b
  have c3 := fun w => may1 (pre a r g' b) w (pre_c32 _ _ _ _)
  rw [may_pre] at c3
  generalize pre a r g' b = x at *
  go_enter Try.func7, Try.ntmps7
  go_wp2_with fail
  refine (c1 _).mono ?_
  rintro e w1 ⟨rfl, g⟩
  replace X := X.gr g
  replace G := G.trans g
  clear g
  have k0 := X.cell 0; have k1 := X.cell 1; have k2 := X.cell 2; have k3 := X.cell 3
  simp at k0 k1 k2 k3
  go_wp2_with fail
  refine (c2 _).mono ?_
  rintro e w2 ⟨rfl, g⟩
  replace G := G.trans g
  clear g
  go_wp2_with fail
  refine (c3 _).mono ?_
  rintro e w3 ⟨rfl, g⟩
  replace G := G.trans g
  clear g
  go_wp2_with fail
  refine (lives1 _).mono ?_
  rintro e w4 ⟨rfl, g⟩
  replace G := G.trans g
  clear g
  go_wp2
  go_ret
  exact ⟨rfl, G⟩

set_option maxRecDepth 100000 in
theorem colorPre_lifted (os : Os) (started : os.Started) (H : Type) (enc : TypeId × Value → H) :
    ReturnsInHanded {} Try.checked os 7 .any (Rows.colorPreSpec.pre6 enc Try.prog Try.f7 Rows.colorPreRow.domain false) (Rows.colorPreSpec.post enc Try.prog Try.f7 false true false false) := by
  refine returnsInHanded_of_change (C := Try.checked) own started (by kernel_rfl) Try.func7
    (ChangeSpec.witness6 (enc := enc) (C := Try.checked) false ⟨#[], #[.agg #[.int .i64 0, .int .i64 0, .int .i64 0, .int .i64 0]], []⟩ 8 (by kernel_rfl) (by kernel_rfl) (by kernel_rfl) (by kernel_rfl)) ?_
  intro W base args ds gs before hval0 hW hcnd _
  have hval : ∀ (j : Nat) t v, Try.f7.params[j]? = some t → args[j]? = some v → Value.okWide Try.prog W .any base t v := hval0
  have hW' := hW
  obtain ⟨p, q, hA0, hV, rfl, hfz, hnd⟩ := hW
  have hA : DataW.TrodAll enc Try.prog W 0 (fun _ => true) true Try.f7.params.toList args.toList ds p := hA0
  rw [Try.params7] at hA hval
  obtain ⟨v0, vs0, d0, ds0, p0, q0, hargs, rfl, rfl, h0, r0⟩ := trodAll_cons hA
  obtain ⟨rfl, rfl, rfl⟩ := trodAll_nil r0
  obtain rfl : args = #[v0] := by cases args; simp_all
  obtain ⟨rfl, rfl⟩ := trodVars_none hV
  obtain ⟨a0, b0, c0, d0, rfl, rfl, rfl, wa0, wb0, wc0, wd0⟩ := open_arr4 (hval 0 24 v0 rfl rfl) h0
  clear hA0 hval0
  simp only [List.append_nil] at hW'
  refine (pre_core a0 b0 c0 d0 W ).mono fun e W' ⟨he, hg⟩ => ?_
  subst he
  exact ⟨_, rfl, close_below (pa := []) (pv := []) hW' (fun _ _ _ => (trodAll_cons_mk (shut_bool Try.underlying4 _) trodAll_mk0)) (fun sp _ => (trodAll_cons_mk (shut_arr4 wa0 wb0 wc0 wd0) trodAll_mk0)) (fun _ _ => rfl) rfl
    hg.below (ok_one (by kernel_rfl) rfl (okWide_bool_mk Try.underlying4 _))⟩

theorem colorPre_holds : Rows.ColorPreSaid :=
  OpenClaim.holds_of_wide 7 Try.f7 rfl rfl rfl rfl rfl rfl rfl ⟨rfl, rfl, rfl, rfl, rfl⟩ rfl rfl rfl rfl rfl (by kernel_rfl) Try.func7 (by kernel_rfl)
    (of_decide_eq_true (by kernel_rfl)) (by unfold Func.isWrapper; first | (rw [if_pos (by decide +kernel)]; kernel_rfl) | (rw [if_neg (by decide +kernel)]; exact ⟨rfl, rfl⟩))
    (fun os started H enc _ => colorPre_lifted os started H enc)

#print axioms colorPre_holds

end Go.Proofs.Ytcohmcnhochimaa
