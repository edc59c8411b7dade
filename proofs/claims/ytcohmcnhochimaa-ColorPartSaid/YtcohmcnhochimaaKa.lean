/-
  What is proved: the statement ColorPart: a part of a part is the document's; of all it is itself, of nothing nothing. No conditions.
-/
import Derived.Test.YtcohmcnhochimaaCm
import Derived.Test.YtcohmcnhochimaaLawC
namespace Go.Proofs.Ytcohmcnhochimaa
open Go.ChangeShapes Go.WideShapes Go.ChangeAt Go.RowKit Go.Joins Go.Sort

attribute [local go_sem ↓] run_min2 run_max2

theorem pt_fact (p q : Int) : pt p q ≤ min (max p 0) 255 := pt_le p q

set_option maxHeartbeats 1000000 in
theorem part_core (p q : Int) (w : World) : Calls Try.prog 4 #[.int .i64 p, .int .i64 q] w (Rt w (.bool true)) := by
  have G := Gr.refl w
  have c1 := part1 p q; have c2 := refpart1 p q; have c3 := part1 q p; have c4 := part1 p 255; have c5 := part1 p 0
  have le := pt_fact p q
  rw [pt_comm p q] at c3
  rw [pt_255r] at c4
  rw [pt_0r] at c5
  unfold cl at c4
  generalize pt p q = x at *
  go_enter Try.func4, Try.ntmps4
  go_wp2_with fail
  refine (c1 _).mono ?_
  rintro e w1 ⟨rfl, g⟩
  replace G := G.trans g
  clear g
  go_wp2_with fail
  refine (c2 _).mono ?_
  rintro e w2 ⟨rfl, g⟩
  replace G := G.trans g
  clear g
  go_wp2_with fail
  refine (c3 _).mono ?_
  rintro e w3 ⟨rfl, g⟩
  replace G := G.trans g
  clear g
  go_wp2_with fail
  refine (c1 _).mono ?_
  rintro e w4 ⟨rfl, g⟩
  replace G := G.trans g
  clear g
  go_wp2_with fail
  refine (c4 _).mono ?_
  rintro e w5 ⟨rfl, g⟩
  replace G := G.trans g
  clear g
  go_wp2_with fail
  refine (c5 _).mono ?_
  rintro e w6 ⟨rfl, g⟩
  replace G := G.trans g
  clear g
  go_wp2_with fail
  refine (c1 _).mono ?_
  rintro e w7 ⟨rfl, g⟩
  replace G := G.trans g
  clear g
  go_wp2_with fail
  refine (lives1 _).mono ?_
  rintro e w8 ⟨rfl, g⟩
  replace G := G.trans g
  clear g
  go_wp2
  go_ret
  exact ⟨rfl, G⟩

set_option maxRecDepth 100000 in
theorem colorPart_lifted (os : Os) (started : os.Started) (H : Type) (enc : TypeId × Value → H) :
    ReturnsInHanded {} Try.checked os 4 .any (Rows.colorPartSpec.pre6 enc Try.prog Try.f4 Rows.colorPartRow.domain false) (Rows.colorPartSpec.post enc Try.prog Try.f4 false true false false) := by
  refine returnsInHanded_of_change (C := Try.checked) own started (by kernel_rfl) Try.func4
    (ChangeSpec.witness6 (enc := enc) (C := Try.checked) false ⟨#[], #[.int .i64 0, .int .i64 0], []⟩ 8 (by kernel_rfl) (by kernel_rfl) (by kernel_rfl) (by kernel_rfl)) ?_
  intro W base args ds gs before hval0 hW hcnd _
  have hval : ∀ (j : Nat) t v, Try.f4.params[j]? = some t → args[j]? = some v → Value.okWide Try.prog W .any base t v := hval0
  have hW' := hW
  obtain ⟨p, q, hA0, hV, rfl, hfz, hnd⟩ := hW
  have hA : DataW.TrodAll enc Try.prog W 0 (fun _ => true) true Try.f4.params.toList args.toList ds p := hA0
  rw [Try.params4] at hA hval
  obtain ⟨v0, vs0, d0, ds0, p0, q0, hargs, rfl, rfl, h0, r0⟩ := trodAll_cons hA
  obtain ⟨v1, vs1, d1, ds1, p1, q1, rfl, rfl, rfl, h1, r1⟩ := trodAll_cons r0
  obtain ⟨rfl, rfl, rfl⟩ := trodAll_nil r1
  obtain rfl : args = #[v0, v1] := by cases args; simp_all
  obtain ⟨rfl, rfl⟩ := trodVars_none hV
  obtain ⟨n0, rfl, rfl, rfl, wn0⟩ := open_int Try.underlying3 (hval 0 3 v0 rfl rfl) h0
  obtain ⟨n1, rfl, rfl, rfl, wn1⟩ := open_int Try.underlying3 (hval 1 3 v1 rfl rfl) h1
  clear hA0 hval0
  simp only [List.append_nil] at hW'
  refine (part_core n0 n1 W ).mono fun e W' ⟨he, hg⟩ => ?_
  subst he
  exact ⟨_, rfl, close_below (pa := []) (pv := []) hW' (fun _ _ _ => (trodAll_cons_mk (shut_bool Try.underlying4 _) trodAll_mk0)) (fun sp _ => (trodAll_cons_mk (shut_int Try.underlying3 wn0) (trodAll_cons_mk (shut_int Try.underlying3 wn1) trodAll_mk0))) (fun _ _ => rfl) rfl
    hg.below (ok_one (by kernel_rfl) rfl (okWide_bool_mk Try.underlying4 _))⟩

theorem colorPart_holds : Rows.ColorPartSaid :=
  OpenClaim.holds_of_wide 4 Try.f4 rfl rfl rfl rfl rfl rfl rfl ⟨rfl, rfl, rfl, rfl, rfl⟩ rfl rfl rfl rfl rfl (by kernel_rfl) Try.func4 (by kernel_rfl)
    (of_decide_eq_true (by kernel_rfl)) (by unfold Func.isWrapper; first | (rw [if_pos (by decide +kernel)]; kernel_rfl) | (rw [if_neg (by decide +kernel)]; exact ⟨rfl, rfl⟩))
    (fun os started H enc _ => colorPart_lifted os started H enc)

#print axioms colorPart_holds

end Go.Proofs.Ytcohmcnhochimaa
