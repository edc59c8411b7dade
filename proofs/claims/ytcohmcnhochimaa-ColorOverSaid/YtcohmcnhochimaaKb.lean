/-
  What is proved: the statement ColorOver: a color over another one, and a faded one, is the document's; what is made of such as may be may be. No conditions.
-/
import Derived.Test.YtcohmcnhochimaaCm
import Derived.Test.YtcohmcnhochimaaLawC
namespace Go.Proofs.Ytcohmcnhochimaa
open Go.ChangeShapes Go.WideShapes Go.ChangeAt Go.RowKit Go.Joins Go.Sort

attribute [local go_sem ↓] run_min2 run_max2

set_option maxHeartbeats 2000000 in
theorem over_walk (c d al x y o f ov0 fd0 : Int) (s1 : Bool) (w : World) (cx : ∀ w, Calls Try.prog 21 #[.int .u32 c] w (Rt w (.int .u32 x))) (cy : ∀ w, Calls Try.prog 21 #[.int .u32 d] w (Rt w (.int .u32 y)))
    (co : ∀ w, Calls Try.prog 22 #[.int .u32 x, .int .u32 y] w (Rt w (.int .u32 o))) (cf : ∀ w, Calls Try.prog 23 #[.int .u32 x, .int .i64 al] w (Rt w (.int .u32 f)))
    (cr : ∀ w, Calls Try.prog 22 #[.int .u32 c, .int .u32 d] w (Rt w (.int .u32 ov0))) (dr : ∀ w, Calls Try.prog 24 #[.int .u32 c, .int .u32 d] w (Rt w (.int .u32 ov0)))
    (dq : ∀ w, Calls Try.prog 24 #[.int .u32 x, .int .u32 y] w (Rt w (.int .u32 o)))
    (cq : ∀ w, Calls Try.prog 23 #[.int .u32 c, .int .i64 al] w (Rt w (.int .u32 fd0))) (ds : ∀ w, Calls Try.prog 25 #[.int .u32 c, .int .i64 al] w (Rt w (.int .u32 fd0)))
    (m1 : ∀ w, Calls Try.prog 16 #[.int .u32 o] w (Rt w (.bool true))) (m2 : ∀ w, Calls Try.prog 16 #[.int .u32 f] w (Rt w (.bool true))) (m3 : ∀ w, Calls Try.prog 15 #[.int .u32 o] w (Rt w (.bool true)))
    (n1 : ∀ w, Calls Try.prog 17 #[.int .u32 y] w (Rt w (.bool s1))) (n2 : s1 = true → ∀ w, Calls Try.prog 17 #[.int .u32 o] w (Rt w (.bool true))) :
    Calls Try.prog 5 #[.int .u32 c, .int .u32 d, .int .i64 al] w (Rt w (.bool true)) := by
  have G := Gr.refl w
  cases s1
  · clear n2
    go_enter Try.func5, Try.ntmps5
    go_wp2_with fail
    refine (cx _).mono ?_
    rintro e w1 ⟨rfl, g⟩
    replace G := G.trans g
    clear g
    go_wp2_with fail
    refine (cy _).mono ?_
    rintro e w2 ⟨rfl, g⟩
    replace G := G.trans g
    clear g
    go_wp2_with fail
    refine (co _).mono ?_
    rintro e w3 ⟨rfl, g⟩
    replace G := G.trans g
    clear g
    go_wp2_with fail
    refine (cf _).mono ?_
    rintro e w4 ⟨rfl, g⟩
    replace G := G.trans g
    clear g
    go_wp2_with fail
    refine (cr _).mono ?_
    rintro e w5 ⟨rfl, g⟩
    replace G := G.trans g
    clear g
    go_wp2_with fail
    refine (dr _).mono ?_
    rintro e w6 ⟨rfl, g⟩
    replace G := G.trans g
    clear g
    go_wp2_with fail
    refine (dq _).mono ?_
    rintro e w7 ⟨rfl, g⟩
    replace G := G.trans g
    clear g
    go_wp2_with fail
    refine (cq _).mono ?_
    rintro e w8 ⟨rfl, g⟩
    replace G := G.trans g
    clear g
    go_wp2_with fail
    refine (ds _).mono ?_
    rintro e w9 ⟨rfl, g⟩
    replace G := G.trans g
    clear g
    go_wp2_with fail
    refine (m1 _).mono ?_
    rintro e w10 ⟨rfl, g⟩
    replace G := G.trans g
    clear g
    go_wp2_with fail
    refine (m2 _).mono ?_
    rintro e w11 ⟨rfl, g⟩
    replace G := G.trans g
    clear g
    go_wp2_with fail
    refine (m3 _).mono ?_
    rintro e w12 ⟨rfl, g⟩
    replace G := G.trans g
    clear g
    go_wp2_with fail
    refine (n1 _).mono ?_
    rintro e w13 ⟨rfl, g⟩
    replace G := G.trans g
    clear g
    go_wp2_with fail
    refine (lives1 _).mono ?_
    rintro e w14 ⟨rfl, g⟩
    replace G := G.trans g
    clear g
    go_wp2
    go_ret
    exact ⟨rfl, G⟩
  · replace n2 := n2 rfl
    go_enter Try.func5, Try.ntmps5
    go_wp2_with fail
    refine (cx _).mono ?_
    rintro e w1 ⟨rfl, g⟩
    replace G := G.trans g
    clear g
    go_wp2_with fail
    refine (cy _).mono ?_
    rintro e w2 ⟨rfl, g⟩
    replace G := G.trans g
    clear g
    go_wp2_with fail
    refine (co _).mono ?_
    rintro e w3 ⟨rfl, g⟩
    replace G := G.trans g
    clear g
    go_wp2_with fail
    refine (cf _).mono ?_
    rintro e w4 ⟨rfl, g⟩
    replace G := G.trans g
    clear g
    go_wp2_with fail
    refine (cr _).mono ?_
    rintro e w5 ⟨rfl, g⟩
    replace G := G.trans g
    clear g
    go_wp2_with fail
    refine (dr _).mono ?_
    rintro e w6 ⟨rfl, g⟩
    replace G := G.trans g
    clear g
    go_wp2_with fail
    refine (dq _).mono ?_
    rintro e w7 ⟨rfl, g⟩
    replace G := G.trans g
    clear g
    go_wp2_with fail
    refine (cq _).mono ?_
    rintro e w8 ⟨rfl, g⟩
    replace G := G.trans g
    clear g
    go_wp2_with fail
    refine (ds _).mono ?_
    rintro e w9 ⟨rfl, g⟩
    replace G := G.trans g
    clear g
    go_wp2_with fail
    refine (m1 _).mono ?_
    rintro e w10 ⟨rfl, g⟩
    replace G := G.trans g
    clear g
    go_wp2_with fail
    refine (m2 _).mono ?_
    rintro e w11 ⟨rfl, g⟩
    replace G := G.trans g
    clear g
    go_wp2_with fail
    refine (m3 _).mono ?_
    rintro e w12 ⟨rfl, g⟩
    replace G := G.trans g
    clear g
    go_wp2_with fail
    refine (n1 _).mono ?_
    rintro e w13 ⟨rfl, g⟩
    replace G := G.trans g
    clear g
    go_wp2_with fail
    refine (n2 _).mono ?_
    rintro e w14 ⟨rfl, g⟩
    replace G := G.trans g
    clear g
    go_wp2_with fail
    refine (lives1 _).mono ?_
    rintro e w15 ⟨rfl, g⟩
    replace G := G.trans g
    clear g
    go_wp2
    go_ret
    exact ⟨rfl, G⟩

theorem over_core (c d al : Int) (w : World) (hc : U32 c) (hd : U32 d) : Calls Try.prog 5 #[.int .u32 c, .int .u32 d, .int .i64 al] w (Rt w (.bool true)) := by
  have m1 := fun w => refmay1 (ov (gd c) (gd d)) w (ov_c32 _ _)
  have m2 := fun w => refmay1 (fd (gd c) al) w (fd_c32 _ _)
  have m3 := fun w => may1 (ov (gd c) (gd d)) w (ov_c32 _ _)
  rw [may_ov (may_gd c) (may_gd d)] at m1 m3
  rw [may_fd al (may_gd c)] at m2
  refine over_walk c d al (gd c) (gd d) (ov (gd c) (gd d)) (fd (gd c) al) (ov c d) (fd c al) (pA (gd d) == 255) w (fun w => good1 c w hc) (fun w => good1 d w hd) (fun w => over1 _ _ w (gd_c32 _) (gd_c32 _)) (fun w => fade1 _ _ w (gd_c32 _))
    (fun w => over1 _ _ w hc hd) (fun w => refover1 _ _ w hc hd) (fun w => refover1 _ _ w (gd_c32 _) (gd_c32 _)) (fun w => fade1 _ _ w hc) (fun w => reffade1 _ _ w hc) m1 m2 m3 (fun w => solid1 _ w (gd_c32 _)) ?_
  intro h w
  have s := solid1 (ov (gd c) (gd d)) w (ov_c32 _ _)
  rw [solid_ov (gd_c32 c) (by simpa using h)] at s
  exact s

set_option maxRecDepth 100000 in
theorem colorOver_lifted (os : Os) (started : os.Started) (H : Type) (enc : TypeId × Value → H) :
    ReturnsInHanded {} Try.checked os 5 .any (Rows.colorOverSpec.pre6 enc Try.prog Try.f5 Rows.colorOverRow.domain false) (Rows.colorOverSpec.post enc Try.prog Try.f5 false true false false) := by
  refine returnsInHanded_of_change (C := Try.checked) own started (by kernel_rfl) Try.func5
    (ChangeSpec.witness6 (enc := enc) (C := Try.checked) false ⟨#[], #[.int .u32 0, .int .u32 0, .int .i64 0], []⟩ 8 (by kernel_rfl) (by kernel_rfl) (by kernel_rfl) (by kernel_rfl)) ?_
  intro W base args ds gs before hval0 hW hcnd _
  have hval : ∀ (j : Nat) t v, Try.f5.params[j]? = some t → args[j]? = some v → Value.okWide Try.prog W .any base t v := hval0
  have hW' := hW
  obtain ⟨p, q, hA0, hV, rfl, hfz, hnd⟩ := hW
  have hA : DataW.TrodAll enc Try.prog W 0 (fun _ => true) true Try.f5.params.toList args.toList ds p := hA0
  rw [Try.params5] at hA hval
  obtain ⟨v0, vs0, d0, ds0, p0, q0, hargs, rfl, rfl, h0, r0⟩ := trodAll_cons hA
  obtain ⟨v1, vs1, d1, ds1, p1, q1, rfl, rfl, rfl, h1, r1⟩ := trodAll_cons r0
  obtain ⟨v2, vs2, d2, ds2, p2, q2, rfl, rfl, rfl, h2, r2⟩ := trodAll_cons r1
  obtain ⟨rfl, rfl, rfl⟩ := trodAll_nil r2
  obtain rfl : args = #[v0, v1, v2] := by cases args; simp_all
  obtain ⟨rfl, rfl⟩ := trodVars_none hV
  obtain ⟨n0, rfl, rfl, rfl, wn0⟩ := open_int Try.underlying23 (hval 0 23 v0 rfl rfl) h0
  obtain ⟨n1, rfl, rfl, rfl, wn1⟩ := open_int Try.underlying23 (hval 1 23 v1 rfl rfl) h1
  obtain ⟨n2, rfl, rfl, rfl, wn2⟩ := open_int Try.underlying3 (hval 2 3 v2 rfl rfl) h2
  clear hA0 hval0
  simp only [List.append_nil] at hW'
  refine (over_core n0 n1 n2 W (U32.of_wf wn0) (U32.of_wf wn1)).mono fun e W' ⟨he, hg⟩ => ?_
  subst he
  exact ⟨_, rfl, close_below (pa := []) (pv := []) hW' (fun _ _ _ => (trodAll_cons_mk (shut_bool Try.underlying4 _) trodAll_mk0)) (fun sp _ => (trodAll_cons_mk (shut_int Try.underlying23 wn0) (trodAll_cons_mk (shut_int Try.underlying23 wn1) (trodAll_cons_mk (shut_int Try.underlying3 wn2) trodAll_mk0)))) (fun _ _ => rfl) rfl
    hg.below (ok_one (by kernel_rfl) rfl (okWide_bool_mk Try.underlying4 _))⟩

theorem colorOver_holds : Rows.ColorOverSaid :=
  OpenClaim.holds_of_wide 5 Try.f5 rfl rfl rfl rfl rfl rfl rfl ⟨rfl, rfl, rfl, rfl, rfl⟩ rfl rfl rfl rfl rfl (by kernel_rfl) Try.func5 (by kernel_rfl)
    (of_decide_eq_true (by kernel_rfl)) (by unfold Func.isWrapper; first | (rw [if_pos (by decide +kernel)]; kernel_rfl) | (rw [if_neg (by decide +kernel)]; exact ⟨rfl, rfl⟩))
    (fun os started H enc _ => colorOver_lifted os started H enc)

#print axioms colorOver_holds

end Go.Proofs.Ytcohmcnhochimaa
