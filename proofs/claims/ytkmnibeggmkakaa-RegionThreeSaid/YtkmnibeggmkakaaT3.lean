/-
  What is proved: the statement RegionThree: of three regions: what both others have in common, and one alone, goes over what one of both has. No conditions.
-/
import Derived.Test.YtkmnibeggmkakaaGo
namespace Go.Proofs.Ytkmnibeggmkakaa
open Go.ChangeShapes Go.WideShapes Go.ChangeAt Go.RowKit Go.Joins Go.Sort Go.Deep

set_option maxRecDepth 100000 in
set_option maxHeartbeats 16000000 in
theorem three_core (A B C : Option Addr) (ca cb cc : Nat) (a b c : List Rc) (w : World) (hA : Rs w A a) (hB : Rs w B b) (hC : Rs w C c) (ia : I64r a) (ib : I64r b) (ic : I64r c) (la : a.length ≤ 9223372036854775807) (lb : b.length ≤ 9223372036854775807) (lc : c.length ≤ 9223372036854775807) :
    Calls Try.prog 11 #[.slice A a.length ca, .slice B b.length cb, .slice C c.length cc] w (LivesQ w) := by
  go_enter Try.func11, Try.ntmps11
  have G0 := Bl.refl w
  go_wp2_with fail
  refine (refgood1 A ca a _ (hA.bl G0) ia la).mono ?_
  rintro e W1 ⟨A1, c1, p, rfl, o1, q1, g1⟩
  have G1 := G0.trans g1
  have r_p := o1.rs
  clear o1
  go_wp2_with fail
  refine (refgood1 B cb b _ (hB.bl G1) ib lb).mono ?_
  rintro e W2 ⟨A2, c2, q, rfl, o2, q2, g2⟩
  replace r_p := r_p.bl g2
  have G2 := G1.trans g2
  have r_q := o2.rs
  clear o2
  go_wp2_with fail
  refine (refgood1 C cc c _ (hC.bl G2) ic lc).mono ?_
  rintro e W3 ⟨A3, c3, r, rfl, o3, q3, g3⟩
  replace r_p := r_p.bl g3
  replace r_q := r_q.bl g3
  have G3 := G2.trans g3
  have r_r := o3.rs
  clear o3
  go_wp2_with fail
  refine (union1 A2 A3 c2 c3 q r near near _ r_q r_r q2.reg q3.reg grid_near q2.inr q3.inr).mono ?_
  rintro e W4 ⟨A4, c4, s1, rfl, o4, q4, g4⟩
  replace r_p := r_p.bl g4
  replace r_q := r_q.bl g4
  replace r_r := r_r.bl g4
  have G4 := G3.trans g4
  have r_s1 := o4.rs
  clear o4 g4
  go_wp2_with fail
  refine (cutR1 A1 A4 c1 c4 p s1 near near _ r_p r_s1 q1.reg q4.reg grid_near q1.inr q4.inr).mono ?_
  rintro e W5 ⟨A5, c5, one, rfl, o5, q5, g5⟩
  replace r_p := r_p.bl g5
  replace r_q := r_q.bl g5
  replace r_r := r_r.bl g5
  replace r_s1 := r_s1.bl g5
  have G5 := G4.trans g5
  have r_one := o5.rs
  clear o5 g5
  go_wp2_with fail
  refine (cutR1 A1 A2 c1 c2 p q near near _ r_p r_q q1.reg q2.reg grid_near q1.inr q2.inr).mono ?_
  rintro e W6 ⟨A6, c6, s2, rfl, o6, q6, g6⟩
  replace r_p := r_p.bl g6
  replace r_q := r_q.bl g6
  replace r_r := r_r.bl g6
  replace r_s1 := r_s1.bl g6
  replace r_one := r_one.bl g6
  have G6 := G5.trans g6
  have r_s2 := o6.rs
  clear o6 g6
  go_wp2_with fail
  refine (cutR1 A1 A3 c1 c3 p r near near _ r_p r_r q1.reg q3.reg grid_near q1.inr q3.inr).mono ?_
  rintro e W7 ⟨A7, c7, s3, rfl, o7, q7, g7⟩
  replace r_p := r_p.bl g7
  replace r_q := r_q.bl g7
  replace r_r := r_r.bl g7
  replace r_s1 := r_s1.bl g7
  replace r_one := r_one.bl g7
  replace r_s2 := r_s2.bl g7
  have G7 := G6.trans g7
  have r_s3 := o7.rs
  clear o7 g7
  go_wp2_with fail
  refine (union1 A6 A7 c6 c7 s2 s3 near near _ r_s2 r_s3 q6.reg q7.reg grid_near q6.inr q7.inr).mono ?_
  rintro e W8 ⟨A8, c8, two, rfl, o8, q8, g8⟩
  replace r_p := r_p.bl g8
  replace r_q := r_q.bl g8
  replace r_r := r_r.bl g8
  replace r_s1 := r_s1.bl g8
  replace r_one := r_one.bl g8
  replace r_s2 := r_s2.bl g8
  replace r_s3 := r_s3.bl g8
  have G8 := G7.trans g8
  have r_two := o8.rs
  clear o8 g8
  go_wp2_with fail
  refine (union1 A2 A3 c2 c3 q r near near _ r_q r_r q2.reg q3.reg grid_near q2.inr q3.inr).mono ?_
  rintro e W9 ⟨A9, c9, s4, rfl, o9, q9, g9⟩
  replace r_p := r_p.bl g9
  replace r_q := r_q.bl g9
  replace r_r := r_r.bl g9
  replace r_s1 := r_s1.bl g9
  replace r_one := r_one.bl g9
  replace r_s2 := r_s2.bl g9
  replace r_s3 := r_s3.bl g9
  replace r_two := r_two.bl g9
  have G9 := G8.trans g9
  have r_s4 := o9.rs
  clear o9 g9
  go_wp2_with fail
  refine (less1 A1 A9 c1 c9 p s4 near near _ r_p r_s4 q1.reg q9.reg grid_near q1.inr q9.inr).mono ?_
  rintro e W10 ⟨A10, c10, thr, rfl, o10, q10, g10⟩
  replace r_p := r_p.bl g10
  replace r_q := r_q.bl g10
  replace r_r := r_r.bl g10
  replace r_s1 := r_s1.bl g10
  replace r_one := r_one.bl g10
  replace r_s2 := r_s2.bl g10
  replace r_s3 := r_s3.bl g10
  replace r_two := r_two.bl g10
  replace r_s4 := r_s4.bl g10
  have G10 := G9.trans g10
  have r_thr := o10.rs
  clear o10 g10
  go_wp2_with fail
  refine (less1 A1 A2 c1 c2 p q near near _ r_p r_q q1.reg q2.reg grid_near q1.inr q2.inr).mono ?_
  rintro e W11 ⟨A11, c11, s5, rfl, o11, q11, g11⟩
  replace r_p := r_p.bl g11
  replace r_q := r_q.bl g11
  replace r_r := r_r.bl g11
  replace r_s1 := r_s1.bl g11
  replace r_one := r_one.bl g11
  replace r_s2 := r_s2.bl g11
  replace r_s3 := r_s3.bl g11
  replace r_two := r_two.bl g11
  replace r_s4 := r_s4.bl g11
  replace r_thr := r_thr.bl g11
  have G11 := G10.trans g11
  have r_s5 := o11.rs
  clear o11 g11
  go_wp2_with fail
  refine (less1 A11 A3 c11 c3 s5 r near near _ r_s5 r_r q11.reg q3.reg grid_near q11.inr q3.inr).mono ?_
  rintro e W12 ⟨A12, c12, fou, rfl, o12, q12, g12⟩
  replace r_p := r_p.bl g12
  replace r_q := r_q.bl g12
  replace r_r := r_r.bl g12
  replace r_s1 := r_s1.bl g12
  replace r_one := r_one.bl g12
  replace r_s2 := r_s2.bl g12
  replace r_s3 := r_s3.bl g12
  replace r_two := r_two.bl g12
  replace r_s4 := r_s4.bl g12
  replace r_thr := r_thr.bl g12
  replace r_s5 := r_s5.bl g12
  have G12 := G11.trans g12
  have r_fou := o12.rs
  clear o12 g12
  have e1 : one = two := reg_same q5.reg q8.reg fun x y => by
    rw [q5.has, q4.has, q8.has, q6.has, q7.has]
    cases hasL p x y <;> cases hasL q x y <;> cases hasL r x y <;> rfl
  have e2 : thr = fou := reg_same q10.reg q12.reg fun x y => by
    rw [q10.has, q9.has, q12.has, q11.has]
    cases hasL p x y <;> cases hasL q x y <;> cases hasL r x y <;> rfl
  replace e1 := Lib.hid e1
  replace e2 := Lib.hid e2
  go_wp2_with fail
  refine (same1t A5 A8 c5 c8 one two _ r_one r_two (Nat.le_trans (reg_len q5.reg q5.inr grid_near) (by omega)) e1.out).mono ?_
  rintro e W13 ⟨rfl, g13⟩
  replace g13 := g13.bl
  replace r_p := r_p.bl g13
  replace r_q := r_q.bl g13
  replace r_r := r_r.bl g13
  replace r_s1 := r_s1.bl g13
  replace r_one := r_one.bl g13
  replace r_s2 := r_s2.bl g13
  replace r_s3 := r_s3.bl g13
  replace r_two := r_two.bl g13
  replace r_s4 := r_s4.bl g13
  replace r_thr := r_thr.bl g13
  replace r_s5 := r_s5.bl g13
  replace r_fou := r_fou.bl g13
  have G13 := G12.trans g13
  clear g13
  go_wp2_with fail
  refine (same1t A10 A12 c10 c12 thr fou _ r_thr r_fou (Nat.le_trans (reg_len q10.reg q10.inr grid_near) (by omega)) e2.out).mono ?_
  rintro e W14 ⟨rfl, g14⟩
  replace g14 := g14.bl
  replace r_p := r_p.bl g14
  replace r_q := r_q.bl g14
  replace r_r := r_r.bl g14
  replace r_s1 := r_s1.bl g14
  replace r_one := r_one.bl g14
  replace r_s2 := r_s2.bl g14
  replace r_s3 := r_s3.bl g14
  replace r_two := r_two.bl g14
  replace r_s4 := r_s4.bl g14
  replace r_thr := r_thr.bl g14
  replace r_s5 := r_s5.bl g14
  replace r_fou := r_fou.bl g14
  have G14 := G13.trans g14
  clear g14
  go_wp2_with fail
  refine (other1 A1 A2 c1 c2 p q near near _ r_p r_q q1.reg q2.reg grid_near q1.inr q2.inr).mono ?_
  rintro e W15 ⟨A15, c15, s6, rfl, o15, q15, g15⟩
  replace r_p := r_p.bl g15
  replace r_q := r_q.bl g15
  replace r_r := r_r.bl g15
  replace r_s1 := r_s1.bl g15
  replace r_one := r_one.bl g15
  replace r_s2 := r_s2.bl g15
  replace r_s3 := r_s3.bl g15
  replace r_two := r_two.bl g15
  replace r_s4 := r_s4.bl g15
  replace r_thr := r_thr.bl g15
  replace r_s5 := r_s5.bl g15
  replace r_fou := r_fou.bl g15
  have G15 := G14.trans g15
  have r_s6 := o15.rs
  clear o15 g15
  go_wp2_with fail
  refine (other1 A15 A2 c15 c2 s6 q near near _ r_s6 r_q q15.reg q2.reg grid_near q15.inr q2.inr).mono ?_
  rintro e W16 ⟨A16, c16, s7, rfl, o16, q16, g16⟩
  replace r_p := r_p.bl g16
  replace r_q := r_q.bl g16
  replace r_r := r_r.bl g16
  replace r_s1 := r_s1.bl g16
  replace r_one := r_one.bl g16
  replace r_s2 := r_s2.bl g16
  replace r_s3 := r_s3.bl g16
  replace r_two := r_two.bl g16
  replace r_s4 := r_s4.bl g16
  replace r_thr := r_thr.bl g16
  replace r_s5 := r_s5.bl g16
  replace r_fou := r_fou.bl g16
  replace r_s6 := r_s6.bl g16
  have G16 := G15.trans g16
  have r_s7 := o16.rs
  clear o16 g16
  have e3 : s7 = p := reg_same q16.reg q1.reg fun x y => by
    rw [q16.has, q15.has]
    cases hasL p x y <;> cases hasL q x y <;> rfl
  replace e3 := Lib.hid e3
  go_wp2_with fail
  refine (same1t A16 A1 c16 c1 s7 p _ r_s7 r_p (Nat.le_trans (reg_len q16.reg q16.inr grid_near) (by omega)) e3.out).mono ?_
  rintro e W17 ⟨rfl, g17⟩
  replace g17 := g17.bl
  replace r_p := r_p.bl g17
  replace r_q := r_q.bl g17
  replace r_r := r_r.bl g17
  replace r_s1 := r_s1.bl g17
  replace r_one := r_one.bl g17
  replace r_s2 := r_s2.bl g17
  replace r_s3 := r_s3.bl g17
  replace r_two := r_two.bl g17
  replace r_s4 := r_s4.bl g17
  replace r_thr := r_thr.bl g17
  replace r_s5 := r_s5.bl g17
  replace r_fou := r_fou.bl g17
  replace r_s6 := r_s6.bl g17
  replace r_s7 := r_s7.bl g17
  have G17 := G16.trans g17
  clear g17
  go_wp2_with fail
  refine (lives1 _).mono ?_
  rintro e W18 ⟨rfl, g18⟩
  go_wp2
  go_ret
  exact ⟨rfl, G17.trans g18⟩

set_option maxRecDepth 100000 in
theorem regionThree_lifted (os : Os) (started : os.Started) (H : Type) (enc : TypeId × Value → H) :
    ReturnsInHanded {} Try.checked os 11 .any (Rows.regionThreeSpec.pre6 enc Try.prog Try.f11 Rows.regionThreeRow.domain false) (Rows.regionThreeSpec.post enc Try.prog Try.f11 false true false false) := by
  refine returnsInHanded_of_change (C := Try.checked) own started (by kernel_rfl) Try.func11
    (ChangeSpec.witness6 (enc := enc) (C := Try.checked) false ⟨#[], #[.slice none 0 0, .slice none 0 0, .slice none 0 0], []⟩ 8 (by kernel_rfl) (by kernel_rfl) (by kernel_rfl) (by kernel_rfl)) ?_
  intro W base args ds gs before hval0 hW hcnd _
  have hval : ∀ (j : Nat) t v, Try.f11.params[j]? = some t → args[j]? = some v → Value.okWide Try.prog W .any base t v := hval0
  have hW' := hW
  obtain ⟨p, q, hA0, hV, rfl, hfz, hnd⟩ := hW
  have hA : DataW.TrodAll enc Try.prog W 0 (fun _ => true) true Try.f11.params.toList args.toList ds p := hA0
  rw [Try.params11] at hA hval
  obtain ⟨v0, vs0, d0, ds0, p0, q0, hargs, rfl, rfl, h0, r0⟩ := trodAll_cons hA
  obtain ⟨v1, vs1, d1, ds1, p1, q1, rfl, rfl, rfl, h1, r1⟩ := trodAll_cons r0
  obtain ⟨v2, vs2, d2, ds2, p2, q2, rfl, rfl, rfl, h2, r2⟩ := trodAll_cons r1
  obtain ⟨rfl, rfl, rfl⟩ := trodAll_nil r2
  obtain rfl : args = #[v0, v1, v2] := by cases args; simp_all
  obtain ⟨rfl, rfl⟩ := trodVars_none hV
  obtain ⟨A0, c0, L0, rfl, hc0, hm0, hr0, hI0⟩ := open_rects (hval 0 35 v0 rfl rfl) h0
  unfold maxLen at hm0
  obtain ⟨A1, c1, L1, rfl, hc1, hm1, hr1, hI1⟩ := open_rects (hval 1 35 v1 rfl rfl) h1
  unfold maxLen at hm1
  obtain ⟨A2, c2, L2, rfl, hc2, hm2, hr2, hI2⟩ := open_rects (hval 2 35 v2 rfl rfl) h2
  unfold maxLen at hm2
  clear hA0 hval0
  simp only [List.append_nil] at hW'
  have hlt := hW'.lt
  refine (three_core A0 A1 A2 c0 c1 c2 L0 L1 L2 W hr0 hr1 hr2 hI0 hI1 hI2 (by omega) (by omega) (by omega)).mono fun e W' ⟨he, hb⟩ => ?_
  subst he
  exact ⟨_, rfl, close_below (pa := p0 ++ (p1 ++ p2)) (pv := []) hW' (fun _ _ _ => (trodAll_cons_mk (shut_bool Try.underlying4 _) trodAll_mk0)) (fun sp hsp => by
      have := (trodAll_cons_mk (WideElems.Trod_stays laidOut (by kernel_rfl) (of_decide_eq_true (by kernel_rfl)) h0 (fun x hx => Below.same hb (hlt x (by simp [hx]))) (sp' := sp) (fun x hx => hsp x (by simp [hx]))) (trodAll_cons_mk (WideElems.Trod_stays laidOut (by kernel_rfl) (of_decide_eq_true (by kernel_rfl)) h1 (fun x hx => Below.same hb (hlt x (by simp [hx]))) (sp' := sp) (fun x hx => hsp x (by simp [hx]))) (trodAll_cons_mk (WideElems.Trod_stays laidOut (by kernel_rfl) (of_decide_eq_true (by kernel_rfl)) h2 (fun x hx => Below.same hb (hlt x (by simp [hx]))) (sp' := sp) (fun x hx => hsp x (by simp [hx]))) trodAll_mk0)))
      simp only [List.append_nil] at this
      exact this)
    (fun _ _ => rfl) (by simp) hb (ok_one (by kernel_rfl) rfl (okWide_bool_mk Try.underlying4 _))⟩

theorem regionThree_holds : Rows.RegionThreeSaid :=
  OpenClaim.holds_of_wide 11 Try.f11 rfl rfl rfl rfl rfl rfl rfl ⟨rfl, rfl, rfl, rfl, rfl⟩ rfl rfl rfl rfl rfl (by kernel_rfl) Try.func11 (by kernel_rfl)
    (of_decide_eq_true (by kernel_rfl)) (by unfold Func.isWrapper; first | (rw [if_pos (by decide +kernel)]; kernel_rfl) | (rw [if_neg (by decide +kernel)]; exact ⟨rfl, rfl⟩))
    (fun os started H enc _ => regionThree_lifted os started H enc)

#print axioms regionThree_holds

end Go.Proofs.Ytkmnibeggmkakaa
