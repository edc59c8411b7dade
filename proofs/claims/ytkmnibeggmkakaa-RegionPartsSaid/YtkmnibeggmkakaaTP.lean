/-
  What is proved: the statement RegionParts: what a box has of a region, and what it has beside, are the region again, and have no point in common. No conditions.
-/
import Derived.Test.YtkmnibeggmkakaaAa
namespace Go.Proofs.Ytkmnibeggmkakaa
open Go.ChangeShapes Go.WideShapes Go.ChangeAt Go.RowKit Go.Joins Go.Sort Go.Deep

theorem nil_reg : IsReg [] := ⟨[], ⟨Wk.nil, by simp⟩, rfl⟩

set_option maxRecDepth 100000 in
set_option maxHeartbeats 16000000 in
theorem parts_core (A : Option Addr) (ca : Nat) (a : List Rc) (ra rb rc rd : Int) (w : World) (hA : Rs w A a) (ia : I64r a) (la : a.length ≤ 9223372036854775807) (ha : I64 ra) (hb : I64 rb) (hc : I64 rc) (hd : I64 rd) :
    Calls Try.prog 13 #[.slice A a.length ca, .agg #[.int .i64 ra, .int .i64 rb, .int .i64 rc, .int .i64 rd]] w (LivesQ w) := by
  have G0' := (Bl.refl w).alloc (.cells #[.int .i64 ra, .int .i64 rb, .int .i64 rc, .int .i64 rd] 23)
  have bx0 := At.new w #[.int .i64 ra, .int .i64 rb, .int .i64 rc, .int .i64 rd] 23
  have sm := fun w => small1 ra rb rc rd w ha hb hc hd
  obtain ⟨t, ht⟩ : ∃ t : Rc, t = smallR ra rb rc rd := ⟨_, rfl⟩
  have tne : InNe near near [t] := by
    have := small_near [⟨ra, rb, rc, rd⟩]
    rw [ht]; exact this
  rw [← ht] at sm
  clear ht ha hb hc hd
  go_enter Try.func13, Try.ntmps13
  have G0 := G0'
  go_wp2_with fail
  refine (refgood1 A ca a _ (hA.bl G0) ia la).mono ?_
  rintro e W1 ⟨A1, c1, p, rfl, o1, q1, g1⟩
  have bx1 := bx0.bl g1
  have k0 := bx1.cell
  have G1 := G0.trans g1
  have r_p := o1.rs
  clear o1
  clear g1
  go_wp2_with fail
  refine (sm _).mono ?_
  rintro e W2 ⟨rfl, g2⟩
  replace g2 := g2.bl
  replace r_p := r_p.bl g2
  have G2 := G1.trans g2
  clear g2
  go_wp2_with fail
  refine (of1 1 (some ⟨W2.heap.size, 0, none⟩) 1 [t] near near _ (by simp) (by simp) (by simp) (by omega) (.inr ⟨_, 0, rfl, At.rowR (At.new W2 _ _) rfl⟩) grid_near tne).mono ?_
  rintro e W3 ⟨A3, c3, b, rfl, o3, q3, g3⟩
  replace g3 := ((Bl.refl W2).alloc (.cells #[.int .i64 t.a, .int .i64 t.b, .int .i64 t.c, .int .i64 t.d] 23)).trans g3
  replace r_p := r_p.bl g3
  have G3 := G2.trans g3
  have r_b := o3.rs
  clear o3
  clear g3
  clear k0 bx1 bx0
  go_wp2_with fail
  refine (cutR1 A1 A3 c1 c3 p b near near _ r_p r_b q1.reg q3.reg grid_near q1.inr q3.inr).mono ?_
  rintro e W4 ⟨A4, c4, inn, rfl, o4, q4, g4⟩
  replace r_p := r_p.bl g4
  replace r_b := r_b.bl g4
  have G4 := G3.trans g4
  have r_inn := o4.rs
  clear o4
  clear g4
  go_wp2_with fail
  refine (less1 A1 A3 c1 c3 p b near near _ r_p r_b q1.reg q3.reg grid_near q1.inr q3.inr).mono ?_
  rintro e W5 ⟨A5, c5, out, rfl, o5, q5, g5⟩
  replace r_p := r_p.bl g5
  replace r_b := r_b.bl g5
  replace r_inn := r_inn.bl g5
  have G5 := G4.trans g5
  have r_out := o5.rs
  clear o5
  clear g5
  go_wp2_with fail
  refine (union1 A4 A5 c4 c5 inn out near near _ r_inn r_out q4.reg q5.reg grid_near q4.inr q5.inr).mono ?_
  rintro e W6 ⟨A6, c6, u, rfl, o6, q6, g6⟩
  replace r_p := r_p.bl g6
  replace r_b := r_b.bl g6
  replace r_inn := r_inn.bl g6
  replace r_out := r_out.bl g6
  have G6 := G5.trans g6
  have r_u := o6.rs
  clear o6
  clear g6
  have e1 : u = p := reg_same q6.reg q1.reg fun x y => by
    rw [q6.has, q4.has, q5.has]
    cases hasL p x y <;> cases hasL b x y <;> rfl
  replace e1 := Lib.hid e1
  go_wp2_with fail
  refine (same1t A6 A1 c6 c1 u p _ r_u r_p (Nat.le_trans (reg_len q6.reg q6.inr grid_near) (by omega)) e1.out).mono ?_
  rintro e W7 ⟨rfl, g7⟩
  replace g7 := g7.bl
  replace r_p := r_p.bl g7
  replace r_b := r_b.bl g7
  replace r_inn := r_inn.bl g7
  replace r_out := r_out.bl g7
  replace r_u := r_u.bl g7
  have G7 := G6.trans g7
  clear g7
  go_wp2_with fail
  refine (cutR1 A4 A5 c4 c5 inn out near near _ r_inn r_out q4.reg q5.reg grid_near q4.inr q5.inr).mono ?_
  rintro e W8 ⟨A8, c8, z, rfl, o8, q8, g8⟩
  replace r_p := r_p.bl g8
  replace r_b := r_b.bl g8
  replace r_inn := r_inn.bl g8
  replace r_out := r_out.bl g8
  replace r_u := r_u.bl g8
  have G8 := G7.trans g8
  have r_z := o8.rs
  clear o8
  clear g8
  have e2 : z = [] := reg_same q8.reg nil_reg fun x y => by
    rw [q8.has, q4.has, q5.has, show hasL [] x y = false from rfl]
    cases hasL p x y <;> cases hasL b x y <;> rfl
  subst e2
  have cv := fun w h1 h2 => coversR1 A3 A4 c3 c4 b inn [] w h1 h2 q3.reg q4.reg q3.inr q4.inr nil_reg (fun x y => by rw [q4.has, show hasL [] x y = false from rfl]; cases hasL p x y <;> cases hasL b x y <;> rfl)
  rw [show decide (List.length [] = 0) = true from rfl] at cv
  go_wp2_with fail
  refine (cv _ r_b r_inn).mono ?_
  rintro e W9 ⟨rfl, g9⟩
  replace r_p := r_p.bl g9
  replace r_b := r_b.bl g9
  replace r_inn := r_inn.bl g9
  replace r_out := r_out.bl g9
  replace r_u := r_u.bl g9
  replace r_z := r_z.bl g9
  have G9 := G8.trans g9
  clear g9
  clear cv
  obtain ⟨za, hza, za0, za1⟩ : ∃ z : Int, Hid (z = areaL inn) ∧ 0 ≤ z ∧ z ≤ 2000000000 := by
    have h1 := sm_take (sm_reg q4.reg q4.inr) (List.length inn)
    rw [List.take_length] at h1
    have h2 := reg_len q4.reg q4.inr grid_near
    exact ⟨_, Lib.hid rfl, h1.1, by omega⟩
  obtain ⟨zb, hzb, zb0, zb1⟩ : ∃ z : Int, Hid (z = areaL out) ∧ 0 ≤ z ∧ z ≤ 2000000000 := by
    have h1 := sm_take (sm_reg q5.reg q5.inr) (List.length out)
    rw [List.take_length] at h1
    have h2 := reg_len q5.reg q5.inr grid_near
    exact ⟨_, Lib.hid rfl, h1.1, by omega⟩
  obtain ⟨zc, hzc, zc0, zc1⟩ : ∃ z : Int, Hid (z = areaL p) ∧ 0 ≤ z ∧ z ≤ 2000000000 := by
    have h1 := sm_take (sm_reg q1.reg q1.inr) (List.length p)
    rw [List.take_length] at h1
    have h2 := reg_len q1.reg q1.inr grid_near
    exact ⟨_, Lib.hid rfl, h1.1, by omega⟩
  have hz : za + zb = zc := by
    have h1 := cnt2_sum (P := hasL inn) (Q := hasL out) (P' := hasL p) (Q' := fun _ _ => false) (fun x y => by
      rw [q4.has, q5.has]
      cases hasL p x y <;> cases hasL b x y <;> rfl)
    rw [cnt2_none, ← reg_area q4.reg q4.inr, ← reg_area q5.reg q5.inr, ← reg_area q1.reg q1.inr] at h1
    have := hza.out
    have := hzb.out
    have := hzc.out
    omega
  have hz2 : (za + zb == zc) = true := by simpa using hz
  replace hz := Lib.hid hz
  have av := fun w h1 => areaR1 A4 c4 inn w h1 (sm_reg q4.reg q4.inr) (reg_len q4.reg q4.inr grid_near)
  rw [← hza.out] at av
  go_wp2_with fail
  refine (av _ r_inn).mono ?_
  rintro e W10 ⟨rfl, g10⟩
  replace g10 := g10.bl
  replace r_p := r_p.bl g10
  replace r_b := r_b.bl g10
  replace r_inn := r_inn.bl g10
  replace r_out := r_out.bl g10
  replace r_u := r_u.bl g10
  replace r_z := r_z.bl g10
  have G10 := G9.trans g10
  clear g10
  clear av
  have av := fun w h1 => areaR1 A5 c5 out w h1 (sm_reg q5.reg q5.inr) (reg_len q5.reg q5.inr grid_near)
  rw [← hzb.out] at av
  go_wp2_with fail
  refine (av _ r_out).mono ?_
  rintro e W11 ⟨rfl, g11⟩
  replace g11 := g11.bl
  replace r_p := r_p.bl g11
  replace r_b := r_b.bl g11
  replace r_inn := r_inn.bl g11
  replace r_out := r_out.bl g11
  replace r_u := r_u.bl g11
  replace r_z := r_z.bl g11
  have G11 := G10.trans g11
  clear g11
  clear av
  have av := fun w h1 => refareaR1 A1 c1 p w h1 (sm_reg q1.reg q1.inr) (reg_len q1.reg q1.inr grid_near)
  rw [← hzc.out] at av
  go_wp2_with fail
  refine (av _ r_p).mono ?_
  rintro e W12 ⟨rfl, g12⟩
  replace g12 := g12.bl
  replace r_p := r_p.bl g12
  replace r_b := r_b.bl g12
  replace r_inn := r_inn.bl g12
  replace r_out := r_out.bl g12
  replace r_u := r_u.bl g12
  replace r_z := r_z.bl g12
  have G12 := G11.trans g12
  clear g12
  clear av
  go_wp2_with fail
  refine (lives1 _).mono ?_
  rintro e W13 ⟨rfl, g13⟩
  go_wp2
  go_ret
  exact ⟨rfl, G12.trans g13⟩

set_option maxRecDepth 100000 in
theorem regionParts_lifted (os : Os) (started : os.Started) (H : Type) (enc : TypeId × Value → H) :
    ReturnsInHanded {} Try.checked os 13 .any (Rows.regionPartsSpec.pre6 enc Try.prog Try.f13 Rows.regionPartsRow.domain false) (Rows.regionPartsSpec.post enc Try.prog Try.f13 false true false false) := by
  refine returnsInHanded_of_change (C := Try.checked) own started (by kernel_rfl) Try.func13
    (ChangeSpec.witness6 (enc := enc) (C := Try.checked) false ⟨#[], #[.slice none 0 0, .agg #[.int .i64 0, .int .i64 0, .int .i64 0, .int .i64 0]], []⟩ 8 (by kernel_rfl) (by kernel_rfl) (by kernel_rfl) (by kernel_rfl)) ?_
  intro W base args ds gs before hval0 hW hcnd _
  have hval : ∀ (j : Nat) t v, Try.f13.params[j]? = some t → args[j]? = some v → Value.okWide Try.prog W .any base t v := hval0
  have hW' := hW
  obtain ⟨p, q, hA0, hV, rfl, hfz, hnd⟩ := hW
  have hA : DataW.TrodAll enc Try.prog W 0 (fun _ => true) true Try.f13.params.toList args.toList ds p := hA0
  rw [Try.params13] at hA hval
  obtain ⟨v0, vs0, d0, ds0, p0, q0, hargs, rfl, rfl, h0, r0⟩ := trodAll_cons hA
  obtain ⟨v1, vs1, d1, ds1, p1, q1, rfl, rfl, rfl, h1, r1⟩ := trodAll_cons r0
  obtain ⟨rfl, rfl, rfl⟩ := trodAll_nil r1
  obtain rfl : args = #[v0, v1] := by cases args; simp_all
  obtain ⟨rfl, rfl⟩ := trodVars_none hV
  obtain ⟨A0, c0, L0, rfl, hc0, hm0, hr0, hI0⟩ := open_rects (hval 0 35 v0 rfl rfl) h0
  unfold maxLen at hm0
  obtain ⟨a1, b1, c1, d1, rfl, rfl, rfl, ua1, ub1, uc1, ud1⟩ := open_rect (hval 1 23 v1 rfl rfl) h1
  have wa1 := I64.of_wf ua1
  have wb1 := I64.of_wf ub1
  have wc1 := I64.of_wf uc1
  have wd1 := I64.of_wf ud1
  clear hA0 hval0
  simp only [List.append_nil] at hW'
  have hlt := hW'.lt
  refine (parts_core A0 c0 L0 a1 b1 c1 d1 W hr0 hI0 (by omega) wa1 wb1 wc1 wd1).mono fun e W' ⟨he, hb⟩ => ?_
  subst he
  exact ⟨_, rfl, close_below (pa := p0) (pv := []) hW' (fun _ _ _ => (trodAll_cons_mk (shut_bool Try.underlying4 _) trodAll_mk0)) (fun sp hsp => by
      have := (trodAll_cons_mk (WideElems.Trod_stays laidOut (by kernel_rfl) (of_decide_eq_true (by kernel_rfl)) h0 (fun x hx => Below.same hb (hlt x (by simp [hx]))) (sp' := sp) (fun x hx => hsp x (by simp [hx]))) (trodAll_cons_mk (shut_rect ua1 ub1 uc1 ud1) trodAll_mk0))
      simp only [List.append_nil] at this
      exact this)
    (fun _ _ => rfl) (by simp) hb (ok_one (by kernel_rfl) rfl (okWide_bool_mk Try.underlying4 _))⟩

theorem regionParts_holds : Rows.RegionPartsSaid :=
  OpenClaim.holds_of_wide 13 Try.f13 rfl rfl rfl rfl rfl rfl rfl ⟨rfl, rfl, rfl, rfl, rfl⟩ rfl rfl rfl rfl rfl (by kernel_rfl) Try.func13 (by kernel_rfl)
    (of_decide_eq_true (by kernel_rfl)) (by unfold Func.isWrapper; first | (rw [if_pos (by decide +kernel)]; kernel_rfl) | (rw [if_neg (by decide +kernel)]; exact ⟨rfl, rfl⟩))
    (fun os started H enc _ => regionParts_lifted os started H enc)

#print axioms regionParts_holds

end Go.Proofs.Ytkmnibeggmkakaa
