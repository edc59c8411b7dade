/-
  What is proved: the statement RegionLaws: both together are one alone, the other one alone, and what both have. No conditions.
-/
import Derived.Test.YtkmnibeggmkakaaAa
namespace Go.Proofs.Ytkmnibeggmkakaa
open Go.ChangeShapes Go.WideShapes Go.ChangeAt Go.RowKit Go.Joins Go.Sort Go.Deep

theorem nil_regL : IsReg [] := ⟨[], ⟨Wk.nil, by simp⟩, rfl⟩

set_option maxRecDepth 100000 in
set_option maxHeartbeats 16000000 in
theorem laws_core (A B : Option Addr) (ca cb : Nat) (a b : List Rc) (w : World) (hA : Rs w A a) (hB : Rs w B b) (ia : I64r a) (ib : I64r b) (la : a.length ≤ 9223372036854775807) (lb : b.length ≤ 9223372036854775807) :
    Calls Try.prog 7 #[.slice A a.length ca, .slice B b.length cb] w (LivesQ w) := by
  have G0 := Bl.refl w
  go_enter Try.func7, Try.ntmps7
  go_wp2_with fail
  refine (refgood1 A ca a _ (hA.bl G0) ia la).mono ?_
  rintro e W1 ⟨A1, c1, p, rfl, o1, q1, g1⟩
  have G1 := G0.trans g1
  have r_p := o1.rs
  clear o1
  clear g1
  go_wp2_with fail
  refine (refgood1 B cb b _ (hB.bl G1) ib lb).mono ?_
  rintro e W2 ⟨A2, c2, q, rfl, o2, q2, g2⟩
  replace r_p := r_p.bl g2
  have G2 := G1.trans g2
  have r_q := o2.rs
  clear o2
  clear g2
  go_wp2_with fail
  refine (union1 A1 A2 c1 c2 p q near near _ r_p r_q q1.reg q2.reg grid_near q1.inr q2.inr).mono ?_
  rintro e W3 ⟨A3, c3, u, rfl, o3, q3, g3⟩
  replace r_p := r_p.bl g3
  replace r_q := r_q.bl g3
  have G3 := G2.trans g3
  have r_u := o3.rs
  clear o3
  clear g3
  go_wp2_with fail
  refine (cutR1 A1 A2 c1 c2 p q near near _ r_p r_q q1.reg q2.reg grid_near q1.inr q2.inr).mono ?_
  rintro e W4 ⟨A4, c4, c, rfl, o4, q4, g4⟩
  replace r_p := r_p.bl g4
  replace r_q := r_q.bl g4
  replace r_u := r_u.bl g4
  have G4 := G3.trans g4
  have r_c := o4.rs
  clear o4
  clear g4
  go_wp2_with fail
  refine (less1 A1 A2 c1 c2 p q near near _ r_p r_q q1.reg q2.reg grid_near q1.inr q2.inr).mono ?_
  rintro e W5 ⟨A5, c5, d, rfl, o5, q5, g5⟩
  replace r_p := r_p.bl g5
  replace r_q := r_q.bl g5
  replace r_u := r_u.bl g5
  replace r_c := r_c.bl g5
  have G5 := G4.trans g5
  have r_d := o5.rs
  clear o5
  clear g5
  go_wp2_with fail
  refine (less1 A2 A1 c2 c1 q p near near _ r_q r_p q2.reg q1.reg grid_near q2.inr q1.inr).mono ?_
  rintro e W6 ⟨A6, c6, ee, rfl, o6, q6, g6⟩
  replace r_p := r_p.bl g6
  replace r_q := r_q.bl g6
  replace r_u := r_u.bl g6
  replace r_c := r_c.bl g6
  replace r_d := r_d.bl g6
  have G6 := G5.trans g6
  have r_ee := o6.rs
  clear o6
  clear g6
  go_wp2_with fail
  refine (union1 A5 A6 c5 c6 d ee near near _ r_d r_ee q5.reg q6.reg grid_near q5.inr q6.inr).mono ?_
  rintro e W7 ⟨A7, c7, v1, rfl, o7, q7, g7⟩
  replace r_p := r_p.bl g7
  replace r_q := r_q.bl g7
  replace r_u := r_u.bl g7
  replace r_c := r_c.bl g7
  replace r_d := r_d.bl g7
  replace r_ee := r_ee.bl g7
  have G7 := G6.trans g7
  have r_v1 := o7.rs
  clear o7
  clear g7
  go_wp2_with fail
  refine (union1 A7 A4 c7 c4 v1 c near near _ r_v1 r_c q7.reg q4.reg grid_near q7.inr q4.inr).mono ?_
  rintro e W8 ⟨A8, c8, v2, rfl, o8, q8, g8⟩
  replace r_p := r_p.bl g8
  replace r_q := r_q.bl g8
  replace r_u := r_u.bl g8
  replace r_c := r_c.bl g8
  replace r_d := r_d.bl g8
  replace r_ee := r_ee.bl g8
  replace r_v1 := r_v1.bl g8
  have G8 := G7.trans g8
  have r_v2 := o8.rs
  clear o8
  clear g8
  have e1 : v2 = u := reg_same q8.reg q3.reg fun x y => by
    rw [q8.has, q7.has, q5.has, q6.has, q4.has, q3.has]
    cases hasL p x y <;> cases hasL q x y <;> rfl
  replace e1 := Lib.hid e1
  go_wp2_with fail
  refine (same1t A8 A3 c8 c3 v2 u _ r_v2 r_u (Nat.le_trans (reg_len q8.reg q8.inr grid_near) (by omega)) e1.out).mono ?_
  rintro e W9 ⟨rfl, g9⟩
  replace g9 := g9.bl
  replace r_p := r_p.bl g9
  replace r_q := r_q.bl g9
  replace r_u := r_u.bl g9
  replace r_c := r_c.bl g9
  replace r_d := r_d.bl g9
  replace r_ee := r_ee.bl g9
  replace r_v1 := r_v1.bl g9
  replace r_v2 := r_v2.bl g9
  have G9 := G8.trans g9
  clear g9
  go_wp2_with fail
  refine (union1 A2 A1 c2 c1 q p near near _ r_q r_p q2.reg q1.reg grid_near q2.inr q1.inr).mono ?_
  rintro e W10 ⟨A10, c10, v3, rfl, o10, q10, g10⟩
  replace r_p := r_p.bl g10
  replace r_q := r_q.bl g10
  replace r_u := r_u.bl g10
  replace r_c := r_c.bl g10
  replace r_d := r_d.bl g10
  replace r_ee := r_ee.bl g10
  replace r_v1 := r_v1.bl g10
  replace r_v2 := r_v2.bl g10
  have G10 := G9.trans g10
  have r_v3 := o10.rs
  clear o10
  clear g10
  have e2 : v3 = u := reg_same q10.reg q3.reg fun x y => by
    rw [q10.has, q3.has]
    cases hasL p x y <;> cases hasL q x y <;> rfl
  replace e2 := Lib.hid e2
  go_wp2_with fail
  refine (same1t A10 A3 c10 c3 v3 u _ r_v3 r_u (Nat.le_trans (reg_len q10.reg q10.inr grid_near) (by omega)) e2.out).mono ?_
  rintro e W11 ⟨rfl, g11⟩
  replace g11 := g11.bl
  replace r_p := r_p.bl g11
  replace r_q := r_q.bl g11
  replace r_u := r_u.bl g11
  replace r_c := r_c.bl g11
  replace r_d := r_d.bl g11
  replace r_ee := r_ee.bl g11
  replace r_v1 := r_v1.bl g11
  replace r_v2 := r_v2.bl g11
  replace r_v3 := r_v3.bl g11
  have G11 := G10.trans g11
  clear g11
  go_wp2_with fail
  refine (other1 A1 A2 c1 c2 p q near near _ r_p r_q q1.reg q2.reg grid_near q1.inr q2.inr).mono ?_
  rintro e W12 ⟨A12, c12, v4, rfl, o12, q12, g12⟩
  replace r_p := r_p.bl g12
  replace r_q := r_q.bl g12
  replace r_u := r_u.bl g12
  replace r_c := r_c.bl g12
  replace r_d := r_d.bl g12
  replace r_ee := r_ee.bl g12
  replace r_v1 := r_v1.bl g12
  replace r_v2 := r_v2.bl g12
  replace r_v3 := r_v3.bl g12
  have G12 := G11.trans g12
  have r_v4 := o12.rs
  clear o12
  clear g12
  go_wp2_with fail
  refine (union1 A5 A6 c5 c6 d ee near near _ r_d r_ee q5.reg q6.reg grid_near q5.inr q6.inr).mono ?_
  rintro e W13 ⟨A13, c13, v5, rfl, o13, q13, g13⟩
  replace r_p := r_p.bl g13
  replace r_q := r_q.bl g13
  replace r_u := r_u.bl g13
  replace r_c := r_c.bl g13
  replace r_d := r_d.bl g13
  replace r_ee := r_ee.bl g13
  replace r_v1 := r_v1.bl g13
  replace r_v2 := r_v2.bl g13
  replace r_v3 := r_v3.bl g13
  replace r_v4 := r_v4.bl g13
  have G13 := G12.trans g13
  have r_v5 := o13.rs
  clear o13
  clear g13
  have e3 : v4 = v5 := reg_same q12.reg q13.reg fun x y => by
    rw [q12.has, q13.has, q5.has, q6.has]
    cases hasL p x y <;> cases hasL q x y <;> rfl
  replace e3 := Lib.hid e3
  go_wp2_with fail
  refine (same1t A12 A13 c12 c13 v4 v5 _ r_v4 r_v5 (Nat.le_trans (reg_len q12.reg q12.inr grid_near) (by omega)) e3.out).mono ?_
  rintro e W14 ⟨rfl, g14⟩
  replace g14 := g14.bl
  replace r_p := r_p.bl g14
  replace r_q := r_q.bl g14
  replace r_u := r_u.bl g14
  replace r_c := r_c.bl g14
  replace r_d := r_d.bl g14
  replace r_ee := r_ee.bl g14
  replace r_v1 := r_v1.bl g14
  replace r_v2 := r_v2.bl g14
  replace r_v3 := r_v3.bl g14
  replace r_v4 := r_v4.bl g14
  replace r_v5 := r_v5.bl g14
  have G14 := G13.trans g14
  clear g14
  go_wp2_with fail
  refine (less1 A5 A2 c5 c2 d q near near _ r_d r_q q5.reg q2.reg grid_near q5.inr q2.inr).mono ?_
  rintro e W15 ⟨A15, c15, v6, rfl, o15, q15, g15⟩
  replace r_p := r_p.bl g15
  replace r_q := r_q.bl g15
  replace r_u := r_u.bl g15
  replace r_c := r_c.bl g15
  replace r_d := r_d.bl g15
  replace r_ee := r_ee.bl g15
  replace r_v1 := r_v1.bl g15
  replace r_v2 := r_v2.bl g15
  replace r_v3 := r_v3.bl g15
  replace r_v4 := r_v4.bl g15
  replace r_v5 := r_v5.bl g15
  have G15 := G14.trans g15
  have r_v6 := o15.rs
  clear o15
  clear g15
  have e4 : v6 = d := reg_same q15.reg q5.reg fun x y => by
    rw [q15.has, q5.has]
    cases hasL p x y <;> cases hasL q x y <;> rfl
  replace e4 := Lib.hid e4
  go_wp2_with fail
  refine (same1t A15 A5 c15 c5 v6 d _ r_v6 r_d (Nat.le_trans (reg_len q15.reg q15.inr grid_near) (by omega)) e4.out).mono ?_
  rintro e W16 ⟨rfl, g16⟩
  replace g16 := g16.bl
  replace r_p := r_p.bl g16
  replace r_q := r_q.bl g16
  replace r_u := r_u.bl g16
  replace r_c := r_c.bl g16
  replace r_d := r_d.bl g16
  replace r_ee := r_ee.bl g16
  replace r_v1 := r_v1.bl g16
  replace r_v2 := r_v2.bl g16
  replace r_v3 := r_v3.bl g16
  replace r_v4 := r_v4.bl g16
  replace r_v5 := r_v5.bl g16
  replace r_v6 := r_v6.bl g16
  have G16 := G15.trans g16
  clear g16
  obtain ⟨za, hza, za0, za1⟩ : ∃ z : Int, Hid (z = areaL u) ∧ 0 ≤ z ∧ z ≤ 2000000000 := by
    have h1 := sm_take (sm_reg q3.reg q3.inr) (List.length u)
    rw [List.take_length] at h1
    have h2 := reg_len q3.reg q3.inr grid_near
    exact ⟨_, Lib.hid rfl, h1.1, by omega⟩
  obtain ⟨zb, hzb, zb0, zb1⟩ : ∃ z : Int, Hid (z = areaL c) ∧ 0 ≤ z ∧ z ≤ 2000000000 := by
    have h1 := sm_take (sm_reg q4.reg q4.inr) (List.length c)
    rw [List.take_length] at h1
    have h2 := reg_len q4.reg q4.inr grid_near
    exact ⟨_, Lib.hid rfl, h1.1, by omega⟩
  obtain ⟨zc, hzc, zc0, zc1⟩ : ∃ z : Int, Hid (z = areaL p) ∧ 0 ≤ z ∧ z ≤ 2000000000 := by
    have h1 := sm_take (sm_reg q1.reg q1.inr) (List.length p)
    rw [List.take_length] at h1
    have h2 := reg_len q1.reg q1.inr grid_near
    exact ⟨_, Lib.hid rfl, h1.1, by omega⟩
  obtain ⟨zd, hzd, zd0, zd1⟩ : ∃ z : Int, Hid (z = areaL q) ∧ 0 ≤ z ∧ z ≤ 2000000000 := by
    have h1 := sm_take (sm_reg q2.reg q2.inr) (List.length q)
    rw [List.take_length] at h1
    have h2 := reg_len q2.reg q2.inr grid_near
    exact ⟨_, Lib.hid rfl, h1.1, by omega⟩
  have hz : za + zb = zc + zd := by
    have h1 := cnt2_sum (P := hasL u) (Q := hasL c) (P' := hasL p) (Q' := hasL q) (fun x y => by
      rw [q3.has, q4.has]
      cases hasL p x y <;> cases hasL q x y <;> rfl)
    rw [← reg_area q3.reg q3.inr, ← reg_area q4.reg q4.inr, ← reg_area q1.reg q1.inr, ← reg_area q2.reg q2.inr] at h1
    have := hza.out
    have := hzb.out
    have := hzc.out
    have := hzd.out
    omega
  have hz2 : (za + zb == zc + zd) = true := by simpa using hz
  replace hz := Lib.hid hz
  have av := fun w h1 => areaR1 A3 c3 u w h1 (sm_reg q3.reg q3.inr) (reg_len q3.reg q3.inr grid_near)
  rw [← hza.out] at av
  go_wp2_with fail
  refine (av _ r_u).mono ?_
  rintro e W17 ⟨rfl, g17⟩
  replace g17 := g17.bl
  replace r_p := r_p.bl g17
  replace r_q := r_q.bl g17
  replace r_u := r_u.bl g17
  replace r_c := r_c.bl g17
  replace r_d := r_d.bl g17
  replace r_ee := r_ee.bl g17
  replace r_v1 := r_v1.bl g17
  replace r_v2 := r_v2.bl g17
  replace r_v3 := r_v3.bl g17
  replace r_v4 := r_v4.bl g17
  replace r_v5 := r_v5.bl g17
  replace r_v6 := r_v6.bl g17
  have G17 := G16.trans g17
  clear g17
  clear av
  have av := fun w h1 => areaR1 A4 c4 c w h1 (sm_reg q4.reg q4.inr) (reg_len q4.reg q4.inr grid_near)
  rw [← hzb.out] at av
  go_wp2_with fail
  refine (av _ r_c).mono ?_
  rintro e W18 ⟨rfl, g18⟩
  replace g18 := g18.bl
  replace r_p := r_p.bl g18
  replace r_q := r_q.bl g18
  replace r_u := r_u.bl g18
  replace r_c := r_c.bl g18
  replace r_d := r_d.bl g18
  replace r_ee := r_ee.bl g18
  replace r_v1 := r_v1.bl g18
  replace r_v2 := r_v2.bl g18
  replace r_v3 := r_v3.bl g18
  replace r_v4 := r_v4.bl g18
  replace r_v5 := r_v5.bl g18
  replace r_v6 := r_v6.bl g18
  have G18 := G17.trans g18
  clear g18
  clear av
  have av := fun w h1 => refareaR1 A1 c1 p w h1 (sm_reg q1.reg q1.inr) (reg_len q1.reg q1.inr grid_near)
  rw [← hzc.out] at av
  go_wp2_with fail
  refine (av _ r_p).mono ?_
  rintro e W19 ⟨rfl, g19⟩
  replace g19 := g19.bl
  replace r_p := r_p.bl g19
  replace r_q := r_q.bl g19
  replace r_u := r_u.bl g19
  replace r_c := r_c.bl g19
  replace r_d := r_d.bl g19
  replace r_ee := r_ee.bl g19
  replace r_v1 := r_v1.bl g19
  replace r_v2 := r_v2.bl g19
  replace r_v3 := r_v3.bl g19
  replace r_v4 := r_v4.bl g19
  replace r_v5 := r_v5.bl g19
  replace r_v6 := r_v6.bl g19
  have G19 := G18.trans g19
  clear g19
  clear av
  have av := fun w h1 => refareaR1 A2 c2 q w h1 (sm_reg q2.reg q2.inr) (reg_len q2.reg q2.inr grid_near)
  rw [← hzd.out] at av
  go_wp2_with fail
  refine (av _ r_q).mono ?_
  rintro e W20 ⟨rfl, g20⟩
  replace g20 := g20.bl
  replace r_p := r_p.bl g20
  replace r_q := r_q.bl g20
  replace r_u := r_u.bl g20
  replace r_c := r_c.bl g20
  replace r_d := r_d.bl g20
  replace r_ee := r_ee.bl g20
  replace r_v1 := r_v1.bl g20
  replace r_v2 := r_v2.bl g20
  replace r_v3 := r_v3.bl g20
  replace r_v4 := r_v4.bl g20
  replace r_v5 := r_v5.bl g20
  replace r_v6 := r_v6.bl g20
  have G20 := G19.trans g20
  clear g20
  clear av
  go_wp2_with fail
  refine (less1 A1 A1 c1 c1 p p near near _ r_p r_p q1.reg q1.reg grid_near q1.inr q1.inr).mono ?_
  rintro e W21 ⟨A21, c21, v7, rfl, o21, q21, g21⟩
  replace r_p := r_p.bl g21
  replace r_q := r_q.bl g21
  replace r_u := r_u.bl g21
  replace r_c := r_c.bl g21
  replace r_d := r_d.bl g21
  replace r_ee := r_ee.bl g21
  replace r_v1 := r_v1.bl g21
  replace r_v2 := r_v2.bl g21
  replace r_v3 := r_v3.bl g21
  replace r_v4 := r_v4.bl g21
  replace r_v5 := r_v5.bl g21
  replace r_v6 := r_v6.bl g21
  have G21 := G20.trans g21
  have r_v7 := o21.rs
  clear o21
  clear g21
  have e5 : v7 = [] := reg_same q21.reg nil_regL fun x y => by
    rw [q21.has, show hasL [] x y = false from rfl]
    cases hasL p x y <;> rfl
  subst e5
  have cv := fun w h1 h2 => coversR1 A3 A1 c3 c1 u p [] w h1 h2 q3.reg q1.reg q3.inr q1.inr nil_regL (fun x y => by rw [q3.has, show hasL [] x y = false from rfl]; cases hasL p x y <;> cases hasL q x y <;> rfl)
  rw [show decide (List.length [] = 0) = true from rfl] at cv
  go_wp2_with fail
  refine (cv _ r_u r_p).mono ?_
  rintro e W22 ⟨rfl, g22⟩
  replace r_p := r_p.bl g22
  replace r_q := r_q.bl g22
  replace r_u := r_u.bl g22
  replace r_c := r_c.bl g22
  replace r_d := r_d.bl g22
  replace r_ee := r_ee.bl g22
  replace r_v1 := r_v1.bl g22
  replace r_v2 := r_v2.bl g22
  replace r_v3 := r_v3.bl g22
  replace r_v4 := r_v4.bl g22
  replace r_v5 := r_v5.bl g22
  replace r_v6 := r_v6.bl g22
  replace r_v7 := r_v7.bl g22
  have G22 := G21.trans g22
  clear g22
  clear cv
  have cv := fun w h1 h2 => coversR1 A1 A4 c1 c4 p c [] w h1 h2 q1.reg q4.reg q1.inr q4.inr nil_regL (fun x y => by rw [q4.has, show hasL [] x y = false from rfl]; cases hasL p x y <;> cases hasL q x y <;> rfl)
  rw [show decide (List.length [] = 0) = true from rfl] at cv
  go_wp2_with fail
  refine (cv _ r_p r_c).mono ?_
  rintro e W23 ⟨rfl, g23⟩
  replace r_p := r_p.bl g23
  replace r_q := r_q.bl g23
  replace r_u := r_u.bl g23
  replace r_c := r_c.bl g23
  replace r_d := r_d.bl g23
  replace r_ee := r_ee.bl g23
  replace r_v1 := r_v1.bl g23
  replace r_v2 := r_v2.bl g23
  replace r_v3 := r_v3.bl g23
  replace r_v4 := r_v4.bl g23
  replace r_v5 := r_v5.bl g23
  replace r_v6 := r_v6.bl g23
  replace r_v7 := r_v7.bl g23
  have G23 := G22.trans g23
  clear g23
  clear cv
  obtain ⟨bz, hbz⟩ : ∃ bz : Bool, bz = decide (ee.length = 0) := ⟨_, rfl⟩
  have hz3 : ((ee.length : Int) == 0) = bz := by rw [hbz, Bool.eq_iff_iff]; simp
  replace hbz := Lib.hid hbz
  have cv := fun w h1 h2 => coversR1 A1 A2 c1 c2 p q ee w h1 h2 q1.reg q2.reg q1.inr q2.inr q6.reg (fun x y => by rw [q6.has])
  rw [show decide (List.length ee = 0) = bz from hbz.out.symm] at cv
  go_wp2_with fail
  refine (cv _ r_p r_q).mono ?_
  rintro e W24 ⟨rfl, g24⟩
  replace r_p := r_p.bl g24
  replace r_q := r_q.bl g24
  replace r_u := r_u.bl g24
  replace r_c := r_c.bl g24
  replace r_d := r_d.bl g24
  replace r_ee := r_ee.bl g24
  replace r_v1 := r_v1.bl g24
  replace r_v2 := r_v2.bl g24
  replace r_v3 := r_v3.bl g24
  replace r_v4 := r_v4.bl g24
  replace r_v5 := r_v5.bl g24
  replace r_v6 := r_v6.bl g24
  replace r_v7 := r_v7.bl g24
  have G24 := G23.trans g24
  clear g24
  clear cv
  go_wp2_with fail
  refine (lives1 _).mono ?_
  rintro e W25 ⟨rfl, g25⟩
  go_wp2
  go_ret
  exact ⟨rfl, G24.trans g25⟩

set_option maxRecDepth 100000 in
theorem regionLaws_lifted (os : Os) (started : os.Started) (H : Type) (enc : TypeId × Value → H) :
    ReturnsInHanded {} Try.checked os 7 .any (Rows.regionLawsSpec.pre6 enc Try.prog Try.f7 Rows.regionLawsRow.domain false) (Rows.regionLawsSpec.post enc Try.prog Try.f7 false true false false) := by
  refine returnsInHanded_of_change (C := Try.checked) own started (by kernel_rfl) Try.func7
    (ChangeSpec.witness6 (enc := enc) (C := Try.checked) false ⟨#[], #[.slice none 0 0, .slice none 0 0], []⟩ 8 (by kernel_rfl) (by kernel_rfl) (by kernel_rfl) (by kernel_rfl)) ?_
  intro W base args ds gs before hval0 hW hcnd _
  have hval : ∀ (j : Nat) t v, Try.f7.params[j]? = some t → args[j]? = some v → Value.okWide Try.prog W .any base t v := hval0
  have hW' := hW
  obtain ⟨p, q, hA0, hV, rfl, hfz, hnd⟩ := hW
  have hA : DataW.TrodAll enc Try.prog W 0 (fun _ => true) true Try.f7.params.toList args.toList ds p := hA0
  rw [Try.params7] at hA hval
  obtain ⟨v0, vs0, d0, ds0, p0, q0, hargs, rfl, rfl, h0, r0⟩ := trodAll_cons hA
  obtain ⟨v1, vs1, d1, ds1, p1, q1, rfl, rfl, rfl, h1, r1⟩ := trodAll_cons r0
  obtain ⟨rfl, rfl, rfl⟩ := trodAll_nil r1
  obtain rfl : args = #[v0, v1] := by cases args; simp_all
  obtain ⟨rfl, rfl⟩ := trodVars_none hV
  obtain ⟨A0, c0, L0, rfl, hc0, hm0, hr0, hI0⟩ := open_rects (hval 0 35 v0 rfl rfl) h0
  unfold maxLen at hm0
  obtain ⟨A1, c1, L1, rfl, hc1, hm1, hr1, hI1⟩ := open_rects (hval 1 35 v1 rfl rfl) h1
  unfold maxLen at hm1
  clear hA0 hval0
  simp only [List.append_nil] at hW'
  have hlt := hW'.lt
  refine (laws_core A0 A1 c0 c1 L0 L1 W hr0 hr1 hI0 hI1 (by omega) (by omega)).mono fun e W' ⟨he, hb⟩ => ?_
  subst he
  exact ⟨_, rfl, close_below (pa := p0 ++ p1) (pv := []) hW' (fun _ _ _ => (trodAll_cons_mk (shut_bool Try.underlying4 _) trodAll_mk0)) (fun sp hsp => by
      have := (trodAll_cons_mk (WideElems.Trod_stays laidOut (by kernel_rfl) (of_decide_eq_true (by kernel_rfl)) h0 (fun x hx => Below.same hb (hlt x (by simp [hx]))) (sp' := sp) (fun x hx => hsp x (by simp [hx]))) (trodAll_cons_mk (WideElems.Trod_stays laidOut (by kernel_rfl) (of_decide_eq_true (by kernel_rfl)) h1 (fun x hx => Below.same hb (hlt x (by simp [hx]))) (sp' := sp) (fun x hx => hsp x (by simp [hx]))) trodAll_mk0))
      simp only [List.append_nil] at this
      exact this)
    (fun _ _ => rfl) (by simp) hb (ok_one (by kernel_rfl) rfl (okWide_bool_mk Try.underlying4 _))⟩

theorem regionLaws_holds : Rows.RegionLawsSaid :=
  OpenClaim.holds_of_wide 7 Try.f7 rfl rfl rfl rfl rfl rfl rfl ⟨rfl, rfl, rfl, rfl, rfl⟩ rfl rfl rfl rfl rfl (by kernel_rfl) Try.func7 (by kernel_rfl)
    (of_decide_eq_true (by kernel_rfl)) (by unfold Func.isWrapper; first | (rw [if_pos (by decide +kernel)]; kernel_rfl) | (rw [if_neg (by decide +kernel)]; exact ⟨rfl, rfl⟩))
    (fun os started H enc _ => regionLaws_lifted os started H enc)

#print axioms regionLaws_holds

end Go.Proofs.Ytkmnibeggmkakaa
