/-
  What is proved: the statement RegionSets: what one of both has, both have, one alone, and just one, are the document's regions, point by point. No conditions.
-/
import Derived.Test.YtbhekpcjdpbahaaMz
import Derived.Test.YtbhekpcjdpbahaaHa
namespace Go.Proofs.Ytbhekpcjdpbahaa
open Go.ChangeShapes Go.WideShapes Go.ChangeAt Go.RowKit Go.Joins Go.Sort Go.Deep

theorem near_len {R : List Rc} (h : IsReg R) (hi : InR near near R) : R.length ≤ 1296 := by
  obtain ⟨gb, eb⟩ := h.bands
  have h1 := rects_len gb.toWk (InR.bands gb (by rw [eb]; exact hi))
  rw [eb, show near.length = 36 from by simp [near]] at h1
  omega
theorem OwR.capm2 {w : World} {B : Nat} {A : Option Addr} {c : Nat} {L : List Rc} (h : OwR w B A c L) : c ≤ 9223372036854775807 := by
  rcases h.2 with ⟨h1, h2⟩ | ⟨g, cap, cur, h1, _, _, _, h4, _⟩
  · injection h1 with a b c'; omega
  · injection h1 with a b c'; unfold maxLen at h4; omega

theorem tb0 : (true || true) = true := rfl
theorem tb1 : (true || false) = true := rfl
theorem tb2 : (false || true) = true := rfl
theorem tb3 : (false || false) = false := rfl
theorem ta0 : (true && true) = true := rfl
theorem ta1 : (true && false) = false := rfl
theorem ta2 : (false && true) = false := rfl
theorem ta3 : (false && false) = false := rfl
theorem tl0 : (true && !true) = false := rfl
theorem tl1 : (true && !false) = true := rfl
theorem tl2 : (false && !true) = false := rfl
theorem tl3 : (false && !false) = false := rfl
theorem tn0 : (true != true) = false := rfl
theorem tn1 : (true != false) = true := rfl
theorem tn2 : (false != true) = true := rfl
theorem tn3 : (false != false) = false := rfl

set_option maxRecDepth 100000 in
set_option maxHeartbeats 16000000 in
theorem sets_core (A B : Option Addr) (ca cb : Nat) (a b : List Rc) (x y : Int) (w : World) (hA : Rs w A a) (hB : Rs w B b) (ia : I64r a) (ib : I64r b) (la : a.length ≤ 9223372036854775807) (lb : b.length ≤ 9223372036854775807) (hx : I64 x) (hy : I64 y) :
    Calls Try.prog 6 #[.slice A a.length ca, .slice B b.length cb, .int .i64 x, .int .i64 y] w (LivesQ w) := by
  have G0 := Bl.refl w
  have ax := fun w => around1 x 40 w hx (by omega)
  have ay := fun w => around1 y 40 w hy (by omega)
  have bx := around_bd x 40 (by omega)
  have by' := around_bd y 40 (by omega)
  generalize around x 40 = X at *
  generalize around y 40 = Y at *
  obtain ⟨bx0, bx1⟩ := bx
  obtain ⟨by0, by1⟩ := by'
  clear hx hy
  go_enter Try.func6, Try.ntmps6
  go_wp2_with fail
  refine (refgood1 A ca a _ (hA.bl G0) ia la).mono ?_
  rintro e W1 ⟨A1, c1, p, rfl, o1, q1, g1⟩
  have G1 := G0.trans g1
  have r_p := o1.rs
  clear o1
  clear g1
  go_wp2_with fail
  refine (refgood1 B cb b _ (hB.bl G1) ib lb).mono ?_
  rintro e W2 ⟨A2, c2, q, rfl, o2, q2, g2⟩
  replace r_p := r_p.bl g2
  have G2 := G1.trans g2
  have r_q := o2.rs
  clear o2
  clear g2
  go_wp2_with fail
  refine (union1 A1 A2 c1 c2 p q near near _ r_p r_q q1.reg q2.reg grid_near q1.inr q2.inr).mono ?_
  rintro e W3 ⟨A3, c3, u, rfl, o3, q3, g3⟩
  replace r_p := r_p.bl g3
  replace r_q := r_q.bl g3
  have G3 := G2.trans g3
  have r_u := o3.rs
  have cp3 := o3.cap
  have cm3 := o3.capm2
  clear o3
  clear g3
  go_wp2_with fail
  refine (cutR1 A1 A2 c1 c2 p q near near _ r_p r_q q1.reg q2.reg grid_near q1.inr q2.inr).mono ?_
  rintro e W4 ⟨A4, c4, c, rfl, o4, q4, g4⟩
  replace r_p := r_p.bl g4
  replace r_q := r_q.bl g4
  replace r_u := r_u.bl g4
  have G4 := G3.trans g4
  have r_c := o4.rs
  have cp4 := o4.cap
  have cm4 := o4.capm2
  clear o4
  clear g4
  go_wp2_with fail
  refine (less1 A1 A2 c1 c2 p q near near _ r_p r_q q1.reg q2.reg grid_near q1.inr q2.inr).mono ?_
  rintro e W5 ⟨A5, c5, d, rfl, o5, q5, g5⟩
  replace r_p := r_p.bl g5
  replace r_q := r_q.bl g5
  replace r_u := r_u.bl g5
  replace r_c := r_c.bl g5
  have G5 := G4.trans g5
  have r_d := o5.rs
  have cp5 := o5.cap
  have cm5 := o5.capm2
  clear o5
  clear g5
  go_wp2_with fail
  refine (other1 A1 A2 c1 c2 p q near near _ r_p r_q q1.reg q2.reg grid_near q1.inr q2.inr).mono ?_
  rintro e W6 ⟨A6, c6, o, rfl, o6, q6, g6⟩
  replace r_p := r_p.bl g6
  replace r_q := r_q.bl g6
  replace r_u := r_u.bl g6
  replace r_c := r_c.bl g6
  replace r_d := r_d.bl g6
  have G6 := G5.trans g6
  have r_o := o6.rs
  have cp6 := o6.cap
  have cm6 := o6.capm2
  clear o6
  clear g6
  go_wp2_with fail
  refine (refunion1 A1 A2 c1 c2 p q near near _ r_p r_q (Nat.le_trans (near_len q1.reg q1.inr) (by omega)) (Nat.le_trans (near_len q2.reg q2.inr) (by omega)) grid_near q1.inr.ne q2.inr.ne).mono ?_
  rintro e W7 ⟨A7, c7, ru, rfl, o7, q7, g7⟩
  replace r_p := r_p.bl g7
  replace r_q := r_q.bl g7
  replace r_u := r_u.bl g7
  replace r_c := r_c.bl g7
  replace r_d := r_d.bl g7
  replace r_o := r_o.bl g7
  have G7 := G6.trans g7
  have r_ru := o7.rs
  clear o7
  clear g7
  have e7 : u = ru := reg_same q3.reg q7.reg fun x y => by
    rw [q3.has, q7.has, kpN0]
  replace e7 := Lib.hid e7
  go_wp2_with fail
  refine (refsame1t A3 A7 c3 c7 u ru _ r_u r_ru (Nat.le_trans (reg_len q3.reg q3.inr grid_near) (by omega)) e7.out).mono ?_
  rintro e W8 ⟨rfl, g8⟩
  replace g8 := g8.bl
  replace r_p := r_p.bl g8
  replace r_q := r_q.bl g8
  replace r_u := r_u.bl g8
  replace r_c := r_c.bl g8
  replace r_d := r_d.bl g8
  replace r_o := r_o.bl g8
  replace r_ru := r_ru.bl g8
  have G8 := G7.trans g8
  clear g8
  go_wp2_with fail
  refine (refcutR1 A1 A2 c1 c2 p q near near _ r_p r_q (Nat.le_trans (near_len q1.reg q1.inr) (by omega)) (Nat.le_trans (near_len q2.reg q2.inr) (by omega)) grid_near q1.inr.ne q2.inr.ne).mono ?_
  rintro e W9 ⟨A9, c9, rc, rfl, o9, q9, g9⟩
  replace r_p := r_p.bl g9
  replace r_q := r_q.bl g9
  replace r_u := r_u.bl g9
  replace r_c := r_c.bl g9
  replace r_d := r_d.bl g9
  replace r_o := r_o.bl g9
  replace r_ru := r_ru.bl g9
  have G9 := G8.trans g9
  have r_rc := o9.rs
  clear o9
  clear g9
  have e9 : c = rc := reg_same q4.reg q9.reg fun x y => by
    rw [q4.has, q9.has, kpN1]
  replace e9 := Lib.hid e9
  go_wp2_with fail
  refine (refsame1t A4 A9 c4 c9 c rc _ r_c r_rc (Nat.le_trans (reg_len q4.reg q4.inr grid_near) (by omega)) e9.out).mono ?_
  rintro e W10 ⟨rfl, g10⟩
  replace g10 := g10.bl
  replace r_p := r_p.bl g10
  replace r_q := r_q.bl g10
  replace r_u := r_u.bl g10
  replace r_c := r_c.bl g10
  replace r_d := r_d.bl g10
  replace r_o := r_o.bl g10
  replace r_ru := r_ru.bl g10
  replace r_rc := r_rc.bl g10
  have G10 := G9.trans g10
  clear g10
  go_wp2_with fail
  refine (refless1 A1 A2 c1 c2 p q near near _ r_p r_q (Nat.le_trans (near_len q1.reg q1.inr) (by omega)) (Nat.le_trans (near_len q2.reg q2.inr) (by omega)) grid_near q1.inr.ne q2.inr.ne).mono ?_
  rintro e W11 ⟨A11, c11, rd, rfl, o11, q11, g11⟩
  replace r_p := r_p.bl g11
  replace r_q := r_q.bl g11
  replace r_u := r_u.bl g11
  replace r_c := r_c.bl g11
  replace r_d := r_d.bl g11
  replace r_o := r_o.bl g11
  replace r_ru := r_ru.bl g11
  replace r_rc := r_rc.bl g11
  have G11 := G10.trans g11
  have r_rd := o11.rs
  clear o11
  clear g11
  have e11 : d = rd := reg_same q5.reg q11.reg fun x y => by
    rw [q5.has, q11.has, kpN2]
  replace e11 := Lib.hid e11
  go_wp2_with fail
  refine (refsame1t A5 A11 c5 c11 d rd _ r_d r_rd (Nat.le_trans (reg_len q5.reg q5.inr grid_near) (by omega)) e11.out).mono ?_
  rintro e W12 ⟨rfl, g12⟩
  replace g12 := g12.bl
  replace r_p := r_p.bl g12
  replace r_q := r_q.bl g12
  replace r_u := r_u.bl g12
  replace r_c := r_c.bl g12
  replace r_d := r_d.bl g12
  replace r_o := r_o.bl g12
  replace r_ru := r_ru.bl g12
  replace r_rc := r_rc.bl g12
  replace r_rd := r_rd.bl g12
  have G12 := G11.trans g12
  clear g12
  go_wp2_with fail
  refine (refother1 A1 A2 c1 c2 p q near near _ r_p r_q (Nat.le_trans (near_len q1.reg q1.inr) (by omega)) (Nat.le_trans (near_len q2.reg q2.inr) (by omega)) grid_near q1.inr.ne q2.inr.ne).mono ?_
  rintro e W13 ⟨A13, c13, ro, rfl, o13, q13, g13⟩
  replace r_p := r_p.bl g13
  replace r_q := r_q.bl g13
  replace r_u := r_u.bl g13
  replace r_c := r_c.bl g13
  replace r_d := r_d.bl g13
  replace r_o := r_o.bl g13
  replace r_ru := r_ru.bl g13
  replace r_rc := r_rc.bl g13
  replace r_rd := r_rd.bl g13
  have G13 := G12.trans g13
  have r_ro := o13.rs
  clear o13
  clear g13
  have e13 : o = ro := reg_same q6.reg q13.reg fun x y => by
    rw [q6.has, q13.has, kpN3]
  replace e13 := Lib.hid e13
  go_wp2_with fail
  refine (refsame1t A6 A13 c6 c13 o ro _ r_o r_ro (Nat.le_trans (reg_len q6.reg q6.inr grid_near) (by omega)) e13.out).mono ?_
  rintro e W14 ⟨rfl, g14⟩
  replace g14 := g14.bl
  replace r_p := r_p.bl g14
  replace r_q := r_q.bl g14
  replace r_u := r_u.bl g14
  replace r_c := r_c.bl g14
  replace r_d := r_d.bl g14
  replace r_o := r_o.bl g14
  replace r_ru := r_ru.bl g14
  replace r_rc := r_rc.bl g14
  replace r_rd := r_rd.bl g14
  replace r_ro := r_ro.bl g14
  have G14 := G13.trans g14
  clear g14
  go_wp2_with fail
  refine (ax _).mono ?_
  rintro e w9 ⟨rfl, rfl⟩
  go_wp2_with fail
  refine (ay _).mono ?_
  rintro e w9 ⟨rfl, rfl⟩
  have hv := fun w h => refHas1 A1 c1 p (X - 5) (Y - 5) w h (Nat.le_trans (reg_len q1.reg q1.inr grid_near) (by omega))
  obtain ⟨h1, hh1⟩ : ∃ z, hasL p (X - 5) (Y - 5) = z := ⟨_, rfl⟩
  rw [hh1] at hv
  replace hh1 := Lib.hid hh1
  go_wp2_with fail
  refine (hv _ r_p).mono ?_
  rintro e W16 ⟨rfl, g16⟩
  replace g16 := g16.bl
  replace r_p := r_p.bl g16
  replace r_q := r_q.bl g16
  replace r_u := r_u.bl g16
  replace r_c := r_c.bl g16
  replace r_d := r_d.bl g16
  replace r_o := r_o.bl g16
  replace r_ru := r_ru.bl g16
  replace r_rc := r_rc.bl g16
  replace r_rd := r_rd.bl g16
  replace r_ro := r_ro.bl g16
  have G16 := G14.trans g16
  clear g16
  clear hv
  have hv := fun w h => refHas1 A2 c2 q (X - 5) (Y - 5) w h (Nat.le_trans (reg_len q2.reg q2.inr grid_near) (by omega))
  obtain ⟨h2, hh2⟩ : ∃ z, hasL q (X - 5) (Y - 5) = z := ⟨_, rfl⟩
  rw [hh2] at hv
  replace hh2 := Lib.hid hh2
  go_wp2_with fail
  refine (hv _ r_q).mono ?_
  rintro e W17 ⟨rfl, g17⟩
  replace g17 := g17.bl
  replace r_p := r_p.bl g17
  replace r_q := r_q.bl g17
  replace r_u := r_u.bl g17
  replace r_c := r_c.bl g17
  replace r_d := r_d.bl g17
  replace r_o := r_o.bl g17
  replace r_ru := r_ru.bl g17
  replace r_rc := r_rc.bl g17
  replace r_rd := r_rd.bl g17
  replace r_ro := r_ro.bl g17
  have G17 := G16.trans g17
  clear g17
  clear hv
  cases h1 <;> cases h2
  all_goals
    have hv := fun w h => hasR1 A3 c3 u (X - 5) (Y - 5) w h (Nat.le_trans (reg_len q3.reg q3.inr grid_near) (by omega))
    rw [q3.has, hh1.out, hh2.out] at hv
    simp only [tb0, tb1, tb2, tb3] at hv
    go_wp2_with fail
    refine (hv _ r_u).mono ?_
    rintro e W18 ⟨rfl, g18⟩
    replace g18 := g18.bl
    replace r_p := r_p.bl g18
    replace r_q := r_q.bl g18
    replace r_u := r_u.bl g18
    replace r_c := r_c.bl g18
    replace r_d := r_d.bl g18
    replace r_o := r_o.bl g18
    replace r_ru := r_ru.bl g18
    replace r_rc := r_rc.bl g18
    replace r_rd := r_rd.bl g18
    replace r_ro := r_ro.bl g18
    have G18 := G17.trans g18
    clear g18
    clear hv
    have hv := fun w h => hasR1 A4 c4 c (X - 5) (Y - 5) w h (Nat.le_trans (reg_len q4.reg q4.inr grid_near) (by omega))
    rw [q4.has, hh1.out, hh2.out] at hv
    simp only [ta0, ta1, ta2, ta3] at hv
    go_wp2_with fail
    refine (hv _ r_c).mono ?_
    rintro e W19 ⟨rfl, g19⟩
    replace g19 := g19.bl
    replace r_p := r_p.bl g19
    replace r_q := r_q.bl g19
    replace r_u := r_u.bl g19
    replace r_c := r_c.bl g19
    replace r_d := r_d.bl g19
    replace r_o := r_o.bl g19
    replace r_ru := r_ru.bl g19
    replace r_rc := r_rc.bl g19
    replace r_rd := r_rd.bl g19
    replace r_ro := r_ro.bl g19
    have G19 := G18.trans g19
    clear g19
    clear hv
    have hv := fun w h => hasR1 A5 c5 d (X - 5) (Y - 5) w h (Nat.le_trans (reg_len q5.reg q5.inr grid_near) (by omega))
    rw [q5.has, hh1.out, hh2.out] at hv
    simp only [tl0, tl1, tl2, tl3] at hv
    go_wp2_with fail
    refine (hv _ r_d).mono ?_
    rintro e W20 ⟨rfl, g20⟩
    replace g20 := g20.bl
    replace r_p := r_p.bl g20
    replace r_q := r_q.bl g20
    replace r_u := r_u.bl g20
    replace r_c := r_c.bl g20
    replace r_d := r_d.bl g20
    replace r_o := r_o.bl g20
    replace r_ru := r_ru.bl g20
    replace r_rc := r_rc.bl g20
    replace r_rd := r_rd.bl g20
    replace r_ro := r_ro.bl g20
    have G20 := G19.trans g20
    clear g20
    clear hv
    have hv := fun w h => hasR1 A6 c6 o (X - 5) (Y - 5) w h (Nat.le_trans (reg_len q6.reg q6.inr grid_near) (by omega))
    rw [q6.has, hh1.out, hh2.out] at hv
    simp only [tn0, tn1, tn2, tn3] at hv
    go_wp2_with fail
    refine (hv _ r_o).mono ?_
    rintro e W21 ⟨rfl, g21⟩
    replace g21 := g21.bl
    replace r_p := r_p.bl g21
    replace r_q := r_q.bl g21
    replace r_u := r_u.bl g21
    replace r_c := r_c.bl g21
    replace r_d := r_d.bl g21
    replace r_o := r_o.bl g21
    replace r_ru := r_ru.bl g21
    replace r_rc := r_rc.bl g21
    replace r_rd := r_rd.bl g21
    replace r_ro := r_ro.bl g21
    have G21 := G20.trans g21
    clear g21
    clear hv
    obtain ⟨gd3, eb3⟩ := q3.reg.bands
    go_wp2_with fail
    refine (refmayT A3 c3 _ u _ r_u eb3.symm gd3 (reg_len q3.reg q3.inr grid_near) cp3 cm3).mono ?_
    rintro e W22 ⟨rfl, g22⟩
    replace r_p := r_p.bl g22
    replace r_q := r_q.bl g22
    replace r_u := r_u.bl g22
    replace r_c := r_c.bl g22
    replace r_d := r_d.bl g22
    replace r_o := r_o.bl g22
    replace r_ru := r_ru.bl g22
    replace r_rc := r_rc.bl g22
    replace r_rd := r_rd.bl g22
    replace r_ro := r_ro.bl g22
    have G22 := G21.trans g22
    clear g22
    obtain ⟨gd4, eb4⟩ := q4.reg.bands
    go_wp2_with fail
    refine (refmayT A4 c4 _ c _ r_c eb4.symm gd4 (reg_len q4.reg q4.inr grid_near) cp4 cm4).mono ?_
    rintro e W23 ⟨rfl, g23⟩
    replace r_p := r_p.bl g23
    replace r_q := r_q.bl g23
    replace r_u := r_u.bl g23
    replace r_c := r_c.bl g23
    replace r_d := r_d.bl g23
    replace r_o := r_o.bl g23
    replace r_ru := r_ru.bl g23
    replace r_rc := r_rc.bl g23
    replace r_rd := r_rd.bl g23
    replace r_ro := r_ro.bl g23
    have G23 := G22.trans g23
    clear g23
    obtain ⟨gd5, eb5⟩ := q5.reg.bands
    go_wp2_with fail
    refine (refmayT A5 c5 _ d _ r_d eb5.symm gd5 (reg_len q5.reg q5.inr grid_near) cp5 cm5).mono ?_
    rintro e W24 ⟨rfl, g24⟩
    replace r_p := r_p.bl g24
    replace r_q := r_q.bl g24
    replace r_u := r_u.bl g24
    replace r_c := r_c.bl g24
    replace r_d := r_d.bl g24
    replace r_o := r_o.bl g24
    replace r_ru := r_ru.bl g24
    replace r_rc := r_rc.bl g24
    replace r_rd := r_rd.bl g24
    replace r_ro := r_ro.bl g24
    have G24 := G23.trans g24
    clear g24
    obtain ⟨gd6, eb6⟩ := q6.reg.bands
    go_wp2_with fail
    refine (refmayT A6 c6 _ o _ r_o eb6.symm gd6 (reg_len q6.reg q6.inr grid_near) cp6 cm6).mono ?_
    rintro e W25 ⟨rfl, g25⟩
    replace r_p := r_p.bl g25
    replace r_q := r_q.bl g25
    replace r_u := r_u.bl g25
    replace r_c := r_c.bl g25
    replace r_d := r_d.bl g25
    replace r_o := r_o.bl g25
    replace r_ru := r_ru.bl g25
    replace r_rc := r_rc.bl g25
    replace r_rd := r_rd.bl g25
    replace r_ro := r_ro.bl g25
    have G25 := G24.trans g25
    clear g25
    go_wp2_with fail
    refine (lives1 _).mono ?_
    rintro e W26 ⟨rfl, g26⟩
    go_wp2
    go_ret
    exact ⟨rfl, G25.trans g26⟩

set_option maxRecDepth 100000 in
theorem regionSets_lifted (os : Os) (started : os.Started) (H : Type) (enc : TypeId × Value → H) :
    ReturnsInHanded {} Try.checked os 6 .any (Rows.regionSetsSpec.pre6 enc Try.prog Try.f6 Rows.regionSetsRow.domain false) (Rows.regionSetsSpec.post enc Try.prog Try.f6 false true false false) := by
  refine returnsInHanded_of_change (C := Try.checked) own started (by kernel_rfl) Try.func6
    (ChangeSpec.witness6 (enc := enc) (C := Try.checked) false ⟨#[], #[.slice none 0 0, .slice none 0 0, .int .i64 0, .int .i64 0], []⟩ 8 (by kernel_rfl) (by kernel_rfl) (by kernel_rfl) (by kernel_rfl)) ?_
  intro W base args ds gs before hval0 hW hcnd _
  have hval : ∀ (j : Nat) t v, Try.f6.params[j]? = some t → args[j]? = some v → Value.okWide Try.prog W .any base t v := hval0
  have hW' := hW
  obtain ⟨p, q, hA0, hV, rfl, hfz, hnd⟩ := hW
  have hA : DataW.TrodAll enc Try.prog W 0 (fun _ => true) true Try.f6.params.toList args.toList ds p := hA0
  rw [Try.params6] at hA hval
  obtain ⟨v0, vs0, d0, ds0, p0, q0, hargs, rfl, rfl, h0, r0⟩ := trodAll_cons hA
  obtain ⟨v1, vs1, d1, ds1, p1, q1, rfl, rfl, rfl, h1, r1⟩ := trodAll_cons r0
  obtain ⟨v2, vs2, d2, ds2, p2, q2, rfl, rfl, rfl, h2, r2⟩ := trodAll_cons r1
  obtain ⟨v3, vs3, d3, ds3, p3, q3, rfl, rfl, rfl, h3, r3⟩ := trodAll_cons r2
  obtain ⟨rfl, rfl, rfl⟩ := trodAll_nil r3
  obtain rfl : args = #[v0, v1, v2, v3] := by cases args; simp_all
  obtain ⟨rfl, rfl⟩ := trodVars_none hV
  obtain ⟨A0, c0, L0, rfl, hc0, hm0, hr0, hI0⟩ := open_rects (hval 0 35 v0 rfl rfl) h0
  unfold maxLen at hm0
  obtain ⟨A1, c1, L1, rfl, hc1, hm1, hr1, hI1⟩ := open_rects (hval 1 35 v1 rfl rfl) h1
  unfold maxLen at hm1
  obtain ⟨n2, rfl, rfl, rfl, un2⟩ := open_int Try.underlying3 (hval 2 3 v2 rfl rfl) h2
  have wn2 := I64.of_wf un2
  obtain ⟨n3, rfl, rfl, rfl, un3⟩ := open_int Try.underlying3 (hval 3 3 v3 rfl rfl) h3
  have wn3 := I64.of_wf un3
  clear hA0 hval0
  simp only [List.append_nil] at hW'
  have hlt := hW'.lt
  refine (sets_core A0 A1 c0 c1 L0 L1 n2 n3 W hr0 hr1 hI0 hI1 (by omega) (by omega) wn2 wn3).mono fun e W' ⟨he, hb⟩ => ?_
  subst he
  exact ⟨_, rfl, close_below (pa := p0 ++ p1) (pv := []) hW' (fun _ _ _ => (trodAll_cons_mk (shut_bool Try.underlying4 _) trodAll_mk0)) (fun sp hsp => by
      have := (trodAll_cons_mk (WideElems.Trod_stays laidOut (by kernel_rfl) (of_decide_eq_true (by kernel_rfl)) h0 (fun x hx => Below.same hb (hlt x (by simp [hx]))) (sp' := sp) (fun x hx => hsp x (by simp [hx]))) (trodAll_cons_mk (WideElems.Trod_stays laidOut (by kernel_rfl) (of_decide_eq_true (by kernel_rfl)) h1 (fun x hx => Below.same hb (hlt x (by simp [hx]))) (sp' := sp) (fun x hx => hsp x (by simp [hx]))) (trodAll_cons_mk (shut_int Try.underlying3 un2) (trodAll_cons_mk (shut_int Try.underlying3 un3) trodAll_mk0))))
      simp only [List.append_nil] at this
      exact this)
    (fun _ _ => rfl) (by simp) hb (ok_one (by kernel_rfl) rfl (okWide_bool_mk Try.underlying4 _))⟩

theorem regionSets_holds : Rows.RegionSetsSaid :=
  OpenClaim.holds_of_wide 6 Try.f6 rfl rfl rfl rfl rfl rfl rfl ⟨rfl, rfl, rfl, rfl, rfl⟩ rfl rfl rfl rfl rfl (by kernel_rfl) Try.func6 (by kernel_rfl)
    (of_decide_eq_true (by kernel_rfl)) (by unfold Func.isWrapper; first | (rw [if_pos (by decide +kernel)]; kernel_rfl) | (rw [if_neg (by decide +kernel)]; exact ⟨rfl, rfl⟩))
    (fun os started H enc _ => regionSets_lifted os started H enc)

#print axioms regionSets_holds

end Go.Proofs.Ytbhekpcjdpbahaa
