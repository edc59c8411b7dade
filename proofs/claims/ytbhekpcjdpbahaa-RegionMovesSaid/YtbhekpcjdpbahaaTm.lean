/-
  What is proved: the statement RegionMoves: regions that are moved, scaled, and kept small, are the document's. No conditions.
-/
import Derived.Test.YtbhekpcjdpbahaaMo
import Derived.Test.YtbhekpcjdpbahaaMz
import Derived.Test.YtbhekpcjdpbahaaHm
import Derived.Test.YtbhekpcjdpbahaaH3
namespace Go.Proofs.Ytbhekpcjdpbahaa
open Go.ChangeShapes Go.WideShapes Go.ChangeAt Go.RowKit Go.Joins Go.Sort Go.Deep

theorem near_lenM {R : List Rc} (h : IsReg R) (hi : InR near near R) : R.length ≤ 1296 := by
  obtain ⟨gb, eb⟩ := h.bands
  have h1 := rects_len gb.toWk (InR.bands gb (by rw [eb]; exact hi))
  rw [eb, show near.length = 36 from by simp [near]] at h1
  omega
theorem nil_regM : IsReg [] := ⟨[], ⟨Wk.nil, by simp⟩, rfl⟩
theorem eq_len {F1 : Rc → Rc} {F2 : Rc → Int} {L R : List Rc} {e : Int} (h : EQ F1 F2 L R e) : R.length ≤ L.length := by
  rcases h with ⟨_, _, _, _, _, _, rfl⟩ | ⟨_, rfl, _⟩
  · exact Nat.zero_le _
  · rw [List.length_map]; exact Nat.le_refl _
theorem near_bd {R : List Rc} (hi : InR near near R) : BdL R := fun r hr => by
  obtain ⟨i1, i2, i3, i4⟩ := hi r hr
  rw [near_mem] at i1 i2 i3 i4
  unfold Bd
  omega
theorem self_cov (L : List Rc) (x y : Int) : hasL [] x y = (hasL L x y && !hasL L x y) := by cases hasL L x y <;> rfl

set_option maxHeartbeats 2000000 in
theorem refscaleRo (A : Option Addr) (c n : Nat) (m : Int) (w : World) (hm : m < 1 ∨ 8 < m) :
    Calls Try.prog 51 #[.slice A n c, .int .i64 m] w (fun e w' => e = .returned (.tuple #[.slice none 0 0, .int .i64 1]) ∧ w = w') := by
  by_cases h : m < 1
  · go_enter Try.func51, Try.ntmps51
    go_wp2
    go_ret2
    exact ⟨rfl, rfl⟩
  · have h8 : 8 < m := by omega
    have h1 : ¬ m < 1 := by omega
    go_enter Try.func51, Try.ntmps51
    go_wp2
    go_ret2
    exact ⟨rfl, rfl⟩
set_option maxHeartbeats 1000000 in
theorem keep0m (A : Option Addr) (c n : Nat) (m : Int) (w : World) (hm : m < 1) : Calls Try.prog 52 #[.slice A n c, .int .i64 m] w (fun e w' => e = .returned (.slice none 0 0) ∧ w = w') := by
  go_enter Try.func52, Try.ntmps52
  go_wp2
  go_ret
  exact ⟨rfl, rfl⟩
set_option maxHeartbeats 1000000 in
theorem refkeepL (A : Option Addr) (c n : Nat) (m : Int) (w : World) (hm : (n : Int) ≤ m) : Calls Try.prog 53 #[.slice A n c, .int .i64 m] w (fun e w' => e = .returned (.slice A n c) ∧ w = w') := by
  go_enter Try.func53, Try.ntmps53
  go_wp2
  go_ret
  exact ⟨rfl, rfl⟩
set_option maxHeartbeats 1000000 in
theorem refkeep0 (A : Option Addr) (c n : Nat) (m : Int) (w : World) (h1 : ¬ (n : Int) ≤ m) (hm : m < 1) : Calls Try.prog 53 #[.slice A n c, .int .i64 m] w (fun e w' => e = .returned (.slice none 0 0) ∧ w = w') := by
  go_enter Try.func53, Try.ntmps53
  go_wp2
  go_ret
  exact ⟨rfl, rfl⟩
set_option maxHeartbeats 1000000 in
theorem refkeepH (A : Option Addr) (c : Nat) (L : List Rc) (m : Int) (H : Rc) (w : World) (hA : Rs w A L) (hl : L.length ≤ 100000000) (hlc : L.length ≤ c) (hm : 1 ≤ m) (hlm : m < (L.length : Int)) (hH : hullR (fun k => L.getD k ⟨0, 0, 0, 0⟩) L.length = H) :
    Calls Try.prog 53 #[.slice A L.length c, .int .i64 m] w (fun e w' => ∃ k0, e = .returned (.slice (some ⟨k0, 0, none⟩) 1 1) ∧ At w' k0 #[.int .i64 H.a, .int .i64 H.b, .int .i64 H.c, .int .i64 H.d] 23 ∧ Bl w w') := by
  obtain ⟨b, off, rfl, hrow⟩ := hA.opened (by omega)
  have cH := refhull1 b off L.length c _ w (by omega) (Rs.fn hrow) hlc
  rw [hH] at cH
  clear hH hrow
  generalize L.length = n at *
  obtain ⟨ha, hb, hc, hd⟩ := H
  dsimp only at cH ⊢
  have q1 : ¬ (n : Int) ≤ m := by omega
  have q2 : ¬ m < 1 := by omega
  go_enter Try.func53, Try.ntmps53
  go_wp2_with fail
  refine cH.mono ?_
  rintro e w' ⟨rfl, g1⟩
  go_wp2
  go_ret
  exact ⟨w'.heap.size, rfl, At.new w' _ _, g1.bl.alloc _⟩

set_option maxRecDepth 100000 in
set_option maxHeartbeats 16000000 in
theorem moves_a (A : Option Addr) (ca : Nat) (a : List Rc) (x y m : Int) (w : World) (hA : Rs w A a) (ia : I64r a) (la : a.length ≤ 9223372036854775807) (hx : I64 x) (hy : I64 y) (hm0 : m < 1) (hms : m < 1 ∨ 8 < m) :
    Calls Try.prog 9 #[.slice A a.length ca, .int .i64 x, .int .i64 y, .int .i64 m] w (LivesQ w) := by
  have G0 := Bl.refl w
  go_enter Try.func9, Try.ntmps9
  go_wp2_with fail
  refine (refgood1 A ca a _ (hA.bl G0) ia la).mono ?_
  rintro e W1 ⟨A1, c1, g, rfl, o1, q1, g1⟩
  have G1 := G0.trans g1
  have r_g := o1.rs
  have cp1 := o1.cap
  have cm1 := o1.capm4
  have nz := o1.nilz
  clear o1
  clear g1
  have gl := near_lenM q1.reg q1.inr
  have gb := near_bd q1.inr
  obtain ⟨gd, eb⟩ := q1.reg.bands
  go_wp2_with fail
  refine (moveR1 A1 c1 g x y _ r_g (by omega) gb hx hy).mono ?_
  rintro e W2 ⟨A2, c2, u, zu, rfl, o2, q2, g2⟩
  have cp2 := o2.cap
  have cm2 := o2.capm4
  replace r_g := r_g.bl g2
  have G2 := G1.trans g2
  have r_u := o2.rs
  clear o2
  clear g2
  go_wp2_with fail
  refine (refmoveR1 x y A1 c1 g _ r_g (by omega) gb hx hy).mono ?_
  rintro e W3 ⟨A3, c3, v, zv, rfl, o3, q3, g3⟩
  have cp3 := o3.cap
  have cm3 := o3.capm4
  replace r_g := r_g.bl g3
  replace r_u := r_u.bl g3
  have G3 := G2.trans g3
  have r_v := o3.rs
  clear o3
  clear g3
  obtain ⟨rfl, rfl⟩ := q2.one q3
  have ul := eq_len q2
  have ur := mv_reg q2 q1.reg
  go_wp2_with fail
  refine (scaleRo A1 c1 g.length m _ hms).mono ?_
  rintro e W4 ⟨rfl, g4⟩
  replace r_g := r_g.bl g4
  replace r_u := r_u.bl g4
  replace r_v := r_v.bl g4
  have G4 := G3.trans g4
  clear g4
  go_wp2_with fail
  refine (refscaleRo A1 c1 g.length m _ hms).mono ?_
  rintro e w9 ⟨rfl, rfl⟩
  go_wp2_with fail
  refine (keep0m A1 c1 g.length m _ hm0).mono ?_
  rintro e w9 ⟨rfl, rfl⟩
  go_wp2_with fail
  refine (refsame1t A2 A3 c2 c3 u u _ r_u r_v (by first | omega | simp) rfl).mono ?_
  rintro e W5 ⟨rfl, g5⟩
  replace g5 := g5.bl
  replace r_g := r_g.bl g5
  replace r_u := r_u.bl g5
  replace r_v := r_v.bl g5
  have G5 := G4.trans g5
  clear g5
  go_wp2_with fail
  refine (refsame1t none none 0 0 [] [] _ (.inl rfl) (.inl rfl) (by simp) rfl).mono ?_
  rintro e W6 ⟨rfl, g6⟩
  replace g6 := g6.bl
  replace r_g := r_g.bl g6
  replace r_u := r_u.bl g6
  replace r_v := r_v.bl g6
  have G6 := G5.trans g6
  clear g6
  by_cases hgl : (g.length : Int) ≤ m
  · go_wp2_with fail
    refine (refkeepL A1 c1 g.length m _ (by omega)).mono ?_
    rintro e w9 ⟨rfl, rfl⟩
    have hg0 : g = [] := List.eq_nil_of_length_eq_zero (by omega)
    have sm := fun w h => refsame1t none A1 0 c1 [] g w (.inl rfl) h (by simp) hg0.symm
    replace hg0 := Lib.hid hg0
    go_wp2_with fail
    refine (sm _ r_g).mono ?_
    rintro e W7 ⟨rfl, g7⟩
    replace g7 := g7.bl
    replace r_g := r_g.bl g7
    replace r_u := r_u.bl g7
    replace r_v := r_v.bl g7
    have G7 := G6.trans g7
    clear g7
    obtain ⟨gd2, eb2⟩ := ur.bands
    go_wp2_with fail
    refine (refmayT A2 c2 _ u _ r_u eb2.symm gd2 (by omega) cp2 cm2).mono ?_
    rintro e W8 ⟨rfl, g8⟩
    replace r_g := r_g.bl g8
    replace r_u := r_u.bl g8
    replace r_v := r_v.bl g8
    have G8 := G7.trans g8
    clear g8
    go_wp2_with fail
    refine (refmayT none 0 [] [] _ (.inl rfl) rfl ⟨Wk.nil, by simp⟩ (by simp) (by simp) (by omega)).mono ?_
    rintro e W9 ⟨rfl, g9⟩
    replace r_g := r_g.bl g9
    replace r_u := r_u.bl g9
    replace r_v := r_v.bl g9
    have G9 := G8.trans g9
    clear g9
    go_wp2_with fail
    refine (lives1 _).mono ?_
    rintro e W10 ⟨rfl, g10⟩
    go_wp2
    go_ret
    exact ⟨rfl, G9.trans g10⟩
  · go_wp2_with fail
    refine (refkeep0 A1 c1 g.length m _ (by omega) hm0).mono ?_
    rintro e w9 ⟨rfl, rfl⟩
    go_wp2_with fail
    refine (refsame1t none none 0 0 [] [] _ (.inl rfl) (.inl rfl) (by simp) rfl).mono ?_
    rintro e W7 ⟨rfl, g7⟩
    replace g7 := g7.bl
    replace r_g := r_g.bl g7
    replace r_u := r_u.bl g7
    replace r_v := r_v.bl g7
    have G7 := G6.trans g7
    clear g7
    obtain ⟨gd2, eb2⟩ := ur.bands
    go_wp2_with fail
    refine (refmayT A2 c2 _ u _ r_u eb2.symm gd2 (by omega) cp2 cm2).mono ?_
    rintro e W8 ⟨rfl, g8⟩
    replace r_g := r_g.bl g8
    replace r_u := r_u.bl g8
    replace r_v := r_v.bl g8
    have G8 := G7.trans g8
    clear g8
    go_wp2_with fail
    refine (refmayT none 0 [] [] _ (.inl rfl) rfl ⟨Wk.nil, by simp⟩ (by simp) (by simp) (by omega)).mono ?_
    rintro e W9 ⟨rfl, g9⟩
    replace r_g := r_g.bl g9
    replace r_u := r_u.bl g9
    replace r_v := r_v.bl g9
    have G9 := G8.trans g9
    clear g9
    go_wp2_with fail
    refine (lives1 _).mono ?_
    rintro e W10 ⟨rfl, g10⟩
    go_wp2
    go_ret
    exact ⟨rfl, G9.trans g10⟩

set_option maxRecDepth 100000 in
set_option maxHeartbeats 16000000 in
theorem moves_b (A : Option Addr) (ca : Nat) (a : List Rc) (x y m : Int) (w : World) (hA : Rs w A a) (ia : I64r a) (la : a.length ≤ 9223372036854775807) (hx : I64 x) (hy : I64 y) (h1 : 1 ≤ m) (h8 : m ≤ 8) :
    Calls Try.prog 9 #[.slice A a.length ca, .int .i64 x, .int .i64 y, .int .i64 m] w (LivesQ w) := by
  have G0 := Bl.refl w
  go_enter Try.func9, Try.ntmps9
  go_wp2_with fail
  refine (refgood1 A ca a _ (hA.bl G0) ia la).mono ?_
  rintro e W1 ⟨A1, c1, g, rfl, o1, q1, g1⟩
  have G1 := G0.trans g1
  have r_g := o1.rs
  have cp1 := o1.cap
  have cm1 := o1.capm4
  have nz := o1.nilz
  clear o1
  clear g1
  have gl := near_lenM q1.reg q1.inr
  have gb := near_bd q1.inr
  obtain ⟨gd, eb⟩ := q1.reg.bands
  by_cases hgm : (g.length : Int) ≤ m
  · skip
    go_wp2_with fail
    refine (moveR1 A1 c1 g x y _ r_g (by omega) gb hx hy).mono ?_
    rintro e W2 ⟨A2, c2, u, zu, rfl, o2, q2, g2⟩
    have cp2 := o2.cap
    have cm2 := o2.capm4
    replace r_g := r_g.bl g2
    have G2 := G1.trans g2
    have r_u := o2.rs
    clear o2
    clear g2
    go_wp2_with fail
    refine (refmoveR1 x y A1 c1 g _ r_g (by omega) gb hx hy).mono ?_
    rintro e W3 ⟨A3, c3, v, zv, rfl, o3, q3, g3⟩
    have cp3 := o3.cap
    have cm3 := o3.capm4
    replace r_g := r_g.bl g3
    replace r_u := r_u.bl g3
    have G3 := G2.trans g3
    have r_v := o3.rs
    clear o3
    clear g3
    obtain ⟨rfl, rfl⟩ := q2.one q3
    have ul := eq_len q2
    have ur := mv_reg q2 q1.reg
    go_wp2_with fail
    refine (scaleR1 A1 c1 g m _ r_g (by omega) h1 h8).mono ?_
    rintro e W4 ⟨A4, c4, s, zs, rfl, o4, q4, g4⟩
    have cp4 := o4.cap
    have cm4 := o4.capm4
    replace r_g := r_g.bl g4
    replace r_u := r_u.bl g4
    replace r_v := r_v.bl g4
    have G4 := G3.trans g4
    have r_s := o4.rs
    clear o4
    clear g4
    go_wp2_with fail
    refine (refscaleR1 m A1 c1 g _ r_g (by omega) h1 h8).mono ?_
    rintro e W5 ⟨A5, c5, t, zt, rfl, o5, q5, g5⟩
    have cp5 := o5.cap
    have cm5 := o5.capm4
    replace r_g := r_g.bl g5
    replace r_u := r_u.bl g5
    replace r_v := r_v.bl g5
    replace r_s := r_s.bl g5
    have G5 := G4.trans g5
    have r_t := o5.rs
    clear o5
    clear g5
    obtain ⟨rfl, rfl⟩ := q4.one q5
    have sl := eq_len q4
    have sr := sc_reg h1 h8 q4 q1.reg
    go_wp2_with fail
    refine (keepC A1 c1 g m _ r_g (by omega) nz (by omega) (by omega)).mono ?_
    rintro e W6 ⟨A6, c6, kk, rfl, o6, q6, g6⟩
    replace r_g := r_g.bl g6
    replace r_u := r_u.bl g6
    replace r_v := r_v.bl g6
    replace r_s := r_s.bl g6
    replace r_t := r_t.bl g6
    have G6 := G5.trans g6
    have r_kk := o6.rs
    clear o6
    clear g6
    obtain rfl := q6
    go_wp2_with fail
    refine (refsame1t A2 A3 c2 c3 u u _ r_u r_v (by first | omega | simp) rfl).mono ?_
    rintro e W7 ⟨rfl, g7⟩
    replace g7 := g7.bl
    replace r_g := r_g.bl g7
    replace r_u := r_u.bl g7
    replace r_v := r_v.bl g7
    replace r_s := r_s.bl g7
    replace r_t := r_t.bl g7
    replace r_kk := r_kk.bl g7
    have G7 := G6.trans g7
    clear g7
    go_wp2_with fail
    refine (refsame1t A4 A5 c4 c5 s s _ r_s r_t (by first | omega | simp) rfl).mono ?_
    rintro e W8 ⟨rfl, g8⟩
    replace g8 := g8.bl
    replace r_g := r_g.bl g8
    replace r_u := r_u.bl g8
    replace r_v := r_v.bl g8
    replace r_s := r_s.bl g8
    replace r_t := r_t.bl g8
    replace r_kk := r_kk.bl g8
    have G8 := G7.trans g8
    clear g8
    go_wp2_with fail
    refine (refkeepL A1 c1 _ m _ (by omega)).mono ?_
    rintro e w9 ⟨rfl, rfl⟩
    go_wp2_with fail
    refine (refsame1t A6 A1 c6 c1 kk kk _ r_kk r_g (by first | omega | simp) rfl).mono ?_
    rintro e W9 ⟨rfl, g9⟩
    replace g9 := g9.bl
    replace r_g := r_g.bl g9
    replace r_u := r_u.bl g9
    replace r_v := r_v.bl g9
    replace r_s := r_s.bl g9
    replace r_t := r_t.bl g9
    replace r_kk := r_kk.bl g9
    have G9 := G8.trans g9
    clear g9
    have cv := fun w h1 h2 => coversR1 A6 A1 c6 c1 kk kk [] w h1 h2 q1.reg q1.reg q1.inr q1.inr nil_regM (self_cov kk)
    go_wp2_with fail
    refine (cv _ r_kk r_g).mono ?_
    rintro e W10 ⟨rfl, g10⟩
    replace r_g := r_g.bl g10
    replace r_u := r_u.bl g10
    replace r_v := r_v.bl g10
    replace r_s := r_s.bl g10
    replace r_t := r_t.bl g10
    replace r_kk := r_kk.bl g10
    have G10 := G9.trans g10
    clear g10
    by_cases hz : zs = 0
    · subst hz
      have sm := sm_reg q1.reg q1.inr
      obtain ⟨ha1, ha2⟩ := sc_area h1 h8 q4 sm
      have hmm : 0 ≤ m * m ∧ m * m ≤ 64 := ⟨Int.mul_nonneg (by omega) (by omega), Int.le_trans (Int.mul_le_mul h8 h8 (by omega) (by omega)) (by omega)⟩
      obtain ⟨hm1, hm2⟩ := hmm
      have tk := sm_take sm (List.length kk)
      rw [List.take_length] at tk
      have hp1 : 0 ≤ m * m * areaL kk := Int.mul_nonneg hm1 tk.1
      have hp2 : m * m * areaL kk ≤ 64 * areaL kk := Int.mul_le_mul_of_nonneg_right hm2 tk.1
      have av := fun w h => areaRW A4 c4 s w h ha2 (by omega)
      have au := fun w h => refareaR1 A1 c1 kk w h sm (by omega)
      rw [ha1] at av
      obtain ⟨tk0, tk1⟩ := tk
      clear ha1
      generalize areaL kk = z at *
      have hp3 : m * m * z ≤ 9223372036854775807 := by omega
      clear hp2
      go_wp2_with fail
      refine (av _ r_s).mono ?_
      rintro e W11 ⟨rfl, g11⟩
      replace g11 := g11.bl
      replace r_g := r_g.bl g11
      replace r_u := r_u.bl g11
      replace r_v := r_v.bl g11
      replace r_s := r_s.bl g11
      replace r_t := r_t.bl g11
      replace r_kk := r_kk.bl g11
      have G11 := G10.trans g11
      clear g11
      go_wp2_with fail
      refine (au _ r_g).mono ?_
      rintro e W12 ⟨rfl, g12⟩
      replace g12 := g12.bl
      replace r_g := r_g.bl g12
      replace r_u := r_u.bl g12
      replace r_v := r_v.bl g12
      replace r_s := r_s.bl g12
      replace r_t := r_t.bl g12
      replace r_kk := r_kk.bl g12
      have G12 := G11.trans g12
      clear g12
      obtain ⟨gd2, eb2⟩ := ur.bands
      go_wp2_with fail
      refine (refmayT A2 c2 _ u _ r_u eb2.symm gd2 (by omega) cp2 cm2).mono ?_
      rintro e W13 ⟨rfl, g13⟩
      replace r_g := r_g.bl g13
      replace r_u := r_u.bl g13
      replace r_v := r_v.bl g13
      replace r_s := r_s.bl g13
      replace r_t := r_t.bl g13
      replace r_kk := r_kk.bl g13
      have G13 := G12.trans g13
      clear g13
      obtain ⟨gd4, eb4⟩ := sr.bands
      go_wp2_with fail
      refine (refmayT A4 c4 _ s _ r_s eb4.symm gd4 (by omega) cp4 cm4).mono ?_
      rintro e W14 ⟨rfl, g14⟩
      replace r_g := r_g.bl g14
      replace r_u := r_u.bl g14
      replace r_v := r_v.bl g14
      replace r_s := r_s.bl g14
      replace r_t := r_t.bl g14
      replace r_kk := r_kk.bl g14
      have G14 := G13.trans g14
      clear g14
      go_wp2_with fail
      refine (lives1 _).mono ?_
      rintro e W15 ⟨rfl, g15⟩
      go_wp2
      go_ret
      exact ⟨rfl, G14.trans g15⟩
    · have hzn : (zs != 0) = true := by simpa using hz
      clear hz
      obtain ⟨gd2, eb2⟩ := ur.bands
      go_wp2_with fail
      refine (refmayT A2 c2 _ u _ r_u eb2.symm gd2 (by omega) cp2 cm2).mono ?_
      rintro e W11 ⟨rfl, g11⟩
      replace r_g := r_g.bl g11
      replace r_u := r_u.bl g11
      replace r_v := r_v.bl g11
      replace r_s := r_s.bl g11
      replace r_t := r_t.bl g11
      replace r_kk := r_kk.bl g11
      have G11 := G10.trans g11
      clear g11
      obtain ⟨gd4, eb4⟩ := sr.bands
      go_wp2_with fail
      refine (refmayT A4 c4 _ s _ r_s eb4.symm gd4 (by omega) cp4 cm4).mono ?_
      rintro e W12 ⟨rfl, g12⟩
      replace r_g := r_g.bl g12
      replace r_u := r_u.bl g12
      replace r_v := r_v.bl g12
      replace r_s := r_s.bl g12
      replace r_t := r_t.bl g12
      replace r_kk := r_kk.bl g12
      have G12 := G11.trans g12
      clear g12
      go_wp2_with fail
      refine (lives1 _).mono ?_
      rintro e W13 ⟨rfl, g13⟩
      go_wp2
      go_ret
      exact ⟨rfl, G12.trans g13⟩

  · skip
    have hq := hl_q gd (by rw [eb]; omega)
    rw [eb] at hq
    obtain ⟨H, hH⟩ : ∃ H, hullR (fun k => g.getD k ⟨0, 0, 0, 0⟩) g.length = H := ⟨_, rfl⟩
    rw [hH] at hq
    go_wp2_with fail
    refine (moveR1 A1 c1 g x y _ r_g (by omega) gb hx hy).mono ?_
    rintro e W2 ⟨A2, c2, u, zu, rfl, o2, q2, g2⟩
    have cp2 := o2.cap
    have cm2 := o2.capm4
    replace r_g := r_g.bl g2
    have G2 := G1.trans g2
    have r_u := o2.rs
    clear o2
    clear g2
    go_wp2_with fail
    refine (refmoveR1 x y A1 c1 g _ r_g (by omega) gb hx hy).mono ?_
    rintro e W3 ⟨A3, c3, v, zv, rfl, o3, q3, g3⟩
    have cp3 := o3.cap
    have cm3 := o3.capm4
    replace r_g := r_g.bl g3
    replace r_u := r_u.bl g3
    have G3 := G2.trans g3
    have r_v := o3.rs
    clear o3
    clear g3
    obtain ⟨rfl, rfl⟩ := q2.one q3
    have ul := eq_len q2
    have ur := mv_reg q2 q1.reg
    go_wp2_with fail
    refine (scaleR1 A1 c1 g m _ r_g (by omega) h1 h8).mono ?_
    rintro e W4 ⟨A4, c4, s, zs, rfl, o4, q4, g4⟩
    have cp4 := o4.cap
    have cm4 := o4.capm4
    replace r_g := r_g.bl g4
    replace r_u := r_u.bl g4
    replace r_v := r_v.bl g4
    have G4 := G3.trans g4
    have r_s := o4.rs
    clear o4
    clear g4
    go_wp2_with fail
    refine (refscaleR1 m A1 c1 g _ r_g (by omega) h1 h8).mono ?_
    rintro e W5 ⟨A5, c5, t, zt, rfl, o5, q5, g5⟩
    have cp5 := o5.cap
    have cm5 := o5.capm4
    replace r_g := r_g.bl g5
    replace r_u := r_u.bl g5
    replace r_v := r_v.bl g5
    replace r_s := r_s.bl g5
    have G5 := G4.trans g5
    have r_t := o5.rs
    clear o5
    clear g5
    obtain ⟨rfl, rfl⟩ := q4.one q5
    have sl := eq_len q4
    have sr := sc_reg h1 h8 q4 q1.reg
    go_wp2_with fail
    refine (keepH A1 c1 g m H _ r_g (by omega) cp1 (by omega) (by omega) hH).mono ?_
    rintro e W6 ⟨kb, rfl, X, g6⟩
    replace r_g := r_g.bl g6
    replace r_u := r_u.bl g6
    replace r_v := r_v.bl g6
    replace r_s := r_s.bl g6
    replace r_t := r_t.bl g6
    have G6 := G5.trans g6
    clear g6
    have r_h : Rs W6 (some ⟨kb, 0, none⟩) [H] := .inr ⟨kb, 0, rfl, At.rowR X rfl⟩
    clear X
    go_wp2_with fail
    refine (refsame1t A2 A3 c2 c3 u u _ r_u r_v (by first | omega | simp) rfl).mono ?_
    rintro e W7 ⟨rfl, g7⟩
    replace g7 := g7.bl
    replace r_g := r_g.bl g7
    replace r_u := r_u.bl g7
    replace r_v := r_v.bl g7
    replace r_s := r_s.bl g7
    replace r_t := r_t.bl g7
    replace r_h := r_h.bl g7
    have G7 := G6.trans g7
    clear g7
    go_wp2_with fail
    refine (refsame1t A4 A5 c4 c5 s s _ r_s r_t (by first | omega | simp) rfl).mono ?_
    rintro e W8 ⟨rfl, g8⟩
    replace g8 := g8.bl
    replace r_g := r_g.bl g8
    replace r_u := r_u.bl g8
    replace r_v := r_v.bl g8
    replace r_s := r_s.bl g8
    replace r_t := r_t.bl g8
    replace r_h := r_h.bl g8
    have G8 := G7.trans g8
    clear g8
    go_wp2_with fail
    refine (refkeepH A1 c1 g m H _ r_g (by omega) cp1 (by omega) (by omega) hH).mono ?_
    rintro e W9 ⟨kc, rfl, X, g9⟩
    replace r_g := r_g.bl g9
    replace r_u := r_u.bl g9
    replace r_v := r_v.bl g9
    replace r_s := r_s.bl g9
    replace r_t := r_t.bl g9
    replace r_h := r_h.bl g9
    have G9 := G8.trans g9
    clear g9
    have r_j : Rs W9 (some ⟨kc, 0, none⟩) [H] := .inr ⟨kc, 0, rfl, At.rowR X rfl⟩
    clear X hH
    go_wp2_with fail
    refine (refsame1t (some ⟨kb, 0, none⟩) (some ⟨kc, 0, none⟩) 1 1 [H] [H] _ r_h r_j (by first | omega | simp) rfl).mono ?_
    rintro e W10 ⟨rfl, g10⟩
    replace g10 := g10.bl
    replace r_g := r_g.bl g10
    replace r_u := r_u.bl g10
    replace r_v := r_v.bl g10
    replace r_s := r_s.bl g10
    replace r_t := r_t.bl g10
    replace r_h := r_h.bl g10
    replace r_j := r_j.bl g10
    have G10 := G9.trans g10
    clear g10
    have cv := fun w h1 h2 => coversR1 (some ⟨kb, 0, none⟩) A1 1 c1 [H] g [] w h1 h2 (pt_reg hq.pt) q1.reg (hq.mem _ _ q1.inr) q1.inr nil_regM (hl_cov hq)
    go_wp2_with fail
    refine (cv _ r_h r_g).mono ?_
    rintro e W11 ⟨rfl, g11⟩
    replace r_g := r_g.bl g11
    replace r_u := r_u.bl g11
    replace r_v := r_v.bl g11
    replace r_s := r_s.bl g11
    replace r_t := r_t.bl g11
    replace r_h := r_h.bl g11
    replace r_j := r_j.bl g11
    have G11 := G10.trans g11
    clear g11
    by_cases hz : zs = 0
    · subst hz
      have sm := sm_reg q1.reg q1.inr
      obtain ⟨ha1, ha2⟩ := sc_area h1 h8 q4 sm
      have hmm : 0 ≤ m * m ∧ m * m ≤ 64 := ⟨Int.mul_nonneg (by omega) (by omega), Int.le_trans (Int.mul_le_mul h8 h8 (by omega) (by omega)) (by omega)⟩
      obtain ⟨hm1, hm2⟩ := hmm
      have tk := sm_take sm (List.length g)
      rw [List.take_length] at tk
      have hp1 : 0 ≤ m * m * areaL g := Int.mul_nonneg hm1 tk.1
      have hp2 : m * m * areaL g ≤ 64 * areaL g := Int.mul_le_mul_of_nonneg_right hm2 tk.1
      have av := fun w h => areaRW A4 c4 s w h ha2 (by omega)
      have au := fun w h => refareaR1 A1 c1 g w h sm (by omega)
      rw [ha1] at av
      obtain ⟨tk0, tk1⟩ := tk
      clear ha1
      generalize areaL g = z at *
      have hp3 : m * m * z ≤ 9223372036854775807 := by omega
      clear hp2
      go_wp2_with fail
      refine (av _ r_s).mono ?_
      rintro e W12 ⟨rfl, g12⟩
      replace g12 := g12.bl
      replace r_g := r_g.bl g12
      replace r_u := r_u.bl g12
      replace r_v := r_v.bl g12
      replace r_s := r_s.bl g12
      replace r_t := r_t.bl g12
      replace r_h := r_h.bl g12
      replace r_j := r_j.bl g12
      have G12 := G11.trans g12
      clear g12
      go_wp2_with fail
      refine (au _ r_g).mono ?_
      rintro e W13 ⟨rfl, g13⟩
      replace g13 := g13.bl
      replace r_g := r_g.bl g13
      replace r_u := r_u.bl g13
      replace r_v := r_v.bl g13
      replace r_s := r_s.bl g13
      replace r_t := r_t.bl g13
      replace r_h := r_h.bl g13
      replace r_j := r_j.bl g13
      have G13 := G12.trans g13
      clear g13
      obtain ⟨gd2, eb2⟩ := ur.bands
      go_wp2_with fail
      refine (refmayT A2 c2 _ u _ r_u eb2.symm gd2 (by omega) cp2 cm2).mono ?_
      rintro e W14 ⟨rfl, g14⟩
      replace r_g := r_g.bl g14
      replace r_u := r_u.bl g14
      replace r_v := r_v.bl g14
      replace r_s := r_s.bl g14
      replace r_t := r_t.bl g14
      replace r_h := r_h.bl g14
      replace r_j := r_j.bl g14
      have G14 := G13.trans g14
      clear g14
      obtain ⟨gd4, eb4⟩ := sr.bands
      go_wp2_with fail
      refine (refmayT A4 c4 _ s _ r_s eb4.symm gd4 (by omega) cp4 cm4).mono ?_
      rintro e W15 ⟨rfl, g15⟩
      replace r_g := r_g.bl g15
      replace r_u := r_u.bl g15
      replace r_v := r_v.bl g15
      replace r_s := r_s.bl g15
      replace r_t := r_t.bl g15
      replace r_h := r_h.bl g15
      replace r_j := r_j.bl g15
      have G15 := G14.trans g15
      clear g15
      go_wp2_with fail
      refine (lives1 _).mono ?_
      rintro e W16 ⟨rfl, g16⟩
      go_wp2
      go_ret
      exact ⟨rfl, G15.trans g16⟩
    · have hzn : (zs != 0) = true := by simpa using hz
      clear hz
      obtain ⟨gd2, eb2⟩ := ur.bands
      go_wp2_with fail
      refine (refmayT A2 c2 _ u _ r_u eb2.symm gd2 (by omega) cp2 cm2).mono ?_
      rintro e W12 ⟨rfl, g12⟩
      replace r_g := r_g.bl g12
      replace r_u := r_u.bl g12
      replace r_v := r_v.bl g12
      replace r_s := r_s.bl g12
      replace r_t := r_t.bl g12
      replace r_h := r_h.bl g12
      replace r_j := r_j.bl g12
      have G12 := G11.trans g12
      clear g12
      obtain ⟨gd4, eb4⟩ := sr.bands
      go_wp2_with fail
      refine (refmayT A4 c4 _ s _ r_s eb4.symm gd4 (by omega) cp4 cm4).mono ?_
      rintro e W13 ⟨rfl, g13⟩
      replace r_g := r_g.bl g13
      replace r_u := r_u.bl g13
      replace r_v := r_v.bl g13
      replace r_s := r_s.bl g13
      replace r_t := r_t.bl g13
      replace r_h := r_h.bl g13
      replace r_j := r_j.bl g13
      have G13 := G12.trans g13
      clear g13
      go_wp2_with fail
      refine (lives1 _).mono ?_
      rintro e W14 ⟨rfl, g14⟩
      go_wp2
      go_ret
      exact ⟨rfl, G13.trans g14⟩


set_option maxRecDepth 100000 in
set_option maxHeartbeats 16000000 in
theorem moves_c (A : Option Addr) (ca : Nat) (a : List Rc) (x y m : Int) (w : World) (hA : Rs w A a) (ia : I64r a) (la : a.length ≤ 9223372036854775807) (hx : I64 x) (hy : I64 y) (h1 : 1 ≤ m) (hms : m < 1 ∨ 8 < m) (h9 : 8 < m) :
    Calls Try.prog 9 #[.slice A a.length ca, .int .i64 x, .int .i64 y, .int .i64 m] w (LivesQ w) := by
  have G0 := Bl.refl w
  go_enter Try.func9, Try.ntmps9
  go_wp2_with fail
  refine (refgood1 A ca a _ (hA.bl G0) ia la).mono ?_
  rintro e W1 ⟨A1, c1, g, rfl, o1, q1, g1⟩
  have G1 := G0.trans g1
  have r_g := o1.rs
  have cp1 := o1.cap
  have cm1 := o1.capm4
  have nz := o1.nilz
  clear o1
  clear g1
  have gl := near_lenM q1.reg q1.inr
  have gb := near_bd q1.inr
  obtain ⟨gd, eb⟩ := q1.reg.bands
  by_cases hgm : (g.length : Int) ≤ m
  · skip
    go_wp2_with fail
    refine (moveR1 A1 c1 g x y _ r_g (by omega) gb hx hy).mono ?_
    rintro e W2 ⟨A2, c2, u, zu, rfl, o2, q2, g2⟩
    have cp2 := o2.cap
    have cm2 := o2.capm4
    replace r_g := r_g.bl g2
    have G2 := G1.trans g2
    have r_u := o2.rs
    clear o2
    clear g2
    go_wp2_with fail
    refine (refmoveR1 x y A1 c1 g _ r_g (by omega) gb hx hy).mono ?_
    rintro e W3 ⟨A3, c3, v, zv, rfl, o3, q3, g3⟩
    have cp3 := o3.cap
    have cm3 := o3.capm4
    replace r_g := r_g.bl g3
    replace r_u := r_u.bl g3
    have G3 := G2.trans g3
    have r_v := o3.rs
    clear o3
    clear g3
    obtain ⟨rfl, rfl⟩ := q2.one q3
    have ul := eq_len q2
    have ur := mv_reg q2 q1.reg
    go_wp2_with fail
    refine (scaleRo A1 c1 g.length m _ hms).mono ?_
    rintro e W4 ⟨rfl, g4⟩
    replace r_g := r_g.bl g4
    replace r_u := r_u.bl g4
    replace r_v := r_v.bl g4
    have G4 := G3.trans g4
    clear g4
    go_wp2_with fail
    refine (refscaleRo A1 c1 g.length m _ hms).mono ?_
    rintro e w9 ⟨rfl, rfl⟩
    go_wp2_with fail
    refine (keepC A1 c1 g m _ r_g (by omega) nz (by omega) (by omega)).mono ?_
    rintro e W5 ⟨A5, c5, kk, rfl, o5, q5, g5⟩
    replace r_g := r_g.bl g5
    replace r_u := r_u.bl g5
    replace r_v := r_v.bl g5
    have G5 := G4.trans g5
    have r_kk := o5.rs
    clear o5
    clear g5
    obtain rfl := q5
    go_wp2_with fail
    refine (refsame1t A2 A3 c2 c3 u u _ r_u r_v (by first | omega | simp) rfl).mono ?_
    rintro e W6 ⟨rfl, g6⟩
    replace g6 := g6.bl
    replace r_g := r_g.bl g6
    replace r_u := r_u.bl g6
    replace r_v := r_v.bl g6
    replace r_kk := r_kk.bl g6
    have G6 := G5.trans g6
    clear g6
    go_wp2_with fail
    refine (refsame1t none none 0 0 [] [] _ (.inl rfl) (.inl rfl) (by simp) rfl).mono ?_
    rintro e W7 ⟨rfl, g7⟩
    replace g7 := g7.bl
    replace r_g := r_g.bl g7
    replace r_u := r_u.bl g7
    replace r_v := r_v.bl g7
    replace r_kk := r_kk.bl g7
    have G7 := G6.trans g7
    clear g7
    go_wp2_with fail
    refine (refkeepL A1 c1 _ m _ (by omega)).mono ?_
    rintro e w9 ⟨rfl, rfl⟩
    go_wp2_with fail
    refine (refsame1t A5 A1 c5 c1 kk kk _ r_kk r_g (by first | omega | simp) rfl).mono ?_
    rintro e W8 ⟨rfl, g8⟩
    replace g8 := g8.bl
    replace r_g := r_g.bl g8
    replace r_u := r_u.bl g8
    replace r_v := r_v.bl g8
    replace r_kk := r_kk.bl g8
    have G8 := G7.trans g8
    clear g8
    have cv := fun w h1 h2 => coversR1 A5 A1 c5 c1 kk kk [] w h1 h2 q1.reg q1.reg q1.inr q1.inr nil_regM (self_cov kk)
    go_wp2_with fail
    refine (cv _ r_kk r_g).mono ?_
    rintro e W9 ⟨rfl, g9⟩
    replace r_g := r_g.bl g9
    replace r_u := r_u.bl g9
    replace r_v := r_v.bl g9
    replace r_kk := r_kk.bl g9
    have G9 := G8.trans g9
    clear g9
    obtain ⟨gd2, eb2⟩ := ur.bands
    go_wp2_with fail
    refine (refmayT A2 c2 _ u _ r_u eb2.symm gd2 (by omega) cp2 cm2).mono ?_
    rintro e W10 ⟨rfl, g10⟩
    replace r_g := r_g.bl g10
    replace r_u := r_u.bl g10
    replace r_v := r_v.bl g10
    replace r_kk := r_kk.bl g10
    have G10 := G9.trans g10
    clear g10
    go_wp2_with fail
    refine (refmayT none 0 [] [] _ (.inl rfl) rfl ⟨Wk.nil, by simp⟩ (by simp) (by simp) (by omega)).mono ?_
    rintro e W11 ⟨rfl, g11⟩
    replace r_g := r_g.bl g11
    replace r_u := r_u.bl g11
    replace r_v := r_v.bl g11
    replace r_kk := r_kk.bl g11
    have G11 := G10.trans g11
    clear g11
    go_wp2_with fail
    refine (lives1 _).mono ?_
    rintro e W12 ⟨rfl, g12⟩
    go_wp2
    go_ret
    exact ⟨rfl, G11.trans g12⟩

  · skip
    have hq := hl_q gd (by rw [eb]; omega)
    rw [eb] at hq
    obtain ⟨H, hH⟩ : ∃ H, hullR (fun k => g.getD k ⟨0, 0, 0, 0⟩) g.length = H := ⟨_, rfl⟩
    rw [hH] at hq
    go_wp2_with fail
    refine (moveR1 A1 c1 g x y _ r_g (by omega) gb hx hy).mono ?_
    rintro e W2 ⟨A2, c2, u, zu, rfl, o2, q2, g2⟩
    have cp2 := o2.cap
    have cm2 := o2.capm4
    replace r_g := r_g.bl g2
    have G2 := G1.trans g2
    have r_u := o2.rs
    clear o2
    clear g2
    go_wp2_with fail
    refine (refmoveR1 x y A1 c1 g _ r_g (by omega) gb hx hy).mono ?_
    rintro e W3 ⟨A3, c3, v, zv, rfl, o3, q3, g3⟩
    have cp3 := o3.cap
    have cm3 := o3.capm4
    replace r_g := r_g.bl g3
    replace r_u := r_u.bl g3
    have G3 := G2.trans g3
    have r_v := o3.rs
    clear o3
    clear g3
    obtain ⟨rfl, rfl⟩ := q2.one q3
    have ul := eq_len q2
    have ur := mv_reg q2 q1.reg
    go_wp2_with fail
    refine (scaleRo A1 c1 g.length m _ hms).mono ?_
    rintro e W4 ⟨rfl, g4⟩
    replace r_g := r_g.bl g4
    replace r_u := r_u.bl g4
    replace r_v := r_v.bl g4
    have G4 := G3.trans g4
    clear g4
    go_wp2_with fail
    refine (refscaleRo A1 c1 g.length m _ hms).mono ?_
    rintro e w9 ⟨rfl, rfl⟩
    go_wp2_with fail
    refine (keepH A1 c1 g m H _ r_g (by omega) cp1 (by omega) (by omega) hH).mono ?_
    rintro e W5 ⟨kb, rfl, X, g5⟩
    replace r_g := r_g.bl g5
    replace r_u := r_u.bl g5
    replace r_v := r_v.bl g5
    have G5 := G4.trans g5
    clear g5
    have r_h : Rs W5 (some ⟨kb, 0, none⟩) [H] := .inr ⟨kb, 0, rfl, At.rowR X rfl⟩
    clear X
    go_wp2_with fail
    refine (refsame1t A2 A3 c2 c3 u u _ r_u r_v (by first | omega | simp) rfl).mono ?_
    rintro e W6 ⟨rfl, g6⟩
    replace g6 := g6.bl
    replace r_g := r_g.bl g6
    replace r_u := r_u.bl g6
    replace r_v := r_v.bl g6
    replace r_h := r_h.bl g6
    have G6 := G5.trans g6
    clear g6
    go_wp2_with fail
    refine (refsame1t none none 0 0 [] [] _ (.inl rfl) (.inl rfl) (by simp) rfl).mono ?_
    rintro e W7 ⟨rfl, g7⟩
    replace g7 := g7.bl
    replace r_g := r_g.bl g7
    replace r_u := r_u.bl g7
    replace r_v := r_v.bl g7
    replace r_h := r_h.bl g7
    have G7 := G6.trans g7
    clear g7
    go_wp2_with fail
    refine (refkeepH A1 c1 g m H _ r_g (by omega) cp1 (by omega) (by omega) hH).mono ?_
    rintro e W8 ⟨kc, rfl, X, g8⟩
    replace r_g := r_g.bl g8
    replace r_u := r_u.bl g8
    replace r_v := r_v.bl g8
    replace r_h := r_h.bl g8
    have G8 := G7.trans g8
    clear g8
    have r_j : Rs W8 (some ⟨kc, 0, none⟩) [H] := .inr ⟨kc, 0, rfl, At.rowR X rfl⟩
    clear X hH
    go_wp2_with fail
    refine (refsame1t (some ⟨kb, 0, none⟩) (some ⟨kc, 0, none⟩) 1 1 [H] [H] _ r_h r_j (by first | omega | simp) rfl).mono ?_
    rintro e W9 ⟨rfl, g9⟩
    replace g9 := g9.bl
    replace r_g := r_g.bl g9
    replace r_u := r_u.bl g9
    replace r_v := r_v.bl g9
    replace r_h := r_h.bl g9
    replace r_j := r_j.bl g9
    have G9 := G8.trans g9
    clear g9
    have cv := fun w h1 h2 => coversR1 (some ⟨kb, 0, none⟩) A1 1 c1 [H] g [] w h1 h2 (pt_reg hq.pt) q1.reg (hq.mem _ _ q1.inr) q1.inr nil_regM (hl_cov hq)
    go_wp2_with fail
    refine (cv _ r_h r_g).mono ?_
    rintro e W10 ⟨rfl, g10⟩
    replace r_g := r_g.bl g10
    replace r_u := r_u.bl g10
    replace r_v := r_v.bl g10
    replace r_h := r_h.bl g10
    replace r_j := r_j.bl g10
    have G10 := G9.trans g10
    clear g10
    obtain ⟨gd2, eb2⟩ := ur.bands
    go_wp2_with fail
    refine (refmayT A2 c2 _ u _ r_u eb2.symm gd2 (by omega) cp2 cm2).mono ?_
    rintro e W11 ⟨rfl, g11⟩
    replace r_g := r_g.bl g11
    replace r_u := r_u.bl g11
    replace r_v := r_v.bl g11
    replace r_h := r_h.bl g11
    replace r_j := r_j.bl g11
    have G11 := G10.trans g11
    clear g11
    go_wp2_with fail
    refine (refmayT none 0 [] [] _ (.inl rfl) rfl ⟨Wk.nil, by simp⟩ (by simp) (by simp) (by omega)).mono ?_
    rintro e W12 ⟨rfl, g12⟩
    replace r_g := r_g.bl g12
    replace r_u := r_u.bl g12
    replace r_v := r_v.bl g12
    replace r_h := r_h.bl g12
    replace r_j := r_j.bl g12
    have G12 := G11.trans g12
    clear g12
    go_wp2_with fail
    refine (lives1 _).mono ?_
    rintro e W13 ⟨rfl, g13⟩
    go_wp2
    go_ret
    exact ⟨rfl, G12.trans g13⟩


theorem moves_core (A : Option Addr) (ca : Nat) (a : List Rc) (x y m : Int) (w : World) (hA : Rs w A a) (ia : I64r a) (la : a.length ≤ 9223372036854775807) (hx : I64 x) (hy : I64 y) :
    Calls Try.prog 9 #[.slice A a.length ca, .int .i64 x, .int .i64 y, .int .i64 m] w (LivesQ w) := by
  by_cases h1 : m < 1
  · exact moves_a A ca a x y m w hA ia la hx hy h1 (.inl h1)
  · by_cases h8 : m ≤ 8
    · exact moves_b A ca a x y m w hA ia la hx hy (by omega) h8
    · exact moves_c A ca a x y m w hA ia la hx hy (by omega) (.inr (by omega)) (by omega)


set_option maxRecDepth 100000 in
theorem regionMoves_lifted (os : Os) (started : os.Started) (H : Type) (enc : TypeId × Value → H) :
    ReturnsInHanded {} Try.checked os 9 .any (Rows.regionMovesSpec.pre6 enc Try.prog Try.f9 Rows.regionMovesRow.domain false) (Rows.regionMovesSpec.post enc Try.prog Try.f9 false true false false) := by
  refine returnsInHanded_of_change (C := Try.checked) own started (by kernel_rfl) Try.func9
    (ChangeSpec.witness6 (enc := enc) (C := Try.checked) false ⟨#[], #[.slice none 0 0, .int .i64 0, .int .i64 0, .int .i64 0], []⟩ 8 (by kernel_rfl) (by kernel_rfl) (by kernel_rfl) (by kernel_rfl)) ?_
  intro W base args ds gs before hval0 hW hcnd _
  have hval : ∀ (j : Nat) t v, Try.f9.params[j]? = some t → args[j]? = some v → Value.okWide Try.prog W .any base t v := hval0
  have hW' := hW
  obtain ⟨p, q, hA0, hV, rfl, hfz, hnd⟩ := hW
  have hA : DataW.TrodAll enc Try.prog W 0 (fun _ => true) true Try.f9.params.toList args.toList ds p := hA0
  rw [Try.params9] at hA hval
  obtain ⟨v0, vs0, d0, ds0, p0, q0, hargs, rfl, rfl, h0, r0⟩ := trodAll_cons hA
  obtain ⟨v1, vs1, d1, ds1, p1, q1, rfl, rfl, rfl, h1, r1⟩ := trodAll_cons r0
  obtain ⟨v2, vs2, d2, ds2, p2, q2, rfl, rfl, rfl, h2, r2⟩ := trodAll_cons r1
  obtain ⟨v3, vs3, d3, ds3, p3, q3, rfl, rfl, rfl, h3, r3⟩ := trodAll_cons r2
  obtain ⟨rfl, rfl, rfl⟩ := trodAll_nil r3
  obtain rfl : args = #[v0, v1, v2, v3] := by cases args; simp_all
  obtain ⟨rfl, rfl⟩ := trodVars_none hV
  obtain ⟨A0, c0, L0, rfl, hc0, hm0, hr0, hI0⟩ := open_rects (hval 0 35 v0 rfl rfl) h0
  unfold maxLen at hm0
  obtain ⟨n1, rfl, rfl, rfl, un1⟩ := open_int Try.underlying3 (hval 1 3 v1 rfl rfl) h1
  have wn1 := I64.of_wf un1
  obtain ⟨n2, rfl, rfl, rfl, un2⟩ := open_int Try.underlying3 (hval 2 3 v2 rfl rfl) h2
  have wn2 := I64.of_wf un2
  obtain ⟨n3, rfl, rfl, rfl, un3⟩ := open_int Try.underlying3 (hval 3 3 v3 rfl rfl) h3
  have wn3 := I64.of_wf un3
  clear hA0 hval0
  simp only [List.append_nil] at hW'
  have hlt := hW'.lt
  refine (moves_core A0 c0 L0 n1 n2 n3 W hr0 hI0 (by omega) wn1 wn2).mono fun e W' ⟨he, hb⟩ => ?_
  subst he
  exact ⟨_, rfl, close_below (pa := p0) (pv := []) hW' (fun _ _ _ => (trodAll_cons_mk (shut_bool Try.underlying4 _) trodAll_mk0)) (fun sp hsp => by
      have := (trodAll_cons_mk (WideElems.Trod_stays laidOut (by kernel_rfl) (of_decide_eq_true (by kernel_rfl)) h0 (fun x hx => Below.same hb (hlt x (by simp [hx]))) (sp' := sp) (fun x hx => hsp x (by simp [hx]))) (trodAll_cons_mk (shut_int Try.underlying3 un1) (trodAll_cons_mk (shut_int Try.underlying3 un2) (trodAll_cons_mk (shut_int Try.underlying3 un3) trodAll_mk0))))
      simp only [List.append_nil] at this
      exact this)
    (fun _ _ => rfl) (by simp) hb (ok_one (by kernel_rfl) rfl (okWide_bool_mk Try.underlying4 _))⟩

theorem regionMoves_holds : Rows.RegionMovesSaid :=
  OpenClaim.holds_of_wide 9 Try.f9 rfl rfl rfl rfl rfl rfl rfl ⟨rfl, rfl, rfl, rfl, rfl⟩ rfl rfl rfl rfl rfl (by kernel_rfl) Try.func9 (by kernel_rfl)
    (of_decide_eq_true (by kernel_rfl)) (by unfold Func.isWrapper; first | (rw [if_pos (by decide +kernel)]; kernel_rfl) | (rw [if_neg (by decide +kernel)]; exact ⟨rfl, rfl⟩))
    (fun os started H enc _ => regionMoves_lifted os started H enc)

#print axioms regionMoves_holds

end Go.Proofs.Ytbhekpcjdpbahaa
