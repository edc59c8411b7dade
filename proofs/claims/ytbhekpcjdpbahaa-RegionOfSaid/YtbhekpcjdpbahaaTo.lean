/-
  What is proved: the statement RegionOf: the region of rectangles is the document's, and is one; it has a point just if one of these has it. No conditions.
-/
import Derived.Test.YtbhekpcjdpbahaaMz
import Derived.Test.YtbhekpcjdpbahaaHa
import Derived.Test.YtbhekpcjdpbahaaMa
namespace Go.Proofs.Ytbhekpcjdpbahaa
open Go.ChangeShapes Go.WideShapes Go.ChangeAt Go.RowKit Go.Joins Go.Sort Go.Deep

theorem OwR.capm3 {w : World} {B : Nat} {A : Option Addr} {c : Nat} {L : List Rc} (h : OwR w B A c L) : c ≤ 9223372036854775807 := by
  rcases h.2 with ⟨h1, h2⟩ | ⟨g, cap, cur, h1, _, _, _, h4, _⟩
  · injection h1 with a b c'; omega
  · injection h1 with a b c'; unfold maxLen at h4; omega
def gX (L : List Rc) : List Int := L.flatMap fun r => [r.a, r.c]
def gY (L : List Rc) : List Int := L.flatMap fun r => [r.b, r.d]
theorem g2_len (f g : Rc → Int) (L : List Rc) : (L.flatMap fun r => [f r, g r]).length = 2 * L.length := by
  induction L with
  | nil => rfl
  | cons a l ih => rw [List.flatMap_cons, List.length_append, ih]; simp; omega
theorem grid_raw {L : List Rc} (h : L.length ≤ 8) (i : I64r L) : Grid (gX L) (gY L) := by
  refine ⟨by unfold gX; rw [g2_len]; omega, by unfold gY; rw [g2_len]; omega, fun x hx => ?_⟩
  unfold gX at hx
  rw [List.mem_flatMap] at hx
  obtain ⟨r, hr, hx⟩ := hx
  obtain ⟨h1, _, h3, _⟩ := i r hr
  simp at hx
  rcases hx with rfl | rfl <;> assumption
theorem ne_raw (L : List Rc) : InNe (gX L) (gY L) L := fun r hr _ => by
  unfold gX gY
  refine ⟨?_, ?_, ?_, ?_⟩ <;> (rw [List.mem_flatMap]; exact ⟨r, hr, by simp⟩)
theorem Rs.take {w : World} {A : Option Addr} {L : List Rc} (h : Rs w A L) (k : Nat) : Rs w A (L.take k) := by
  rcases h with h | ⟨b, off, h1, h2⟩
  · exact .inl (by rw [h, List.take_nil])
  · exact .inr ⟨b, off, h1, (h2.half k).1⟩

set_option maxRecDepth 100000 in
set_option maxHeartbeats 32000000 in
theorem of_core (A : Option Addr) (ca : Nat) (a : List Rc) (x y : Int) (w : World) (hA : Rs w A a) (ia : I64r a) (la : a.length ≤ 9223372036854775807) (hlc : a.length ≤ ca) (hc : ca ≤ 9223372036854775807) (hx : I64 x) (hy : I64 y) :
    Calls Try.prog 5 #[.slice A a.length ca, .int .i64 x, .int .i64 y] w (LivesQ w) := by
  have G0 := Bl.refl w
  have ax := fun w => around1 x 40 w hx (by omega)
  have ay := fun w => around1 y 40 w hy (by omega)
  have bx := around_bd x 40 (by omega)
  have by' := around_bd y 40 (by omega)
  generalize around x 40 = X at *
  generalize around y 40 = Y at *
  obtain ⟨bx0, bx1⟩ := bx
  obtain ⟨by0, by1⟩ := by'
  clear hx hy
  have cS := fun w h => refSmall1 A ca a 8 w h ia la (by omega)
  have lt8 : (a.take 8).length ≤ 8 := by rw [List.length_take]; omega
  have sn8 := small_near (a.take 8)
  by_cases hl : 8 < a.length
  · have ql : (8 : Int) < (a.length : Int) := by omega
    have qc : (8 : Int) ≤ (ca : Int) := by omega
    have hm : (a.take 8).length = 8 := by rw [List.length_take]; omega
    have im : I64r (a.take 8) := fun r hr => ia r (List.mem_of_mem_take hr)
    have hG := grid_raw (L := a.take 8) (by omega) im
    have hN := ne_raw (a.take 8)
    obtain ⟨b, off, rfl, hrow⟩ := hA.opened (by omega)
    have r_l := hA.take 8
    generalize a.take 8 = m at *
    have cO := fun w h => of1 8 (some ⟨b, off, none⟩) ca m (gX m) (gY m) w (by omega) (by omega) (by omega) hc h hG hN
    have cF := fun w h => refof1 (some ⟨b, off, none⟩) ca m (gX m) (gY m) w h (by omega) hG hN
    have cH := fun w h => refHas1 (some ⟨b, off, none⟩) ca m x y w h (by omega)
    rw [hm] at cO cF cH
    replace hm := Lib.hid hm
    clear hrow
    go_enter Try.func5, Try.ntmps5
    go_wp2_with fail
    refine (cS _ hA).mono ?_
    rintro e W1 ⟨A1, c1, g, rfl, o1, q1, g1⟩
    replace r_l := r_l.bl g1
    have G1 := G0.trans g1
    have r_g := o1.rs
    have cp1 := o1.cap
    have cm1 := o1.capm3
    clear o1
    clear g1
    have gne : InNe near near g := by rw [q1]; exact sn8
    have gl : g.length ≤ 8 := by rw [q1, List.length_map]; exact lt8
    clear q1
    go_wp2_with fail
    refine (cO _ r_l).mono ?_
    rintro e W2 ⟨A2, c2, ra, rfl, o2, q2, g2⟩
    replace r_l := r_l.bl g2
    replace r_g := r_g.bl g2
    have G2 := G1.trans g2
    have r_ra := o2.rs
    have cp2 := o2.cap
    have cm2 := o2.capm3
    clear o2
    clear g2
    go_wp2_with fail
    refine (of1 8 A1 c1 g near near _ gl (by omega) cp1 cm1 r_g grid_near gne).mono ?_
    rintro e W3 ⟨A3, c3, rb, rfl, o3, q3, g3⟩
    replace r_l := r_l.bl g3
    replace r_g := r_g.bl g3
    replace r_ra := r_ra.bl g3
    have G3 := G2.trans g3
    have r_rb := o3.rs
    have cp3 := o3.cap
    have cm3 := o3.capm3
    clear o3
    clear g3
    go_wp2_with fail
    refine (cF _ r_l).mono ?_
    rintro e W4 ⟨A4, c4, fa, rfl, o4, q4, g4⟩
    replace r_l := r_l.bl g4
    replace r_g := r_g.bl g4
    replace r_ra := r_ra.bl g4
    replace r_rb := r_rb.bl g4
    have G4 := G3.trans g4
    have r_fa := o4.rs
    clear o4
    clear g4
    have e4 : ra = fa := reg_same q2.reg q4.reg fun x y => by rw [q2.has, q4.has]
    replace e4 := Lib.hid e4
    have la2 := reg_len q2.reg q2.inr hG
    have lb3 := reg_len q3.reg q3.inr grid_near
    go_wp2_with fail
    refine (refsame1t A2 A4 c2 c4 ra fa _ r_ra r_fa (by omega) e4.out).mono ?_
    rintro e W5 ⟨rfl, g5⟩
    replace g5 := g5.bl
    replace r_l := r_l.bl g5
    replace r_g := r_g.bl g5
    replace r_ra := r_ra.bl g5
    replace r_rb := r_rb.bl g5
    replace r_fa := r_fa.bl g5
    have G5 := G4.trans g5
    clear g5
    go_wp2_with fail
    refine (refof1 A1 c1 g near near _ r_g (by omega) grid_near gne).mono ?_
    rintro e W6 ⟨A6, c6, fb, rfl, o6, q6, g6⟩
    replace r_l := r_l.bl g6
    replace r_g := r_g.bl g6
    replace r_ra := r_ra.bl g6
    replace r_rb := r_rb.bl g6
    replace r_fa := r_fa.bl g6
    have G6 := G5.trans g6
    have r_fb := o6.rs
    clear o6
    clear g6
    have e6 : rb = fb := reg_same q3.reg q6.reg fun x y => by rw [q3.has, q6.has]
    replace e6 := Lib.hid e6
    go_wp2_with fail
    refine (refsame1t A3 A6 c3 c6 rb fb _ r_rb r_fb (by omega) e6.out).mono ?_
    rintro e W7 ⟨rfl, g7⟩
    replace g7 := g7.bl
    replace r_l := r_l.bl g7
    replace r_g := r_g.bl g7
    replace r_ra := r_ra.bl g7
    replace r_rb := r_rb.bl g7
    replace r_fa := r_fa.bl g7
    replace r_fb := r_fb.bl g7
    have G7 := G6.trans g7
    clear g7
    obtain ⟨gd2, eb2⟩ := q2.reg.bands
    obtain ⟨gd3, eb3⟩ := q3.reg.bands
    go_wp2_with fail
    refine (refmayT A2 c2 _ ra _ r_ra eb2.symm gd2 la2 cp2 cm2).mono ?_
    rintro e W8 ⟨rfl, g8⟩
    replace r_l := r_l.bl g8
    replace r_g := r_g.bl g8
    replace r_ra := r_ra.bl g8
    replace r_rb := r_rb.bl g8
    replace r_fa := r_fa.bl g8
    replace r_fb := r_fb.bl g8
    have G8 := G7.trans g8
    clear g8
    go_wp2_with fail
    refine (refmayT A3 c3 _ rb _ r_rb eb3.symm gd3 lb3 cp3 cm3).mono ?_
    rintro e W9 ⟨rfl, g9⟩
    replace r_l := r_l.bl g9
    replace r_g := r_g.bl g9
    replace r_ra := r_ra.bl g9
    replace r_rb := r_rb.bl g9
    replace r_fa := r_fa.bl g9
    replace r_fb := r_fb.bl g9
    have G9 := G8.trans g9
    clear g9
    go_wp2_with fail
    refine (ax _).mono ?_
    rintro e w9 ⟨rfl, rfl⟩
    go_wp2_with fail
    refine (ay _).mono ?_
    rintro e w9 ⟨rfl, rfl⟩
    have hv := fun w h => hasR1 A2 c2 ra x y w h (by omega)
    rw [q2.has] at hv
    generalize hasL m x y = z1 at hv cH
    go_wp2_with fail
    refine (hv _ r_ra).mono ?_
    rintro e W10 ⟨rfl, g10⟩
    replace g10 := g10.bl
    replace r_l := r_l.bl g10
    replace r_g := r_g.bl g10
    replace r_ra := r_ra.bl g10
    replace r_rb := r_rb.bl g10
    replace r_fa := r_fa.bl g10
    replace r_fb := r_fb.bl g10
    have G10 := G9.trans g10
    clear g10
    clear hv
    go_wp2_with fail
    refine (cH _ r_l).mono ?_
    rintro e W11 ⟨rfl, g11⟩
    replace g11 := g11.bl
    replace r_l := r_l.bl g11
    replace r_g := r_g.bl g11
    replace r_ra := r_ra.bl g11
    replace r_rb := r_rb.bl g11
    replace r_fa := r_fa.bl g11
    replace r_fb := r_fb.bl g11
    have G11 := G10.trans g11
    clear g11
    have hv := fun w h => hasR1 A3 c3 rb (X - 5) (Y - 5) w h (by omega)
    have hu := fun w h => refHas1 A1 c1 g (X - 5) (Y - 5) w h (by omega)
    rw [q3.has] at hv
    generalize hasL g (X - 5) (Y - 5) = z2 at hv hu
    go_wp2_with fail
    refine (hv _ r_rb).mono ?_
    rintro e W12 ⟨rfl, g12⟩
    replace g12 := g12.bl
    replace r_l := r_l.bl g12
    replace r_g := r_g.bl g12
    replace r_ra := r_ra.bl g12
    replace r_rb := r_rb.bl g12
    replace r_fa := r_fa.bl g12
    replace r_fb := r_fb.bl g12
    have G12 := G11.trans g12
    clear g12
    clear hv
    go_wp2_with fail
    refine (hu _ r_g).mono ?_
    rintro e W13 ⟨rfl, g13⟩
    replace g13 := g13.bl
    replace r_l := r_l.bl g13
    replace r_g := r_g.bl g13
    replace r_ra := r_ra.bl g13
    replace r_rb := r_rb.bl g13
    replace r_fa := r_fa.bl g13
    replace r_fb := r_fb.bl g13
    have G13 := G12.trans g13
    clear g13
    clear hu
    go_wp2_with fail
    refine (mayR1 A2 c2 _ ra _ r_ra eb2.symm gd2 la2).mono ?_
    rintro e W14 ⟨rfl, g14⟩
    replace r_l := r_l.bl g14
    replace r_g := r_g.bl g14
    replace r_ra := r_ra.bl g14
    replace r_rb := r_rb.bl g14
    replace r_fa := r_fa.bl g14
    replace r_fb := r_fb.bl g14
    have G14 := G13.trans g14
    clear g14
    go_wp2_with fail
    refine (lives1 _).mono ?_
    rintro e W15 ⟨rfl, g15⟩
    go_wp2
    go_ret
    exact ⟨rfl, G14.trans g15⟩
  · have ql : ¬ (8 : Int) < (a.length : Int) := by omega
    have hG := grid_raw (L := a) (by omega) ia
    have hN := ne_raw a
    have r_l := hA
    have cO := fun w h => of1 8 A ca a (gX a) (gY a) w (by omega) (by omega) hlc hc h hG hN
    have cF := fun w h => refof1 A ca a (gX a) (gY a) w h (by omega) hG hN
    have cH := fun w h => refHas1 A ca a x y w h (by omega)
    go_enter Try.func5, Try.ntmps5
    go_wp2_with fail
    refine (cS _ hA).mono ?_
    rintro e W1 ⟨A1, c1, g, rfl, o1, q1, g1⟩
    replace r_l := r_l.bl g1
    have G1 := G0.trans g1
    have r_g := o1.rs
    have cp1 := o1.cap
    have cm1 := o1.capm3
    clear o1
    clear g1
    have gne : InNe near near g := by rw [q1]; exact sn8
    have gl : g.length ≤ 8 := by rw [q1, List.length_map]; exact lt8
    clear q1
    go_wp2_with fail
    refine (cO _ r_l).mono ?_
    rintro e W2 ⟨A2, c2, ra, rfl, o2, q2, g2⟩
    replace r_l := r_l.bl g2
    replace r_g := r_g.bl g2
    have G2 := G1.trans g2
    have r_ra := o2.rs
    have cp2 := o2.cap
    have cm2 := o2.capm3
    clear o2
    clear g2
    go_wp2_with fail
    refine (of1 8 A1 c1 g near near _ gl (by omega) cp1 cm1 r_g grid_near gne).mono ?_
    rintro e W3 ⟨A3, c3, rb, rfl, o3, q3, g3⟩
    replace r_l := r_l.bl g3
    replace r_g := r_g.bl g3
    replace r_ra := r_ra.bl g3
    have G3 := G2.trans g3
    have r_rb := o3.rs
    have cp3 := o3.cap
    have cm3 := o3.capm3
    clear o3
    clear g3
    go_wp2_with fail
    refine (cF _ r_l).mono ?_
    rintro e W4 ⟨A4, c4, fa, rfl, o4, q4, g4⟩
    replace r_l := r_l.bl g4
    replace r_g := r_g.bl g4
    replace r_ra := r_ra.bl g4
    replace r_rb := r_rb.bl g4
    have G4 := G3.trans g4
    have r_fa := o4.rs
    clear o4
    clear g4
    have e4 : ra = fa := reg_same q2.reg q4.reg fun x y => by rw [q2.has, q4.has]
    replace e4 := Lib.hid e4
    have la2 := reg_len q2.reg q2.inr hG
    have lb3 := reg_len q3.reg q3.inr grid_near
    go_wp2_with fail
    refine (refsame1t A2 A4 c2 c4 ra fa _ r_ra r_fa (by omega) e4.out).mono ?_
    rintro e W5 ⟨rfl, g5⟩
    replace g5 := g5.bl
    replace r_l := r_l.bl g5
    replace r_g := r_g.bl g5
    replace r_ra := r_ra.bl g5
    replace r_rb := r_rb.bl g5
    replace r_fa := r_fa.bl g5
    have G5 := G4.trans g5
    clear g5
    go_wp2_with fail
    refine (refof1 A1 c1 g near near _ r_g (by omega) grid_near gne).mono ?_
    rintro e W6 ⟨A6, c6, fb, rfl, o6, q6, g6⟩
    replace r_l := r_l.bl g6
    replace r_g := r_g.bl g6
    replace r_ra := r_ra.bl g6
    replace r_rb := r_rb.bl g6
    replace r_fa := r_fa.bl g6
    have G6 := G5.trans g6
    have r_fb := o6.rs
    clear o6
    clear g6
    have e6 : rb = fb := reg_same q3.reg q6.reg fun x y => by rw [q3.has, q6.has]
    replace e6 := Lib.hid e6
    go_wp2_with fail
    refine (refsame1t A3 A6 c3 c6 rb fb _ r_rb r_fb (by omega) e6.out).mono ?_
    rintro e W7 ⟨rfl, g7⟩
    replace g7 := g7.bl
    replace r_l := r_l.bl g7
    replace r_g := r_g.bl g7
    replace r_ra := r_ra.bl g7
    replace r_rb := r_rb.bl g7
    replace r_fa := r_fa.bl g7
    replace r_fb := r_fb.bl g7
    have G7 := G6.trans g7
    clear g7
    obtain ⟨gd2, eb2⟩ := q2.reg.bands
    obtain ⟨gd3, eb3⟩ := q3.reg.bands
    go_wp2_with fail
    refine (refmayT A2 c2 _ ra _ r_ra eb2.symm gd2 la2 cp2 cm2).mono ?_
    rintro e W8 ⟨rfl, g8⟩
    replace r_l := r_l.bl g8
    replace r_g := r_g.bl g8
    replace r_ra := r_ra.bl g8
    replace r_rb := r_rb.bl g8
    replace r_fa := r_fa.bl g8
    replace r_fb := r_fb.bl g8
    have G8 := G7.trans g8
    clear g8
    go_wp2_with fail
    refine (refmayT A3 c3 _ rb _ r_rb eb3.symm gd3 lb3 cp3 cm3).mono ?_
    rintro e W9 ⟨rfl, g9⟩
    replace r_l := r_l.bl g9
    replace r_g := r_g.bl g9
    replace r_ra := r_ra.bl g9
    replace r_rb := r_rb.bl g9
    replace r_fa := r_fa.bl g9
    replace r_fb := r_fb.bl g9
    have G9 := G8.trans g9
    clear g9
    go_wp2_with fail
    refine (ax _).mono ?_
    rintro e w9 ⟨rfl, rfl⟩
    go_wp2_with fail
    refine (ay _).mono ?_
    rintro e w9 ⟨rfl, rfl⟩
    have hv := fun w h => hasR1 A2 c2 ra x y w h (by omega)
    rw [q2.has] at hv
    generalize hasL a x y = z1 at hv cH
    go_wp2_with fail
    refine (hv _ r_ra).mono ?_
    rintro e W10 ⟨rfl, g10⟩
    replace g10 := g10.bl
    replace r_l := r_l.bl g10
    replace r_g := r_g.bl g10
    replace r_ra := r_ra.bl g10
    replace r_rb := r_rb.bl g10
    replace r_fa := r_fa.bl g10
    replace r_fb := r_fb.bl g10
    have G10 := G9.trans g10
    clear g10
    clear hv
    go_wp2_with fail
    refine (cH _ r_l).mono ?_
    rintro e W11 ⟨rfl, g11⟩
    replace g11 := g11.bl
    replace r_l := r_l.bl g11
    replace r_g := r_g.bl g11
    replace r_ra := r_ra.bl g11
    replace r_rb := r_rb.bl g11
    replace r_fa := r_fa.bl g11
    replace r_fb := r_fb.bl g11
    have G11 := G10.trans g11
    clear g11
    have hv := fun w h => hasR1 A3 c3 rb (X - 5) (Y - 5) w h (by omega)
    have hu := fun w h => refHas1 A1 c1 g (X - 5) (Y - 5) w h (by omega)
    rw [q3.has] at hv
    generalize hasL g (X - 5) (Y - 5) = z2 at hv hu
    go_wp2_with fail
    refine (hv _ r_rb).mono ?_
    rintro e W12 ⟨rfl, g12⟩
    replace g12 := g12.bl
    replace r_l := r_l.bl g12
    replace r_g := r_g.bl g12
    replace r_ra := r_ra.bl g12
    replace r_rb := r_rb.bl g12
    replace r_fa := r_fa.bl g12
    replace r_fb := r_fb.bl g12
    have G12 := G11.trans g12
    clear g12
    clear hv
    go_wp2_with fail
    refine (hu _ r_g).mono ?_
    rintro e W13 ⟨rfl, g13⟩
    replace g13 := g13.bl
    replace r_l := r_l.bl g13
    replace r_g := r_g.bl g13
    replace r_ra := r_ra.bl g13
    replace r_rb := r_rb.bl g13
    replace r_fa := r_fa.bl g13
    replace r_fb := r_fb.bl g13
    have G13 := G12.trans g13
    clear g13
    clear hu
    go_wp2_with fail
    refine (mayR1 A2 c2 _ ra _ r_ra eb2.symm gd2 la2).mono ?_
    rintro e W14 ⟨rfl, g14⟩
    replace r_l := r_l.bl g14
    replace r_g := r_g.bl g14
    replace r_ra := r_ra.bl g14
    replace r_rb := r_rb.bl g14
    replace r_fa := r_fa.bl g14
    replace r_fb := r_fb.bl g14
    have G14 := G13.trans g14
    clear g14
    go_wp2_with fail
    refine (lives1 _).mono ?_
    rintro e W15 ⟨rfl, g15⟩
    go_wp2
    go_ret
    exact ⟨rfl, G14.trans g15⟩


set_option maxRecDepth 100000 in
theorem regionOf_lifted (os : Os) (started : os.Started) (H : Type) (enc : TypeId × Value → H) :
    ReturnsInHanded {} Try.checked os 5 .any (Rows.regionOfSpec.pre6 enc Try.prog Try.f5 Rows.regionOfRow.domain false) (Rows.regionOfSpec.post enc Try.prog Try.f5 false true false false) := by
  refine returnsInHanded_of_change (C := Try.checked) own started (by kernel_rfl) Try.func5
    (ChangeSpec.witness6 (enc := enc) (C := Try.checked) false ⟨#[], #[.slice none 0 0, .int .i64 0, .int .i64 0], []⟩ 8 (by kernel_rfl) (by kernel_rfl) (by kernel_rfl) (by kernel_rfl)) ?_
  intro W base args ds gs before hval0 hW hcnd _
  have hval : ∀ (j : Nat) t v, Try.f5.params[j]? = some t → args[j]? = some v → Value.okWide Try.prog W .any base t v := hval0
  have hW' := hW
  obtain ⟨p, q, hA0, hV, rfl, hfz, hnd⟩ := hW
  have hA : DataW.TrodAll enc Try.prog W 0 (fun _ => true) true Try.f5.params.toList args.toList ds p := hA0
  rw [Try.params5] at hA hval
  obtain ⟨v0, vs0, d0, ds0, p0, q0, hargs, rfl, rfl, h0, r0⟩ := trodAll_cons hA
  obtain ⟨v1, vs1, d1, ds1, p1, q1, rfl, rfl, rfl, h1, r1⟩ := trodAll_cons r0
  obtain ⟨v2, vs2, d2, ds2, p2, q2, rfl, rfl, rfl, h2, r2⟩ := trodAll_cons r1
  obtain ⟨rfl, rfl, rfl⟩ := trodAll_nil r2
  obtain rfl : args = #[v0, v1, v2] := by cases args; simp_all
  obtain ⟨rfl, rfl⟩ := trodVars_none hV
  obtain ⟨A0, c0, L0, rfl, hc0, hm0, hr0, hI0⟩ := open_rects (hval 0 35 v0 rfl rfl) h0
  unfold maxLen at hm0
  obtain ⟨n1, rfl, rfl, rfl, un1⟩ := open_int Try.underlying3 (hval 1 3 v1 rfl rfl) h1
  have wn1 := I64.of_wf un1
  obtain ⟨n2, rfl, rfl, rfl, un2⟩ := open_int Try.underlying3 (hval 2 3 v2 rfl rfl) h2
  have wn2 := I64.of_wf un2
  clear hA0 hval0
  simp only [List.append_nil] at hW'
  have hlt := hW'.lt
  refine (of_core A0 c0 L0 n1 n2 W hr0 hI0 (by omega) hc0 hm0 wn1 wn2).mono fun e W' ⟨he, hb⟩ => ?_
  subst he
  exact ⟨_, rfl, close_below (pa := p0) (pv := []) hW' (fun _ _ _ => (trodAll_cons_mk (shut_bool Try.underlying4 _) trodAll_mk0)) (fun sp hsp => by
      have := (trodAll_cons_mk (WideElems.Trod_stays laidOut (by kernel_rfl) (of_decide_eq_true (by kernel_rfl)) h0 (fun x hx => Below.same hb (hlt x (by simp [hx]))) (sp' := sp) (fun x hx => hsp x (by simp [hx]))) (trodAll_cons_mk (shut_int Try.underlying3 un1) (trodAll_cons_mk (shut_int Try.underlying3 un2) trodAll_mk0)))
      simp only [List.append_nil] at this
      exact this)
    (fun _ _ => rfl) (by simp) hb (ok_one (by kernel_rfl) rfl (okWide_bool_mk Try.underlying4 _))⟩

theorem regionOf_holds : Rows.RegionOfSaid :=
  OpenClaim.holds_of_wide 5 Try.f5 rfl rfl rfl rfl rfl rfl rfl ⟨rfl, rfl, rfl, rfl, rfl⟩ rfl rfl rfl rfl rfl (by kernel_rfl) Try.func5 (by kernel_rfl)
    (of_decide_eq_true (by kernel_rfl)) (by unfold Func.isWrapper; first | (rw [if_pos (by decide +kernel)]; kernel_rfl) | (rw [if_neg (by decide +kernel)]; exact ⟨rfl, rfl⟩))
    (fun os started H enc _ => regionOf_lifted os started H enc)

#print axioms regionOf_holds

end Go.Proofs.Ytbhekpcjdpbahaa
