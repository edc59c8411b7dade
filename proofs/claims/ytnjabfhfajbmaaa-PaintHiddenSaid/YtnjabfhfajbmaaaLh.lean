/-
  What is proved: the statement PaintHidden: what is drawn under what covers it all is not seen. No conditions.
-/
import Derived.Test.YtnjabfhfajbmaaaPh
import Derived.Test.YtnjabfhfajbmaaaZm
import Derived.Test.YtnjabfhfajbmaaaZl
import Derived.Test.YtnjabfhfajbmaaaZj
import Derived.Test.YtnjabfhfajbmaaaIu
import Derived.Test.YtnjabfhfajbmaaaZa
import Derived.Deep.RegionHeld3
import Derived.StillTailTactics
namespace Go.Proofs.Ytnjabfhfajbmaaa
open Go.ChangeShapes Go.WideShapes Go.ChangeAt Go.RowKit Go.Joins Go.Sort Go.Deep

set_option maxRecDepth 100000 in
set_option maxHeartbeats 8000000 in
theorem phidden_walk (xw yh : Int) (A1 : Option Addr) (k1 : Nat) (L1 : List Int) (sm : Bool) (W0 H0 : Int) (A0 : Option Addr) (n0 c0 : Nat) (ax ay s al : Int) (cp : Rc) (cw ch : Int) (A : Option Addr) (cap : Nat) (L : List Int) (q : Int) (w : World) (hx : I64 xw) (hy : I64 yh) (hA1 : Ns .u32 w A1 L1) (h321 : ∀ c ∈ L1, C32 c) (hc1 : L1.length ≤ k1) (hm1 : k1 ≤ maxLen) (hK : KOk ax ay s al cp cw ch) (hlc : L.length ≤ cap) (hcm : cap ≤ maxLen) (hA : Ns .u32 w A L) (h32 : ∀ c ∈ L, C32 c) (hq : C32 q) :
    Calls Try.prog 5 #[.int .i64 xw, .int .i64 yh, .slice A1 L1.length k1, .agg #[.bool sm, .int .i64 W0, .int .i64 H0, .slice A0 n0 c0, .int .i64 ax, .int .i64 ay, .int .i64 s, .int .i64 al, .int .i64 cp.a, .int .i64 cp.b, .int .i64 cp.c, .int .i64 cp.d, .int .i64 cw, .int .i64 ch, .slice A L.length cap], .int .u32 q] w (fun e w' => e = .returned (.bool true) ∧ Bl w w') := by
  obtain ⟨s1, s2, hs3⟩ := side_bd xw
  obtain ⟨t1, t2, ht3⟩ := side_bd yh
  clear hs3 ht3
  have G := (Gr.refl w).alloc (.cells #[.bool sm, .int .i64 W0, .int .i64 H0, .slice A0 n0 c0, .int .i64 ax, .int .i64 ay, .int .i64 s, .int .i64 al, .int .i64 cp.a, .int .i64 cp.b, .int .i64 cp.c, .int .i64 cp.d, .int .i64 cw, .int .i64 ch, .slice A L.length cap] 32)
  have c4 := fun w' (g : Bl w w') => mgood1 xw yh A1 k1 L1 w' (hA1.bl g) h321 hc1 hm1 hx hy
  have c5 := fun w' (g : Bl w w') => kgood1 sm W0 H0 A0 n0 c0 ax ay s al cp cw ch A cap L w' hK hlc hcm (hA.bl g) h32
  have hFl := goodL_len (side xw * side yh) L1
  have hFm := goodL_may (side xw * side yh) L1
  clear hA1 h321 hc1 hm1 hx hy hK hlc hcm hA h32
  generalize side xw = W at *
  generalize side yh = H at *
  generalize goodL (W * H) L1 = F at *
  obtain ⟨n, hn⟩ : ∃ n, n = W * H := ⟨_, rfl⟩
  have hFn : F.length = n := hFl.trans hn.symm
  have cb := fun (b : Nat) (w : World) (h : RowN .u32 w b 0 F) => pbuild1 (c := n) w h hFl s1 (by omega) t1 (by omega) hFm
  have cN := fun w => new1 W H w s1 (by omega) t1 (by omega)
  have cPt := fun w => refparts1 q w hq
  have bR := pR_by q
  have bG := pG_by q
  have bB := pB_by q
  rw [hFn] at cb
  rw [← hn] at c4
  replace hFl := Lib.hid hFl
  replace hn := Lib.hid hn
  replace hFn := Lib.hid hFn
  generalize L1.length = la1 at *
  generalize L.length = la at *
  generalize pR q = qr at *
  generalize pG q = qg at *
  generalize pB q = qb at *
  generalize pA q = qa at *
  have mixed : Try.prog.follows .mixedOrders = true := by kernel_rfl
  go_enter Try.func5, Try.ntmps5
  go_wp2_with fail
  refine (c4 _ G.bl).mono ?_
  rintro e v1 ⟨b, rfl, C1, hb1, g1⟩
  have K1 := ((At.new w #[.bool sm, .int .i64 W0, .int .i64 H0, .slice A0 n0 c0, .int .i64 ax, .int .i64 ay, .int .i64 s, .int .i64 al, .int .i64 cp.a, .int .i64 cp.b, .int .i64 cp.c, .int .i64 cp.d, .int .i64 cw, .int .i64 ch, .slice A la cap] 32).bl g1).alloc (.cells #[.int .i64 W, .int .i64 H, .slice (some ⟨b, 0, none⟩) n n] 24)
  have M1 := At.new v1 #[.int .i64 W, .int .i64 H, .slice (some ⟨b, 0, none⟩) n n] 24
  replace C1 := C1.alloc (.cells #[.int .i64 W, .int .i64 H, .slice (some ⟨b, 0, none⟩) n n] 24)
  have G1 := (G.bl.trans g1).alloc (.cells #[.int .i64 W, .int .i64 H, .slice (some ⟨b, 0, none⟩) n n] 24)
  have hM0 : w.heap.size ≤ v1.heap.size := (G.bl.trans g1).size
  have hw1 := K1.lt
  clear g1 c4 hb1
  obtain ⟨m0, m1, m2⟩ := cells3 M1
  go_wp2_with fail
  refine (cb _ _ C1.rowC).mono ?_
  rintro e v2 ⟨pm, pc, rfl, I2, hpm, hpc, g2⟩
  have hMl := M1.lt
  have hbl := C1.lt
  replace K1 := K1.bl g2
  replace M1 := M1.bl g2
  replace C1 := C1.bl g2
  have G2 := G1.trans g2
  clear g2 G1 m0 m1 m2
  obtain ⟨m0, m1, m2⟩ := cells3 M1
  generalize v1.heap.size = bM at *
  go_wp2_with fail
  refine (cb _ _ C1.rowC).mono ?_
  rintro e v3 ⟨po, co, rfl, O3, hpo, hco, g3⟩
  have hpl := I2.hd.lt
  have hcl := I2.cs.lt
  replace K1 := K1.bl g3
  replace M1 := M1.bl g3
  replace I2 := I2.bl g3
  have G3 := G2.trans g3
  clear g3 G2 m0 m1 m2 C1 cb
  obtain ⟨m0, m1, m2⟩ := cells3 M1
  go_wp2_with fail
  refine (cPt _).mono ?_
  rintro e v4 ⟨rfl, g4⟩
  have hpol := O3.hd.lt
  have hcol := O3.cs.lt
  replace K1 := K1.gr g4
  replace M1 := M1.gr g4
  replace I2 := I2.gr g4
  replace O3 := O3.gr g4
  have G4 := G3.gr g4
  have g4s := g4.size
  clear g4 G3 m0 m1 m2 cPt
  go_wp2_with fail
  refine (refmake1 255 qr qg qb _).mono ?_
  rintro e v5 ⟨rfl, g5⟩
  replace g5 := ((Gr.refl v4).alloc (.cells #[.int .i64 qa, .int .i64 qr, .int .i64 qg, .int .i64 qb] 57)).trans g5
  replace K1 := K1.gr g5
  replace M1 := M1.gr g5
  replace I2 := I2.gr g5
  replace O3 := O3.gr g5
  have G5 := G4.gr g5
  have g5s := g5.size
  clear g5 G4
  obtain ⟨m0, m1, m2⟩ := cells3 M1
  go_wp2_with fail
  refine (cN _).mono ?_
  rintro e v6 ⟨p8, c8, rfl, T6, hp8, hc8, g6⟩
  replace K1 := K1.gr g6
  replace M1 := M1.gr g6
  replace I2 := I2.gr g6
  replace O3 := O3.gr g6
  have G6 := G5.gr g6
  have hp8l := T6.hd.lt
  have hc8l := T6.cs.lt
  clear g6 G5 m0 m1 m2 cN
  go_wp2_with fail
  refine (box1 _ T6).mono ?_
  rintro e v7 ⟨rfl, g7⟩
  replace K1 := K1.gr g7
  replace M1 := M1.gr g7
  replace I2 := I2.gr g7
  replace O3 := O3.gr g7
  replace T6 := T6.gr g7
  have G7 := G6.gr g7
  have g7s := g7.size
  clear g7 G6
  have hsm := solid_may (r := qr) (g := qg) (b := qb) (k := W * H)
  have hs1 := hsm _ (List.mem_replicate.2 ⟨Nat.ne_of_gt (Nat.mul_pos s1 t1), rfl⟩)
  go_wp2_with fail
  refine (fill1 v7 T6 0 0 W H (mk 255 qr qg qb) hs1.1 hs1.2 0 W 0 H (cut_whole s1 t1) (Nat.zero_le _) (fun _ => s1) (Nat.le_refl _) (Nat.zero_le _) (Nat.le_refl _)).mono ?_
  rintro e v8 ⟨rfl, b8, T8⟩
  rw [fill_all (by simp) s1] at T8
  replace K1 := K1.kept b8 (by simp; omega)
  replace M1 := M1.kept b8 (by simp; omega)
  replace I2 := I2.kept b8 (by simp; omega) (by simp; omega)
  replace O3 := O3.kept b8 (by simp; omega) (by simp; omega)
  have G8 := G7.row b8 (by omega)
  clear b8 G7 T6 hs1
  go_wp2_with fail
  refine (box1 _ T8).mono ?_
  rintro e v9 ⟨rfl, g9⟩
  replace K1 := K1.gr g9
  replace M1 := M1.gr g9
  replace I2 := I2.gr g9
  replace O3 := O3.gr g9
  replace T8 := T8.gr g9
  have G9 := G8.gr g9
  clear g9 G8
  go_wp2_with fail
  have B9 := At.new v9 #[.pointer (some ⟨p8, 0, none⟩), .int .i64 0, .int .i64 0, .int .i64 1, .int .i64 255, .int .i64 0, .int .i64 0, .int .i64 W, .int .i64 H] 47
  have gTP := (Gr.refl v9).alloc (.cells #[.pointer (some ⟨p8, 0, none⟩), .int .i64 0, .int .i64 0, .int .i64 1, .int .i64 255, .int .i64 0, .int .i64 0, .int .i64 W, .int .i64 H] 47)
  have hv9 : w.heap.size ≤ v9.heap.size := G9.size
  have x1 := I2.hd.lt
  have x2 := I2.cs.lt
  have x3 := O3.hd.lt
  have x4 := O3.cs.lt
  have x5 := T8.hd.lt
  have x6 := T8.cs.lt
  refine (box1 _ (T8.gr gTP)).mono ?_
  rintro e v10 ⟨rfl, g10⟩
  have x7 := B9.lt
  have x8 := g10.size
  replace B9 := (B9.gr g10).alloc (.cells #[.int .i64 0, .int .i64 0, .int .i64 W, .int .i64 H] 28)
  have g11 := (gTP.trans g10).alloc (.cells #[.int .i64 0, .int .i64 0, .int .i64 W, .int .i64 H] 28)
  have Q1 := At.new v10 #[.int .i64 0, .int .i64 0, .int .i64 W, .int .i64 H] 28
  replace K1 := K1.gr g11
  replace I2 := I2.gr g11
  replace O3 := O3.gr g11
  replace T8 := T8.gr g11
  have G11 := G9.gr g11
  have hB9 := B9.lt
  have hQ1 := Q1.lt
  clear g10 gTP g11 G9 M1
  have z0 : (v10.alloc (.cells #[.int .i64 0, .int .i64 0, .int .i64 W, .int .i64 H] 28)).cell? ⟨w.heap.size, 0, none⟩ = some (.bool sm) := K1.cell 0
  have z1 : (v10.alloc (.cells #[.int .i64 0, .int .i64 0, .int .i64 W, .int .i64 H] 28)).cell? ⟨w.heap.size, 1, none⟩ = some (.int .i64 W0) := K1.cell 1
  have z2 : (v10.alloc (.cells #[.int .i64 0, .int .i64 0, .int .i64 W, .int .i64 H] 28)).cell? ⟨w.heap.size, 2, none⟩ = some (.int .i64 H0) := K1.cell 2
  have z3 : (v10.alloc (.cells #[.int .i64 0, .int .i64 0, .int .i64 W, .int .i64 H] 28)).cell? ⟨w.heap.size, 3, none⟩ = some (.slice A0 n0 c0) := K1.cell 3
  have z4 : (v10.alloc (.cells #[.int .i64 0, .int .i64 0, .int .i64 W, .int .i64 H] 28)).cell? ⟨w.heap.size, 4, none⟩ = some (.int .i64 ax) := K1.cell 4
  have z5 : (v10.alloc (.cells #[.int .i64 0, .int .i64 0, .int .i64 W, .int .i64 H] 28)).cell? ⟨w.heap.size, 5, none⟩ = some (.int .i64 ay) := K1.cell 5
  have z6 : (v10.alloc (.cells #[.int .i64 0, .int .i64 0, .int .i64 W, .int .i64 H] 28)).cell? ⟨w.heap.size, 6, none⟩ = some (.int .i64 s) := K1.cell 6
  have z7 : (v10.alloc (.cells #[.int .i64 0, .int .i64 0, .int .i64 W, .int .i64 H] 28)).cell? ⟨w.heap.size, 7, none⟩ = some (.int .i64 al) := K1.cell 7
  have z8 : (v10.alloc (.cells #[.int .i64 0, .int .i64 0, .int .i64 W, .int .i64 H] 28)).cell? ⟨w.heap.size, 8, none⟩ = some (.int .i64 cp.a) := K1.cell 8
  have z9 : (v10.alloc (.cells #[.int .i64 0, .int .i64 0, .int .i64 W, .int .i64 H] 28)).cell? ⟨w.heap.size, 9, none⟩ = some (.int .i64 cp.b) := K1.cell 9
  have z10 : (v10.alloc (.cells #[.int .i64 0, .int .i64 0, .int .i64 W, .int .i64 H] 28)).cell? ⟨w.heap.size, 10, none⟩ = some (.int .i64 cp.c) := K1.cell 10
  have z11 : (v10.alloc (.cells #[.int .i64 0, .int .i64 0, .int .i64 W, .int .i64 H] 28)).cell? ⟨w.heap.size, 11, none⟩ = some (.int .i64 cp.d) := K1.cell 11
  have z12 : (v10.alloc (.cells #[.int .i64 0, .int .i64 0, .int .i64 W, .int .i64 H] 28)).cell? ⟨w.heap.size, 12, none⟩ = some (.int .i64 cw) := K1.cell 12
  have z13 : (v10.alloc (.cells #[.int .i64 0, .int .i64 0, .int .i64 W, .int .i64 H] 28)).cell? ⟨w.heap.size, 13, none⟩ = some (.int .i64 ch) := K1.cell 13
  have z14 : (v10.alloc (.cells #[.int .i64 0, .int .i64 0, .int .i64 W, .int .i64 H] 28)).cell? ⟨w.heap.size, 14, none⟩ = some (.slice A la cap) := K1.cell 14
  clear K1
  go_wp2_with fail
  refine (c5 _ G11).mono ?_
  rintro e v11 ⟨W2, H2, n2, F2, a1, a2, s1', l1, rb, hG, rfl, C2, hb2, g2⟩
  replace B9 := B9.bl g2
  replace Q1 := Q1.bl g2
  replace I2 := I2.bl g2
  replace O3 := O3.bl g2
  replace T8 := T8.bl g2
  have G12 := G11.trans g2
  clear g2 G11 c5 hb2 z0 z1 z2 z3 z4 z5 z6 z7 z8 z9 z10 z11 z12 z13 z14
  go_wp2_with fail
  refine (layer1 (rc := n2) (n := n2) a1 a2 s1' l1 cp _ C2.rowC hG.len.symm (hG.len.trans hG.hn) hG.w1 (Nat.le_trans hG.w2 (by decide)) hG.h1 (Nat.le_trans hG.h2 (by decide)) hG.may).mono ?_
  rintro e v12 ⟨p2, c2, rfl, J12, hp2, hc2, g3⟩
  have z1 := I2.hd.lt
  have z2 := I2.cs.lt
  have z3 := O3.hd.lt
  have z4 := O3.cs.lt
  have z5 := T8.hd.lt
  have z6 := T8.cs.lt
  have z7 := B9.lt
  have z8 := Q1.lt
  replace B9 := B9.bl g3
  replace Q1 := Q1.bl g3
  replace I2 := I2.bl g3
  replace O3 := O3.bl g3
  replace T8 := T8.bl g3
  have G13 := G12.trans g3
  clear g3 G12 C2
  generalize v9.heap.size = b7 at *
  generalize v10.heap.size = bq at *
  go_wp2_with fail
  refine (draw1 (L := F) (M := F2) a1 a2 s1' l1 cp (some ⟨bq, 0, none⟩) 1 [⟨0, 0, W, H⟩] v12 I2 J12 (by omega) (by omega) (by omega) hFm hG.may hG.ly (.inr ⟨bq, 0, rfl, Q1.rowR rfl⟩) (by simp)).mono ?_
  rintro e v13 ⟨R1, hR1, rfl, b13, I13⟩
  clear hR1
  have hD := drawP_may W (fun p q => lyF_c32 W2 H2 F2 s1' a1 a2 l1 p q) (fun p q h => lyF_may (W := W2) (H := H2) (M := F2) s1' a1 a2 l1 p hG.may h) (ptsL R1) F hFm
  have hDl := (drawP_len W (lyF W2 H2 F2 s1' a1 a2 l1) (ptsL R1) F).trans hFl.out
  replace B9 := B9.kept b13 (by simp; omega)
  replace Q1 := Q1.kept b13 (by simp; omega)
  replace O3 := O3.kept b13 (by simp; omega) (by simp; omega)
  replace T8 := T8.kept b13 (by simp; omega) (by simp; omega)
  have G14 := G13.row b13 (by omega)
  clear b13 G13 J12 I2
  generalize drawP W (lyF W2 H2 F2 s1' a1 a2 l1) F (ptsL R1) = D at *
  generalize (ptsL R1).length = nR1 at *
  have hDl' := Lib.hid hDl
  clear hDl
  clear hG
  have y0 : v13.cell? ⟨b7, 0, none⟩ = some (.pointer (some ⟨p8, 0, none⟩)) := B9.cell 0
  have y1 : v13.cell? ⟨b7, 1, none⟩ = some (.int .i64 0) := B9.cell 1
  have y2 : v13.cell? ⟨b7, 2, none⟩ = some (.int .i64 0) := B9.cell 2
  have y3 : v13.cell? ⟨b7, 3, none⟩ = some (.int .i64 1) := B9.cell 3
  have y4 : v13.cell? ⟨b7, 4, none⟩ = some (.int .i64 255) := B9.cell 4
  have y5 : v13.cell? ⟨b7, 5, none⟩ = some (.int .i64 0) := B9.cell 5
  have y6 : v13.cell? ⟨b7, 6, none⟩ = some (.int .i64 0) := B9.cell 6
  have y7 : v13.cell? ⟨b7, 7, none⟩ = some (.int .i64 W) := B9.cell 7
  have y8 : v13.cell? ⟨b7, 8, none⟩ = some (.int .i64 H) := B9.cell 8
  go_wp2_with fail
  refine (draw1 (L := D) (M := List.replicate (W * H) (mk 255 qr qg qb)) 0 0 1 255 ⟨0, 0, W, H⟩ (some ⟨bq, 0, none⟩) 1 [⟨0, 0, W, H⟩] v13 I13 T8 (by omega) (by omega) (by omega) hD hsm (whole_ly s1 (by omega) t1 (by omega)) (.inr ⟨bq, 0, rfl, Q1.rowR rfl⟩) (by simp)).mono ?_
  rintro e v14 ⟨R2, hR2, rfl, b14, I14⟩
  rw [solid_all s1 hDl'.out bR bG bB hR2] at I14
  clear hR2 y0 y1 y2 y3 y4 y5 y6 y7 y8
  replace B9 := B9.kept b14 (by simp; omega)
  replace Q1 := Q1.kept b14 (by simp; omega)
  replace O3 := O3.kept b14 (by simp; omega) (by simp; omega)
  replace T8 := T8.kept b14 (by simp; omega) (by simp; omega)
  have G15 := G14.row b14 (by omega)
  clear b14 G14 I13 hD hDl'
  generalize (ptsL R2).length = nR2 at *
  have y0 : v14.cell? ⟨b7, 0, none⟩ = some (.pointer (some ⟨p8, 0, none⟩)) := B9.cell 0
  have y1 : v14.cell? ⟨b7, 1, none⟩ = some (.int .i64 0) := B9.cell 1
  have y2 : v14.cell? ⟨b7, 2, none⟩ = some (.int .i64 0) := B9.cell 2
  have y3 : v14.cell? ⟨b7, 3, none⟩ = some (.int .i64 1) := B9.cell 3
  have y4 : v14.cell? ⟨b7, 4, none⟩ = some (.int .i64 255) := B9.cell 4
  have y5 : v14.cell? ⟨b7, 5, none⟩ = some (.int .i64 0) := B9.cell 5
  have y6 : v14.cell? ⟨b7, 6, none⟩ = some (.int .i64 0) := B9.cell 6
  have y7 : v14.cell? ⟨b7, 7, none⟩ = some (.int .i64 W) := B9.cell 7
  have y8 : v14.cell? ⟨b7, 8, none⟩ = some (.int .i64 H) := B9.cell 8
  go_wp2_with fail
  refine (draw1 (L := F) (M := List.replicate (W * H) (mk 255 qr qg qb)) 0 0 1 255 ⟨0, 0, W, H⟩ (some ⟨bq, 0, none⟩) 1 [⟨0, 0, W, H⟩] v14 O3 T8 (by omega) (by omega) (by omega) hFm hsm (whole_ly s1 (by omega) t1 (by omega)) (.inr ⟨bq, 0, rfl, Q1.rowR rfl⟩) (by simp)).mono ?_
  rintro e v15 ⟨R3, hR3, rfl, b15, O15⟩
  rw [solid_all s1 hFl.out bR bG bB hR3] at O15
  have I15 := I14.kept b15 (by simp; omega) (by simp; omega)
  replace T8 := T8.kept b15 (by simp; omega) (by simp; omega)
  have G16 := G15.row b15 (by omega)
  clear b15 G15 I14 O3 Q1 B9 hR3 hFm y0 y1 y2 y3 y4 y5 y6 y7 y8
  generalize (ptsL R3).length = nR3 at *
  have cS := isame1 v15 I15.x O15.x
  have cS2 := fun (w' : World) (g : Gr v15 w') => isame1 w' (I15.gr g).x (T8.gr g).x
  generalize List.replicate (W * H) (mk 255 qr qg qb) = M at *
  rw [decide_eq_true (rfl : M = M)] at cS cS2
  clear I15 O15 T8
  go_wp2_with fail
  refine cS.mono ?_
  rintro e u1 ⟨rfl, h1⟩
  go_wp2_with fail
  refine (cS2 _ h1).mono ?_
  rintro e u2 ⟨rfl, h2⟩
  go_wp2_with fail
  refine (plives1 _).mono ?_
  rintro e u3 ⟨rfl, h3⟩
  go_wp2
  go_ret
  exact ⟨rfl, ((G16.gr h1).gr h2).gr h3⟩

set_option maxRecDepth 100000 in
theorem paintHidden_lifted (os : Os) (started : os.Started) (H : Type) (enc : TypeId × Value → H) :
    ReturnsInHanded {} Try.checked os 5 .any (Rows.paintHiddenSpec.pre6 enc Try.prog Try.f5 Rows.paintHiddenRow.domain false) (Rows.paintHiddenSpec.post enc Try.prog Try.f5 false true false false) := by
  refine returnsInHanded_of_change (C := Try.checked) own started (by kernel_rfl) Try.func5
    (ChangeSpec.witness6 (enc := enc) (C := Try.checked) false ⟨#[], #[.int .i64 0, .int .i64 0, .slice none 0 0, .agg #[.bool false, .int .i64 0, .int .i64 0, .slice none 0 0, .int .i64 0, .int .i64 0, .int .i64 0, .int .i64 0, .int .i64 0, .int .i64 0, .int .i64 0, .int .i64 0, .int .i64 0, .int .i64 0, .slice none 0 0], .int .u32 0], []⟩ 8 (by kernel_rfl) (by kernel_rfl) (by kernel_rfl) (by kernel_rfl)) ?_
  intro W base args ds gs before hval0 hW hcnd _
  have hval : ∀ (j : Nat) t v, Try.f5.params[j]? = some t → args[j]? = some v → Value.okWide Try.prog W .any base t v := hval0
  have hW' := hW
  obtain ⟨p, q, hA0, hV, rfl, hfz, hnd⟩ := hW
  have hA : DataW.TrodAll enc Try.prog W 0 (fun _ => true) true Try.f5.params.toList args.toList ds p := hA0
  rw [Try.params5] at hA hval
  obtain ⟨v0, vs0, d0, ds0, p0, q0, hargs, rfl, rfl, h0, r0⟩ := trodAll_cons hA
  obtain ⟨v1, vs1, d1, ds1, p1, q1, rfl, rfl, rfl, h1, r1⟩ := trodAll_cons r0
  obtain ⟨v2, vs2, d2, ds2, p2, q2, rfl, rfl, rfl, h2, r2⟩ := trodAll_cons r1
  obtain ⟨v3, vs3, d3, ds3, p3, q3, rfl, rfl, rfl, h3, r3⟩ := trodAll_cons r2
  obtain ⟨v4, vs4, d4, ds4, p4, q4, rfl, rfl, rfl, h4, r4⟩ := trodAll_cons r3
  obtain ⟨rfl, rfl, rfl⟩ := trodAll_nil r4
  obtain rfl : args = #[v0, v1, v2, v3, v4] := by cases args; simp_all
  obtain ⟨rfl, rfl⟩ := trodVars_none hV
  obtain ⟨n0, rfl, rfl, rfl, un0⟩ := open_int Try.underlying3 (hval 0 3 v0 rfl rfl) h0
  have wn0 := I64.of_wf un0
  obtain ⟨n1, rfl, rfl, rfl, un1⟩ := open_int Try.underlying3 (hval 1 3 v1 rfl rfl) h1
  have wn1 := I64.of_wf un1
  obtain ⟨A2, c2, L2, rfl, hc2, hm2, hr2, hI2⟩ := open_colors (hval 2 22 v2 rfl rfl) h2
  unfold maxLen at hm2
  obtain ⟨sm3, W03, H03, A03, n03, c03, ax3, ay3, s3, al3, cp3, cw3, ch3, A3, c3, L3, rfl, hK3, hc3, hm3, hr3, hI3⟩ := open_case (hval 3 32 v3 rfl rfl) h3
  obtain ⟨n4, rfl, rfl, rfl, un4⟩ := open_int Try.underlying35 (hval 4 35 v4 rfl rfl) h4
  have wn4 := U32.of_wf un4
  clear hA0 hval0
  simp only [List.append_nil, List.nil_append] at hW'
  have hlt := hW'.lt
  refine (phidden_walk n0 n1 A2 c2 L2 sm3 W03 H03 A03 n03 c03 ax3 ay3 s3 al3 cp3 cw3 ch3 A3 c3 L3 n4 W wn0 wn1 hr2 hI2 hc2 (by unfold maxLen; exact hm2) hK3 hc3 hm3 hr3 hI3 wn4).mono fun e W' ⟨he, hb⟩ => ?_
  subst he
  exact ⟨_, rfl, close_below (pa := p2 ++ p3) (pv := []) hW' (fun _ _ _ => (trodAll_cons_mk (shut_bool Try.underlying4 _) trodAll_mk0)) (fun sp hsp => by
      have := (trodAll_cons_mk (shut_int Try.underlying3 un0) (trodAll_cons_mk (shut_int Try.underlying3 un1) (trodAll_cons_mk (WideElems.Trod_stays laidOut (by kernel_rfl) (of_decide_eq_true (by kernel_rfl)) h2 (fun x hx => Below.same hb (hlt x (by simp [hx]))) (sp' := sp) (fun x hx => hsp x (by simp [hx]))) (trodAll_cons_mk (WideElems.Trod_stays laidOut (by kernel_rfl) (of_decide_eq_true (by kernel_rfl)) h3 (fun x hx => Below.same hb (hlt x (by simp [hx]))) (sp' := sp) (fun x hx => hsp x (by simp [hx]))) (trodAll_cons_mk (shut_int Try.underlying35 un4) trodAll_mk0)))))
      simp only [List.append_nil, List.nil_append] at this
      exact this)
    (fun _ _ => rfl) (by simp) hb (ok_one (by kernel_rfl) rfl (okWide_bool_mk Try.underlying4 _))⟩

theorem paintHidden_holds : Rows.PaintHiddenSaid :=
  OpenClaim.holds_of_wide 5 Try.f5 rfl rfl rfl rfl rfl rfl rfl ⟨rfl, rfl, rfl, rfl, rfl⟩ rfl rfl rfl rfl rfl (by kernel_rfl) Try.func5 (by kernel_rfl)
    (of_decide_eq_true (by kernel_rfl)) (by unfold Func.isWrapper; first | (rw [if_pos (by decide +kernel)]; kernel_rfl) | (rw [if_neg (by decide +kernel)]; exact ⟨rfl, rfl⟩))
    (fun os started H enc _ => paintHidden_lifted os started H enc)

#print axioms paintHidden_holds

end Go.Proofs.Ytnjabfhfajbmaaa
