/-
  What is proved: the statement PaintNone: a layer of the alpha 0 changes no color, though its points are counted. No conditions.
-/
import Derived.Test.YtnjabfhfajbmaaaZo
import Derived.Test.YtnjabfhfajbmaaaZm
import Derived.Test.YtnjabfhfajbmaaaZl
import Derived.Test.YtnjabfhfajbmaaaZj
import Derived.Test.YtnjabfhfajbmaaaZb
import Derived.Test.YtnjabfhfajbmaaaZa
import Derived.Deep.RegionHeld3
import Derived.StillTailTactics
namespace Go.Proofs.Ytnjabfhfajbmaaa
open Go.ChangeShapes Go.WideShapes Go.ChangeAt Go.RowKit Go.Joins Go.Sort Go.Deep

set_option maxRecDepth 100000 in
set_option maxHeartbeats 8000000 in
theorem pnone_walk (xw yh : Int) (A1 : Option Addr) (k1 : Nat) (L1 : List Int) (sm : Bool) (W0 H0 : Int) (A0 : Option Addr) (n0 c0 : Nat) (ax ay s al : Int) (cp : Rc) (cw ch : Int) (A : Option Addr) (cap : Nat) (L : List Int) (w : World) (hx : I64 xw) (hy : I64 yh) (hA1 : Ns .u32 w A1 L1) (h321 : ∀ c ∈ L1, C32 c) (hc1 : L1.length ≤ k1) (hm1 : k1 ≤ maxLen) (hK : KOk ax ay s al cp cw ch) (hlc : L.length ≤ cap) (hcm : cap ≤ maxLen) (hA : Ns .u32 w A L) (h32 : ∀ c ∈ L, C32 c) :
    Calls Try.prog 6 #[.int .i64 xw, .int .i64 yh, .slice A1 L1.length k1, .agg #[.bool sm, .int .i64 W0, .int .i64 H0, .slice A0 n0 c0, .int .i64 ax, .int .i64 ay, .int .i64 s, .int .i64 al, .int .i64 cp.a, .int .i64 cp.b, .int .i64 cp.c, .int .i64 cp.d, .int .i64 cw, .int .i64 ch, .slice A L.length cap]] w (fun e w' => e = .returned (.bool true) ∧ Bl w w') := by
  obtain ⟨s1, s2, hs3⟩ := side_bd xw
  obtain ⟨t1, t2, ht3⟩ := side_bd yh
  clear hs3 ht3
  have G := (Gr.refl w).alloc (.cells #[.bool sm, .int .i64 W0, .int .i64 H0, .slice A0 n0 c0, .int .i64 ax, .int .i64 ay, .int .i64 s, .int .i64 al, .int .i64 cp.a, .int .i64 cp.b, .int .i64 cp.c, .int .i64 cp.d, .int .i64 cw, .int .i64 ch, .slice A L.length cap] 32)
  have c4 := fun w' (g : Bl w w') => mgood1 xw yh A1 k1 L1 w' (hA1.bl g) h321 hc1 hm1 hx hy
  have c5 := fun w' (g : Bl w w') => kgood1 sm W0 H0 A0 n0 c0 ax ay s al cp cw ch A cap L w' hK hlc hcm (hA.bl g) h32
  have hFl := goodL_len (side xw * side yh) L1
  have hFm := goodL_may (side xw * side yh) L1
  clear hA1 h321 hc1 hm1 hx hy hK hlc hcm hA h32
  generalize side xw = W at *
  generalize side yh = H at *
  generalize goodL (W * H) L1 = F at *
  obtain ⟨n, hn⟩ : ∃ n, n = W * H := ⟨_, rfl⟩
  have hFn : F.length = n := hFl.trans hn.symm
  have cb := fun (b : Nat) (w : World) (h : RowN .u32 w b 0 F) => pbuild1 (c := n) w h hFl s1 (by omega) t1 (by omega) hFm
  have cL := fun (pm pc b : Nat) (w : World) (h : Img w pm pc W H F) (h2 : RowN .u32 w b 0 F) => plike1 (c := n) w h.x h2
  rw [hFn] at cb cL
  rw [← hn] at c4
  replace hFl := Lib.hid hFl
  replace hn := Lib.hid hn
  replace hFn := Lib.hid hFn
  generalize L1.length = la1 at *
  generalize L.length = la at *
  have mixed : Try.prog.follows .mixedOrders = true := by kernel_rfl
  go_enter Try.func6, Try.ntmps6
  go_wp2_with fail
  refine (c4 _ G.bl).mono ?_
  rintro e v1 ⟨b, rfl, C1, hb1, g1⟩
  have K1 := ((At.new w #[.bool sm, .int .i64 W0, .int .i64 H0, .slice A0 n0 c0, .int .i64 ax, .int .i64 ay, .int .i64 s, .int .i64 al, .int .i64 cp.a, .int .i64 cp.b, .int .i64 cp.c, .int .i64 cp.d, .int .i64 cw, .int .i64 ch, .slice A la cap] 32).bl g1).alloc (.cells #[.int .i64 W, .int .i64 H, .slice (some ⟨b, 0, none⟩) n n] 24)
  have M1 := At.new v1 #[.int .i64 W, .int .i64 H, .slice (some ⟨b, 0, none⟩) n n] 24
  replace C1 := C1.alloc (.cells #[.int .i64 W, .int .i64 H, .slice (some ⟨b, 0, none⟩) n n] 24)
  have G1 := (G.bl.trans g1).alloc (.cells #[.int .i64 W, .int .i64 H, .slice (some ⟨b, 0, none⟩) n n] 24)
  have hM0 : w.heap.size ≤ v1.heap.size := (G.bl.trans g1).size
  have z0 : (v1.alloc (.cells #[.int .i64 W, .int .i64 H, .slice (some ⟨b, 0, none⟩) n n] 24)).cell? ⟨w.heap.size, 0, none⟩ = some (.bool sm) := K1.cell 0
  have z1 : (v1.alloc (.cells #[.int .i64 W, .int .i64 H, .slice (some ⟨b, 0, none⟩) n n] 24)).cell? ⟨w.heap.size, 1, none⟩ = some (.int .i64 W0) := K1.cell 1
  have z2 : (v1.alloc (.cells #[.int .i64 W, .int .i64 H, .slice (some ⟨b, 0, none⟩) n n] 24)).cell? ⟨w.heap.size, 2, none⟩ = some (.int .i64 H0) := K1.cell 2
  have z3 : (v1.alloc (.cells #[.int .i64 W, .int .i64 H, .slice (some ⟨b, 0, none⟩) n n] 24)).cell? ⟨w.heap.size, 3, none⟩ = some (.slice A0 n0 c0) := K1.cell 3
  have z4 : (v1.alloc (.cells #[.int .i64 W, .int .i64 H, .slice (some ⟨b, 0, none⟩) n n] 24)).cell? ⟨w.heap.size, 4, none⟩ = some (.int .i64 ax) := K1.cell 4
  have z5 : (v1.alloc (.cells #[.int .i64 W, .int .i64 H, .slice (some ⟨b, 0, none⟩) n n] 24)).cell? ⟨w.heap.size, 5, none⟩ = some (.int .i64 ay) := K1.cell 5
  have z6 : (v1.alloc (.cells #[.int .i64 W, .int .i64 H, .slice (some ⟨b, 0, none⟩) n n] 24)).cell? ⟨w.heap.size, 6, none⟩ = some (.int .i64 s) := K1.cell 6
  have z7 : (v1.alloc (.cells #[.int .i64 W, .int .i64 H, .slice (some ⟨b, 0, none⟩) n n] 24)).cell? ⟨w.heap.size, 7, none⟩ = some (.int .i64 al) := K1.cell 7
  have z8 : (v1.alloc (.cells #[.int .i64 W, .int .i64 H, .slice (some ⟨b, 0, none⟩) n n] 24)).cell? ⟨w.heap.size, 8, none⟩ = some (.int .i64 cp.a) := K1.cell 8
  have z9 : (v1.alloc (.cells #[.int .i64 W, .int .i64 H, .slice (some ⟨b, 0, none⟩) n n] 24)).cell? ⟨w.heap.size, 9, none⟩ = some (.int .i64 cp.b) := K1.cell 9
  have z10 : (v1.alloc (.cells #[.int .i64 W, .int .i64 H, .slice (some ⟨b, 0, none⟩) n n] 24)).cell? ⟨w.heap.size, 10, none⟩ = some (.int .i64 cp.c) := K1.cell 10
  have z11 : (v1.alloc (.cells #[.int .i64 W, .int .i64 H, .slice (some ⟨b, 0, none⟩) n n] 24)).cell? ⟨w.heap.size, 11, none⟩ = some (.int .i64 cp.d) := K1.cell 11
  have z12 : (v1.alloc (.cells #[.int .i64 W, .int .i64 H, .slice (some ⟨b, 0, none⟩) n n] 24)).cell? ⟨w.heap.size, 12, none⟩ = some (.int .i64 cw) := K1.cell 12
  have z13 : (v1.alloc (.cells #[.int .i64 W, .int .i64 H, .slice (some ⟨b, 0, none⟩) n n] 24)).cell? ⟨w.heap.size, 13, none⟩ = some (.int .i64 ch) := K1.cell 13
  have z14 : (v1.alloc (.cells #[.int .i64 W, .int .i64 H, .slice (some ⟨b, 0, none⟩) n n] 24)).cell? ⟨w.heap.size, 14, none⟩ = some (.slice A la cap) := K1.cell 14
  clear g1 c4 hb1
  go_wp2_with fail
  refine (c5 _ G1).mono ?_
  rintro e v2 ⟨W2, H2, n2, F2, a1, a2, s1', l1, rb, hG, rfl, C2, hb2, g2⟩
  have G9 := (G1.trans g2).alloc (.cells #[.bool true, .int .i64 W2, .int .i64 H2, .slice (some ⟨rb, 0, none⟩) n2 n2, .int .i64 a1, .int .i64 a2, .int .i64 s1', .int .i64 0, .int .i64 cp.a, .int .i64 cp.b, .int .i64 cp.c, .int .i64 cp.d] 30)
  have hG0 := (G1.trans g2).size
  have B9 := At.new v2 #[.bool true, .int .i64 W2, .int .i64 H2, .slice (some ⟨rb, 0, none⟩) n2 n2, .int .i64 a1, .int .i64 a2, .int .i64 s1', .int .i64 0, .int .i64 cp.a, .int .i64 cp.b, .int .i64 cp.c, .int .i64 cp.d] 30
  have N1 := (M1.bl g2).alloc (.cells #[.bool true, .int .i64 W2, .int .i64 H2, .slice (some ⟨rb, 0, none⟩) n2 n2, .int .i64 a1, .int .i64 a2, .int .i64 s1', .int .i64 0, .int .i64 cp.a, .int .i64 cp.b, .int .i64 cp.c, .int .i64 cp.d] 30)
  have D1 := (C1.bl g2).alloc (.cells #[.bool true, .int .i64 W2, .int .i64 H2, .slice (some ⟨rb, 0, none⟩) n2 n2, .int .i64 a1, .int .i64 a2, .int .i64 s1', .int .i64 0, .int .i64 cp.a, .int .i64 cp.b, .int .i64 cp.c, .int .i64 cp.d] 30)
  have D2 := C2.alloc (.cells #[.bool true, .int .i64 W2, .int .i64 H2, .slice (some ⟨rb, 0, none⟩) n2 n2, .int .i64 a1, .int .i64 a2, .int .i64 s1', .int .i64 0, .int .i64 cp.a, .int .i64 cp.b, .int .i64 cp.c, .int .i64 cp.d] 30)
  obtain ⟨m0, m1, m2⟩ := cells3 N1
  clear g2 c5 hb2 G1 M1 K1 C1 C2 z0 z1 z2 z3 z4 z5 z6 z7 z8 z9 z10 z11 z12 z13 z14
  generalize v1.heap.size = bM at *
  go_wp2_with fail
  refine (cb _ _ D1.rowC).mono ?_
  rintro e v3 ⟨pm, pc, rfl, I3, hpm, hpc, g3⟩
  have hbl := D1.lt
  have hBl := B9.lt
  have hMl := N1.lt
  have hrl := D2.lt
  have G3 := G9.trans g3
  replace B9 := B9.bl g3
  replace N1 := N1.bl g3
  replace D1 := D1.bl g3
  replace D2 := D2.bl g3
  clear g3 cb m0 m1 m2 G9
  generalize v2.heap.size = b7 at *
  obtain ⟨m0, m1, m2⟩ := cells3 N1
  go_wp2_with fail
  refine (refBox1 _).mono ?_
  rintro e v4 ⟨rfl, g4⟩
  replace B9 := B9.gr g4
  replace N1 := N1.gr g4
  replace D1 := D1.gr g4
  replace D2 := D2.gr g4
  replace I3 := I3.gr g4
  have G4 := G3.gr g4
  clear g4 G3 m0 m1 m2
  replace B9 := B9.alloc (.cells #[.int .i64 0, .int .i64 0, .int .i64 W, .int .i64 H] 28)
  replace N1 := N1.alloc (.cells #[.int .i64 0, .int .i64 0, .int .i64 W, .int .i64 H] 28)
  replace D1 := D1.alloc (.cells #[.int .i64 0, .int .i64 0, .int .i64 W, .int .i64 H] 28)
  replace D2 := D2.alloc (.cells #[.int .i64 0, .int .i64 0, .int .i64 W, .int .i64 H] 28)
  replace I3 := I3.gr ((Gr.refl v4).alloc (.cells #[.int .i64 0, .int .i64 0, .int .i64 W, .int .i64 H] 28))
  have Q1 := At.new v4 #[.int .i64 0, .int .i64 0, .int .i64 W, .int .i64 H] 28
  replace G4 := G4.alloc (.cells #[.int .i64 0, .int .i64 0, .int .i64 W, .int .i64 H] 28)
  have y0 : (v4.alloc (.cells #[.int .i64 0, .int .i64 0, .int .i64 W, .int .i64 H] 28)).cell? ⟨b7, 0, none⟩ = some (.bool true) := B9.cell 0
  have y1 : (v4.alloc (.cells #[.int .i64 0, .int .i64 0, .int .i64 W, .int .i64 H] 28)).cell? ⟨b7, 1, none⟩ = some (.int .i64 W2) := B9.cell 1
  have y2 : (v4.alloc (.cells #[.int .i64 0, .int .i64 0, .int .i64 W, .int .i64 H] 28)).cell? ⟨b7, 2, none⟩ = some (.int .i64 H2) := B9.cell 2
  have y3 : (v4.alloc (.cells #[.int .i64 0, .int .i64 0, .int .i64 W, .int .i64 H] 28)).cell? ⟨b7, 3, none⟩ = some (.slice (some ⟨rb, 0, none⟩) n2 n2) := B9.cell 3
  have y4 : (v4.alloc (.cells #[.int .i64 0, .int .i64 0, .int .i64 W, .int .i64 H] 28)).cell? ⟨b7, 4, none⟩ = some (.int .i64 a1) := B9.cell 4
  have y5 : (v4.alloc (.cells #[.int .i64 0, .int .i64 0, .int .i64 W, .int .i64 H] 28)).cell? ⟨b7, 5, none⟩ = some (.int .i64 a2) := B9.cell 5
  have y6 : (v4.alloc (.cells #[.int .i64 0, .int .i64 0, .int .i64 W, .int .i64 H] 28)).cell? ⟨b7, 6, none⟩ = some (.int .i64 s1') := B9.cell 6
  have y7 : (v4.alloc (.cells #[.int .i64 0, .int .i64 0, .int .i64 W, .int .i64 H] 28)).cell? ⟨b7, 7, none⟩ = some (.int .i64 0) := B9.cell 7
  have y8 : (v4.alloc (.cells #[.int .i64 0, .int .i64 0, .int .i64 W, .int .i64 H] 28)).cell? ⟨b7, 8, none⟩ = some (.int .i64 cp.a) := B9.cell 8
  have y9 : (v4.alloc (.cells #[.int .i64 0, .int .i64 0, .int .i64 W, .int .i64 H] 28)).cell? ⟨b7, 9, none⟩ = some (.int .i64 cp.b) := B9.cell 9
  have y10 : (v4.alloc (.cells #[.int .i64 0, .int .i64 0, .int .i64 W, .int .i64 H] 28)).cell? ⟨b7, 10, none⟩ = some (.int .i64 cp.c) := B9.cell 10
  have y11 : (v4.alloc (.cells #[.int .i64 0, .int .i64 0, .int .i64 W, .int .i64 H] 28)).cell? ⟨b7, 11, none⟩ = some (.int .i64 cp.d) := B9.cell 11
  go_wp2_with fail
  refine (layer1 (rc := n2) (n := n2) a1 a2 s1' 0 cp _ D2.rowC hG.len.symm (hG.len.trans hG.hn) hG.w1 (Nat.le_trans hG.w2 (by decide)) hG.h1 (Nat.le_trans hG.h2 (by decide)) hG.may).mono ?_
  rintro e v5 ⟨p2, c2, rfl, J5, hp2, hc2, g5⟩
  have hpl := I3.hd.lt
  have hcl := I3.cs.lt
  have hql := Q1.lt
  replace B9 := B9.bl g5
  replace N1 := N1.bl g5
  replace D1 := D1.bl g5
  replace I3 := I3.bl g5
  replace Q1 := Q1.bl g5
  have G5 := G4.trans g5
  clear g5 G4 D2 y0 y1 y2 y3 y4 y5 y6 y7 y8 y9 y10 y11
  generalize v4.heap.size = bq at *
  go_wp2_with fail
  have hLz := (show LyG W2 H2 n2 F2 a1 a2 s1' 0 from { hG with b4 := by omega }).ly
  have hs1 := hG.b3
  have hw2 := Nat.le_trans hG.w2 (show 16 ≤ 256 by decide)
  have hh2 := Nat.le_trans hG.h2 (show 16 ≤ 256 by decide)
  have hWW : W ≤ 256 := by omega
  have hHH : H ≤ 256 := by omega
  have hbb1 := hG.b1
  have hbb2 := hG.b2
  refine (draw1 (L := F) (M := F2) a1 a2 s1' 0 cp (some ⟨bq, 0, none⟩) 1 [⟨0, 0, W, H⟩] v5 I3 J5 (by omega) (by omega) (by omega) hFm hG.may hLz (.inr ⟨bq, 0, rfl, Q1.rowR rfl⟩) (by simp)).mono ?_
  rintro e v6 ⟨R, hQ, rfl, b6, I6⟩
  obtain ⟨hd, hnn⟩ := none_of (M := F2) hWW hHH hFm hs1.1 hQ
  rw [hd] at I6
  rw [hnn]
  have hmz := lyCut_may cp W2 H2 s1' a1 a2 hWW hHH
  have B10 := B9.kept b6 (by simp; omega)
  have N10 := N1.kept b6 (by simp; omega)
  have D10 := D1.kept b6 (by simp; omega)
  have G10 := G5.row b6 (by omega)
  have cBx := fun w => rbox1 W2 H2 (some ⟨rb, 0, none⟩) n2 n2 true a1 a2 s1' 0 cp w hw2 hh2 hs1.1 (by omega) ⟨by omega, by omega⟩ ⟨by omega, by omega⟩
  have cCt := fun w => refcutI1 (lyBox cp W2 H2 s1' a1 a2).a (lyBox cp W2 H2 s1' a1 a2).b (lyBox cp W2 H2 s1' a1 a2).c (lyBox cp W2 H2 s1' a1 a2).d 0 0 W H w
  have cAr := fun w => refarea1 _ _ _ _ w hmz
  change ∀ w, Calls _ _ _ w (Rt w (.agg #[.int .i64 (lyCut cp W2 H2 s1' a1 a2 W H).a, .int .i64 (lyCut cp W2 H2 s1' a1 a2 W H).b, .int .i64 (lyCut cp W2 H2 s1' a1 a2 W H).c, .int .i64 (lyCut cp W2 H2 s1' a1 a2 W H).d])) at cCt
  clear B9 N1 D1 G5 b6 hd hnn hQ hmz hLz Q1 I3 J5
  generalize lyCut cp W2 H2 s1' a1 a2 W H = S at *
  generalize lyBox cp W2 H2 s1' a1 a2 = bx at *
  have SK : ∀ V, Gr v6 V → (V.cell? ⟨b7, 0, none⟩ = some (.bool true) ∧ V.cell? ⟨b7, 1, none⟩ = some (.int .i64 W2) ∧ V.cell? ⟨b7, 2, none⟩ = some (.int .i64 H2) ∧ V.cell? ⟨b7, 3, none⟩ = some (.slice (some ⟨rb, 0, none⟩) n2 n2) ∧ V.cell? ⟨b7, 4, none⟩ = some (.int .i64 a1) ∧ V.cell? ⟨b7, 5, none⟩ = some (.int .i64 a2) ∧ V.cell? ⟨b7, 6, none⟩ = some (.int .i64 s1') ∧ V.cell? ⟨b7, 7, none⟩ = some (.int .i64 0) ∧ V.cell? ⟨b7, 8, none⟩ = some (.int .i64 cp.a) ∧ V.cell? ⟨b7, 9, none⟩ = some (.int .i64 cp.b) ∧ V.cell? ⟨b7, 10, none⟩ = some (.int .i64 cp.c) ∧ V.cell? ⟨b7, 11, none⟩ = some (.int .i64 cp.d) ∧ V.cell? ⟨bM, 0, none⟩ = some (.int .i64 W) ∧ V.cell? ⟨bM, 1, none⟩ = some (.int .i64 H) ∧ V.cell? ⟨bM, 2, none⟩ = some (.slice (some ⟨b, 0, none⟩) n n) ∧ Gr v6 V) := fun V g => ⟨(B10.gr g).cell 0, (B10.gr g).cell 1, (B10.gr g).cell 2, (B10.gr g).cell 3, (B10.gr g).cell 4, (B10.gr g).cell 5, (B10.gr g).cell 6, (B10.gr g).cell 7, (B10.gr g).cell 8, (B10.gr g).cell 9, (B10.gr g).cell 10, (B10.gr g).cell 11, (N10.gr g).cell 0, (N10.gr g).cell 1, (N10.gr g).cell 2, g⟩
  clear hG hs1 hw2 hh2 hWW hHH hbb1 hbb2 hFm hbl hBl hMl hrl hpl hcl hql hp2 hc2 hpm hpc
  go_wp2
  go_region_held3 (fun V => V.cell? ⟨b7, 0, none⟩ = some (.bool true) ∧ V.cell? ⟨b7, 1, none⟩ = some (.int .i64 W2) ∧ V.cell? ⟨b7, 2, none⟩ = some (.int .i64 H2) ∧ V.cell? ⟨b7, 3, none⟩ = some (.slice (some ⟨rb, 0, none⟩) n2 n2) ∧ V.cell? ⟨b7, 4, none⟩ = some (.int .i64 a1) ∧ V.cell? ⟨b7, 5, none⟩ = some (.int .i64 a2) ∧ V.cell? ⟨b7, 6, none⟩ = some (.int .i64 s1') ∧ V.cell? ⟨b7, 7, none⟩ = some (.int .i64 0) ∧ V.cell? ⟨b7, 8, none⟩ = some (.int .i64 cp.a) ∧ V.cell? ⟨b7, 9, none⟩ = some (.int .i64 cp.b) ∧ V.cell? ⟨b7, 10, none⟩ = some (.int .i64 cp.c) ∧ V.cell? ⟨b7, 11, none⟩ = some (.int .i64 cp.d) ∧ V.cell? ⟨bM, 0, none⟩ = some (.int .i64 W) ∧ V.cell? ⟨bM, 1, none⟩ = some (.int .i64 H) ∧ V.cell? ⟨bM, 2, none⟩ = some (.slice (some ⟨b, 0, none⟩) n n) ∧ Gr v6 V) ((refine SK _ ?_; repeat (first | with_reducible assumption | with_reducible exact Gr.refl _ | with_reducible exact (And.right (And.right (And.right (And.right (And.right (And.right (And.right (And.right (And.right (And.right (And.right (And.right (And.right (And.right (And.right (by assumption)))))))))))))))) | with_reducible exact Gr.trans (And.right (And.right (And.right (And.right (And.right (And.right (And.right (And.right (And.right (And.right (And.right (And.right (And.right (And.right (And.right (by assumption)))))))))))))))) (by assumption) | with_reducible apply Gr.drew | with_reducible apply Gr.alloc | (with_reducible refine Gr.st4 ?_ ?_ _ _ _ _; rotate_left; first | with_reducible exact Nat.le_refl _ | with_reducible exact Gr.size (by assumption) | omega))))
    ((first
      | (go_at_call 34; (refine (cBx _).mono ?_); rintro e v7 ⟨rfl, g7⟩; have G7 : Gr v6 v7 := Gr.trans (And.right (And.right (And.right (And.right (And.right (And.right (And.right (And.right (And.right (And.right (And.right (And.right (And.right (And.right (And.right (by assumption)))))))))))))))) g7; (try have X7 : At v7 v6.heap.size #[.int .i64 0, .int .i64 0, .int .i64 0, .int .i64 0] 28 := (At.new v6.drew _ _).gr g7); (try have X7 : At v7 v6.heap.size #[.int .i64 0, .int .i64 0, .int .i64 0, .int .i64 0] 28 := (At.new v6 _ _).gr g7); (try have k7 := cells4 X7); (try have f7 := free4 X7); (try obtain ⟨k70, k71, k72, k73⟩ := k7); (try obtain ⟨f70, f71, f72, f73⟩ := f7))
      | (go_at_call 32; (refine (refBox1 _).mono ?_); rintro e v8 ⟨rfl, g8⟩; have G8 : Gr v6 v8 := Gr.trans (And.right (And.right (And.right (And.right (And.right (And.right (And.right (And.right (And.right (And.right (And.right (And.right (And.right (And.right (And.right (by assumption)))))))))))))))) g8; (try have X8 : At v8 v6.heap.size #[.int .i64 0, .int .i64 0, .int .i64 0, .int .i64 0] 28 := X7.gr g8); (try have X8 : At v8 v7.heap.size #[.int .i64 0, .int .i64 0, .int .i64 0, .int .i64 0] 28 := (At.new v7 _ _).gr g8); (try have k8 := cells4 X8); (try have f8 := free4 X8); (try obtain ⟨k80, k81, k82, k83⟩ := k8); (try obtain ⟨f80, f81, f82, f83⟩ := f8))
      | (go_at_call 33; (refine (cCt _).mono ?_); rintro e v9 ⟨rfl, g9⟩; have G9 : Gr v6 v9 := Gr.trans (And.right (And.right (And.right (And.right (And.right (And.right (And.right (And.right (And.right (And.right (And.right (And.right (And.right (And.right (And.right (by assumption)))))))))))))))) g9; (try have X9 : At v9 v6.heap.size #[.int .i64 0, .int .i64 0, .int .i64 0, .int .i64 0] 28 := X8.gr g9); (try have X9 : At v9 v7.heap.size #[.int .i64 0, .int .i64 0, .int .i64 0, .int .i64 0] 28 := X8.gr g9); (try have X9 : At v9 v8.heap.size #[.int .i64 0, .int .i64 0, .int .i64 0, .int .i64 0] 28 := (At.new v8 _ _).gr g9); (try have k9 := cells4 X9); (try have f9 := free4 X9); (try obtain ⟨k90, k91, k92, k93⟩ := k9); (try obtain ⟨f90, f91, f92, f93⟩ := f9))))
  all_goals
    clear SK
    have hk9 : v6.heap.size ≤ v9.heap.size := G9.size
    have hk8 : v6.heap.size ≤ v8.heap.size := G8.size
    have hk7 : v6.heap.size ≤ v7.heap.size := G7.size
    first
      | (have X0 : At v9 v8.heap.size #[.int .i64 0, .int .i64 0, .int .i64 0, .int .i64 0] 28 := X9; have Y8 := X0.put4 (.int .i64 S.a) (.int .i64 S.b) (.int .i64 S.c) (.int .i64 S.d); have B8 := G9.st4 (k := v8.heap.size) hk8 (.int .i64 S.a) (.int .i64 S.b) (.int .i64 S.c) (.int .i64 S.d); change Exit.then _ _ _ _ ((((v9.setCell ⟨v8.heap.size, 0, none⟩ (.int .i64 S.a)).setCell ⟨v8.heap.size, 1, none⟩ (.int .i64 S.b)).setCell ⟨v8.heap.size, 2, none⟩ (.int .i64 S.c)).setCell ⟨v8.heap.size, 3, none⟩ (.int .i64 S.d)); generalize ((((v9.setCell ⟨v8.heap.size, 0, none⟩ (.int .i64 S.a)).setCell ⟨v8.heap.size, 1, none⟩ (.int .i64 S.b)).setCell ⟨v8.heap.size, 2, none⟩ (.int .i64 S.c)).setCell ⟨v8.heap.size, 3, none⟩ (.int .i64 S.d)) = V at Y8 B8 ⊢; generalize v8.heap.size = bk at Y8 ⊢)
      | (have X0 : At v9 v7.heap.size #[.int .i64 0, .int .i64 0, .int .i64 0, .int .i64 0] 28 := X9; have Y8 := X0.put4 (.int .i64 S.a) (.int .i64 S.b) (.int .i64 S.c) (.int .i64 S.d); have B8 := G9.st4 (k := v7.heap.size) hk7 (.int .i64 S.a) (.int .i64 S.b) (.int .i64 S.c) (.int .i64 S.d); change Exit.then _ _ _ _ ((((v9.setCell ⟨v7.heap.size, 0, none⟩ (.int .i64 S.a)).setCell ⟨v7.heap.size, 1, none⟩ (.int .i64 S.b)).setCell ⟨v7.heap.size, 2, none⟩ (.int .i64 S.c)).setCell ⟨v7.heap.size, 3, none⟩ (.int .i64 S.d)); generalize ((((v9.setCell ⟨v7.heap.size, 0, none⟩ (.int .i64 S.a)).setCell ⟨v7.heap.size, 1, none⟩ (.int .i64 S.b)).setCell ⟨v7.heap.size, 2, none⟩ (.int .i64 S.c)).setCell ⟨v7.heap.size, 3, none⟩ (.int .i64 S.d)) = V at Y8 B8 ⊢; generalize v7.heap.size = bk at Y8 ⊢)
      | (have X0 : At v9 v6.heap.size #[.int .i64 0, .int .i64 0, .int .i64 0, .int .i64 0] 28 := X9; have Y8 := X0.put4 (.int .i64 S.a) (.int .i64 S.b) (.int .i64 S.c) (.int .i64 S.d); have B8 := G9.st4 (k := v6.heap.size) (Nat.le_refl _) (.int .i64 S.a) (.int .i64 S.b) (.int .i64 S.c) (.int .i64 S.d); change Exit.then _ _ _ _ ((((v9.setCell ⟨v6.heap.size, 0, none⟩ (.int .i64 S.a)).setCell ⟨v6.heap.size, 1, none⟩ (.int .i64 S.b)).setCell ⟨v6.heap.size, 2, none⟩ (.int .i64 S.c)).setCell ⟨v6.heap.size, 3, none⟩ (.int .i64 S.d)); generalize ((((v9.setCell ⟨v6.heap.size, 0, none⟩ (.int .i64 S.a)).setCell ⟨v6.heap.size, 1, none⟩ (.int .i64 S.b)).setCell ⟨v6.heap.size, 2, none⟩ (.int .i64 S.c)).setCell ⟨v6.heap.size, 3, none⟩ (.int .i64 S.d)) = V at Y8 B8 ⊢; generalize v6.heap.size = bk at Y8 ⊢)
      | (have Y8 := At.new v9 #[.int .i64 S.a, .int .i64 S.b, .int .i64 S.c, .int .i64 S.d] 28; have B8 := G9.alloc (.cells #[.int .i64 S.a, .int .i64 S.b, .int .i64 S.c, .int .i64 S.d] 28); generalize v9.alloc (.cells #[.int .i64 S.a, .int .i64 S.b, .int .i64 S.c, .int .i64 S.d] 28) = V at Y8 B8 ⊢; generalize v9.heap.size = bk at Y8 ⊢)
    replace N10 := N10.gr B8
    replace D10 := D10.gr B8
    replace I6 := I6.gr B8
    replace G10 := G10.gr B8
    clear B8 B10 hk7 hk8 hk9
    obtain ⟨t0, t1, t2, t3⟩ := cells4 Y8
    generalize areaI S.a S.b S.c S.d = ar at *
    go_wp2_with fail
    refine (cAr _).mono ?_
    rintro e u1 ⟨rfl, h1⟩
    replace N10 := N10.gr h1
    replace D10 := D10.gr h1
    replace I6 := I6.gr h1
    replace G10 := G10.gr h1
    clear h1 t0 t1 t2 t3 Y8
    obtain ⟨m0, m1, m2⟩ := cells3 N10
    go_wp2_with fail
    refine (cL pm pc b _ I6 D10.rowC).mono ?_
    rintro e u2 ⟨rfl, h2⟩
    replace G10 := G10.gr h2
    clear h2 m0 m1 m2
    go_wp2_with fail
    refine (plives1 _).mono ?_
    rintro e u3 ⟨rfl, h3⟩
    go_wp2
    go_ret
    exact ⟨rfl, G10.gr h3⟩

set_option maxRecDepth 100000 in
theorem paintNone_lifted (os : Os) (started : os.Started) (H : Type) (enc : TypeId × Value → H) :
    ReturnsInHanded {} Try.checked os 6 .any (Rows.paintNoneSpec.pre6 enc Try.prog Try.f6 Rows.paintNoneRow.domain false) (Rows.paintNoneSpec.post enc Try.prog Try.f6 false true false false) := by
  refine returnsInHanded_of_change (C := Try.checked) own started (by kernel_rfl) Try.func6
    (ChangeSpec.witness6 (enc := enc) (C := Try.checked) false ⟨#[], #[.int .i64 0, .int .i64 0, .slice none 0 0, .agg #[.bool false, .int .i64 0, .int .i64 0, .slice none 0 0, .int .i64 0, .int .i64 0, .int .i64 0, .int .i64 0, .int .i64 0, .int .i64 0, .int .i64 0, .int .i64 0, .int .i64 0, .int .i64 0, .slice none 0 0]], []⟩ 8 (by kernel_rfl) (by kernel_rfl) (by kernel_rfl) (by kernel_rfl)) ?_
  intro W base args ds gs before hval0 hW hcnd _
  have hval : ∀ (j : Nat) t v, Try.f6.params[j]? = some t → args[j]? = some v → Value.okWide Try.prog W .any base t v := hval0
  have hW' := hW
  obtain ⟨p, q, hA0, hV, rfl, hfz, hnd⟩ := hW
  have hA : DataW.TrodAll enc Try.prog W 0 (fun _ => true) true Try.f6.params.toList args.toList ds p := hA0
  rw [Try.params6] at hA hval
  obtain ⟨v0, vs0, d0, ds0, p0, q0, hargs, rfl, rfl, h0, r0⟩ := trodAll_cons hA
  obtain ⟨v1, vs1, d1, ds1, p1, q1, rfl, rfl, rfl, h1, r1⟩ := trodAll_cons r0
  obtain ⟨v2, vs2, d2, ds2, p2, q2, rfl, rfl, rfl, h2, r2⟩ := trodAll_cons r1
  obtain ⟨v3, vs3, d3, ds3, p3, q3, rfl, rfl, rfl, h3, r3⟩ := trodAll_cons r2
  obtain ⟨rfl, rfl, rfl⟩ := trodAll_nil r3
  obtain rfl : args = #[v0, v1, v2, v3] := by cases args; simp_all
  obtain ⟨rfl, rfl⟩ := trodVars_none hV
  obtain ⟨n0, rfl, rfl, rfl, un0⟩ := open_int Try.underlying3 (hval 0 3 v0 rfl rfl) h0
  have wn0 := I64.of_wf un0
  obtain ⟨n1, rfl, rfl, rfl, un1⟩ := open_int Try.underlying3 (hval 1 3 v1 rfl rfl) h1
  have wn1 := I64.of_wf un1
  obtain ⟨A2, c2, L2, rfl, hc2, hm2, hr2, hI2⟩ := open_colors (hval 2 22 v2 rfl rfl) h2
  unfold maxLen at hm2
  obtain ⟨sm3, W03, H03, A03, n03, c03, ax3, ay3, s3, al3, cp3, cw3, ch3, A3, c3, L3, rfl, hK3, hc3, hm3, hr3, hI3⟩ := open_case (hval 3 32 v3 rfl rfl) h3
  clear hA0 hval0
  simp only [List.append_nil, List.nil_append] at hW'
  have hlt := hW'.lt
  refine (pnone_walk n0 n1 A2 c2 L2 sm3 W03 H03 A03 n03 c03 ax3 ay3 s3 al3 cp3 cw3 ch3 A3 c3 L3 W wn0 wn1 hr2 hI2 hc2 (by unfold maxLen; exact hm2) hK3 hc3 hm3 hr3 hI3).mono fun e W' ⟨he, hb⟩ => ?_
  subst he
  exact ⟨_, rfl, close_below (pa := p2 ++ p3) (pv := []) hW' (fun _ _ _ => (trodAll_cons_mk (shut_bool Try.underlying4 _) trodAll_mk0)) (fun sp hsp => by
      have := (trodAll_cons_mk (shut_int Try.underlying3 un0) (trodAll_cons_mk (shut_int Try.underlying3 un1) (trodAll_cons_mk (WideElems.Trod_stays laidOut (by kernel_rfl) (of_decide_eq_true (by kernel_rfl)) h2 (fun x hx => Below.same hb (hlt x (by simp [hx]))) (sp' := sp) (fun x hx => hsp x (by simp [hx]))) (trodAll_cons_mk (WideElems.Trod_stays laidOut (by kernel_rfl) (of_decide_eq_true (by kernel_rfl)) h3 (fun x hx => Below.same hb (hlt x (by simp [hx]))) (sp' := sp) (fun x hx => hsp x (by simp [hx]))) trodAll_mk0))))
      simp only [List.append_nil, List.nil_append] at this
      exact this)
    (fun _ _ => rfl) (by simp) hb (ok_one (by kernel_rfl) rfl (okWide_bool_mk Try.underlying4 _))⟩

theorem paintNone_holds : Rows.PaintNoneSaid :=
  OpenClaim.holds_of_wide 6 Try.f6 rfl rfl rfl rfl rfl rfl rfl ⟨rfl, rfl, rfl, rfl, rfl⟩ rfl rfl rfl rfl rfl (by kernel_rfl) Try.func6 (by kernel_rfl)
    (of_decide_eq_true (by kernel_rfl)) (by unfold Func.isWrapper; first | (rw [if_pos (by decide +kernel)]; kernel_rfl) | (rw [if_neg (by decide +kernel)]; exact ⟨rfl, rfl⟩))
    (fun os started H enc _ => paintNone_lifted os started H enc)

#print axioms paintNone_holds

end Go.Proofs.Ytnjabfhfajbmaaa
