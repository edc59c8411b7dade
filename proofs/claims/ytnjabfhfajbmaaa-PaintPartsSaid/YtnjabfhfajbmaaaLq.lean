/-
  What is proved: the statement PaintParts: what is drawn by parts, that are regions without a point in common, is drawn as at once. No conditions.
-/
import Derived.Test.YtnjabfhfajbmaaaPp
import Derived.Test.YtnjabfhfajbmaaaZm
import Derived.Test.YtnjabfhfajbmaaaZl
import Derived.Test.YtnjabfhfajbmaaaZj
import Derived.Test.YtnjabfhfajbmaaaIu
import Derived.Test.YtnjabfhfajbmaaaZh
import Derived.Test.YtnjabfhfajbmaaaZa
import Derived.Deep.RegionHeld3
import Derived.StillTailTactics
namespace Go.Proofs.Ytnjabfhfajbmaaa
open Go.ChangeShapes Go.WideShapes Go.ChangeAt Go.RowKit Go.Joins Go.Sort Go.Deep

set_option maxRecDepth 100000 in
set_option maxHeartbeats 8000000 in
theorem pparts_walk (xw yh : Int) (A1 : Option Addr) (k1 : Nat) (L1 : List Int) (sm : Bool) (W0 H0 : Int) (A0 : Option Addr) (n0 c0 : Nat) (ax ay s al : Int) (cp : Rc) (cw ch : Int) (A : Option Addr) (cap : Nat) (L : List Int) (B1 B2 : Option Addr) (d1 d2 : Nat) (P Q : List Rc) (w : World) (hx : I64 xw) (hy : I64 yh) (hA1 : Ns .u32 w A1 L1) (h321 : ∀ c ∈ L1, C32 c) (hc1 : L1.length ≤ k1) (hm1 : k1 ≤ maxLen) (hK : KOk ax ay s al cp cw ch) (hlc : L.length ≤ cap) (hcm : cap ≤ maxLen) (hA : Ns .u32 w A L) (h32 : ∀ c ∈ L, C32 c)
    (hB1 : Rs w B1 P) (hB2 : Rs w B2 Q) (hi1 : I64r P) (hi2 : I64r Q) (hl1 : P.length ≤ 9223372036854775807) (hl2 : Q.length ≤ 9223372036854775807) :
    Calls Try.prog 4 #[.int .i64 xw, .int .i64 yh, .slice A1 L1.length k1, .agg #[.bool sm, .int .i64 W0, .int .i64 H0, .slice A0 n0 c0, .int .i64 ax, .int .i64 ay, .int .i64 s, .int .i64 al, .int .i64 cp.a, .int .i64 cp.b, .int .i64 cp.c, .int .i64 cp.d, .int .i64 cw, .int .i64 ch, .slice A L.length cap], .slice B1 P.length d1, .slice B2 Q.length d2] w (fun e w' => e = .returned (.bool true) ∧ Bl w w') := by
  obtain ⟨s1, s2, hs3⟩ := side_bd xw
  obtain ⟨t1, t2, ht3⟩ := side_bd yh
  clear hs3 ht3
  have G := (Gr.refl w).alloc (.cells #[.bool sm, .int .i64 W0, .int .i64 H0, .slice A0 n0 c0, .int .i64 ax, .int .i64 ay, .int .i64 s, .int .i64 al, .int .i64 cp.a, .int .i64 cp.b, .int .i64 cp.c, .int .i64 cp.d, .int .i64 cw, .int .i64 ch, .slice A L.length cap] 32)
  have c4 := fun w' (g : Bl w w') => mgood1 xw yh A1 k1 L1 w' (hA1.bl g) h321 hc1 hm1 hx hy
  have c5 := fun w' (g : Bl w w') => kgood1 sm W0 H0 A0 n0 c0 ax ay s al cp cw ch A cap L w' hK hlc hcm (hA.bl g) h32
  have cP := fun w' (g : Bl w w') => refgood1 B1 d1 P w' (hB1.bl g) hi1 hl1
  have cQ := fun w' (g : Bl w w') => refgood1 B2 d2 Q w' (hB2.bl g) hi2 hl2
  have hFl := goodL_len (side xw * side yh) L1
  have hFm := goodL_may (side xw * side yh) L1
  clear hA1 h321 hc1 hm1 hx hy hK hlc hcm hA h32 hB1 hB2 hi1 hi2 hl1 hl2
  generalize side xw = W at *
  generalize side yh = H at *
  generalize goodL (W * H) L1 = F at *
  obtain ⟨n, hn⟩ : ∃ n, n = W * H := ⟨_, rfl⟩
  have hFn : F.length = n := hFl.trans hn.symm
  have cb := fun (b : Nat) (w : World) (h : RowN .u32 w b 0 F) => pbuild1 (c := n) w h hFl s1 (by omega) t1 (by omega) hFm
  rw [hFn] at cb
  rw [← hn] at c4
  replace hFl := Lib.hid hFl
  replace hn := Lib.hid hn
  replace hFn := Lib.hid hFn
  generalize L1.length = la1 at *
  generalize L.length = la at *
  generalize P.length = lp at *
  generalize Q.length = lq at *
  have mixed : Try.prog.follows .mixedOrders = true := by kernel_rfl
  go_enter Try.func4, Try.ntmps4
  go_wp2_with fail
  refine (c4 _ G.bl).mono ?_
  rintro e v1 ⟨b, rfl, C1, hb1, g1⟩
  have K1 := ((At.new w #[.bool sm, .int .i64 W0, .int .i64 H0, .slice A0 n0 c0, .int .i64 ax, .int .i64 ay, .int .i64 s, .int .i64 al, .int .i64 cp.a, .int .i64 cp.b, .int .i64 cp.c, .int .i64 cp.d, .int .i64 cw, .int .i64 ch, .slice A la cap] 32).bl g1).alloc (.cells #[.int .i64 W, .int .i64 H, .slice (some ⟨b, 0, none⟩) n n] 24)
  have M1 := At.new v1 #[.int .i64 W, .int .i64 H, .slice (some ⟨b, 0, none⟩) n n] 24
  replace C1 := C1.alloc (.cells #[.int .i64 W, .int .i64 H, .slice (some ⟨b, 0, none⟩) n n] 24)
  have G1 := (G.bl.trans g1).alloc (.cells #[.int .i64 W, .int .i64 H, .slice (some ⟨b, 0, none⟩) n n] 24)
  have hM0 : w.heap.size ≤ v1.heap.size := (G.bl.trans g1).size
  have z0 : (v1.alloc (.cells #[.int .i64 W, .int .i64 H, .slice (some ⟨b, 0, none⟩) n n] 24)).cell? ⟨w.heap.size, 0, none⟩ = some (.bool sm) := K1.cell 0
  have z1 : (v1.alloc (.cells #[.int .i64 W, .int .i64 H, .slice (some ⟨b, 0, none⟩) n n] 24)).cell? ⟨w.heap.size, 1, none⟩ = some (.int .i64 W0) := K1.cell 1
  have z2 : (v1.alloc (.cells #[.int .i64 W, .int .i64 H, .slice (some ⟨b, 0, none⟩) n n] 24)).cell? ⟨w.heap.size, 2, none⟩ = some (.int .i64 H0) := K1.cell 2
  have z3 : (v1.alloc (.cells #[.int .i64 W, .int .i64 H, .slice (some ⟨b, 0, none⟩) n n] 24)).cell? ⟨w.heap.size, 3, none⟩ = some (.slice A0 n0 c0) := K1.cell 3
  have z4 : (v1.alloc (.cells #[.int .i64 W, .int .i64 H, .slice (some ⟨b, 0, none⟩) n n] 24)).cell? ⟨w.heap.size, 4, none⟩ = some (.int .i64 ax) := K1.cell 4
  have z5 : (v1.alloc (.cells #[.int .i64 W, .int .i64 H, .slice (some ⟨b, 0, none⟩) n n] 24)).cell? ⟨w.heap.size, 5, none⟩ = some (.int .i64 ay) := K1.cell 5
  have z6 : (v1.alloc (.cells #[.int .i64 W, .int .i64 H, .slice (some ⟨b, 0, none⟩) n n] 24)).cell? ⟨w.heap.size, 6, none⟩ = some (.int .i64 s) := K1.cell 6
  have z7 : (v1.alloc (.cells #[.int .i64 W, .int .i64 H, .slice (some ⟨b, 0, none⟩) n n] 24)).cell? ⟨w.heap.size, 7, none⟩ = some (.int .i64 al) := K1.cell 7
  have z8 : (v1.alloc (.cells #[.int .i64 W, .int .i64 H, .slice (some ⟨b, 0, none⟩) n n] 24)).cell? ⟨w.heap.size, 8, none⟩ = some (.int .i64 cp.a) := K1.cell 8
  have z9 : (v1.alloc (.cells #[.int .i64 W, .int .i64 H, .slice (some ⟨b, 0, none⟩) n n] 24)).cell? ⟨w.heap.size, 9, none⟩ = some (.int .i64 cp.b) := K1.cell 9
  have z10 : (v1.alloc (.cells #[.int .i64 W, .int .i64 H, .slice (some ⟨b, 0, none⟩) n n] 24)).cell? ⟨w.heap.size, 10, none⟩ = some (.int .i64 cp.c) := K1.cell 10
  have z11 : (v1.alloc (.cells #[.int .i64 W, .int .i64 H, .slice (some ⟨b, 0, none⟩) n n] 24)).cell? ⟨w.heap.size, 11, none⟩ = some (.int .i64 cp.d) := K1.cell 11
  have z12 : (v1.alloc (.cells #[.int .i64 W, .int .i64 H, .slice (some ⟨b, 0, none⟩) n n] 24)).cell? ⟨w.heap.size, 12, none⟩ = some (.int .i64 cw) := K1.cell 12
  have z13 : (v1.alloc (.cells #[.int .i64 W, .int .i64 H, .slice (some ⟨b, 0, none⟩) n n] 24)).cell? ⟨w.heap.size, 13, none⟩ = some (.int .i64 ch) := K1.cell 13
  have z14 : (v1.alloc (.cells #[.int .i64 W, .int .i64 H, .slice (some ⟨b, 0, none⟩) n n] 24)).cell? ⟨w.heap.size, 14, none⟩ = some (.slice A la cap) := K1.cell 14
  clear g1 c4 hb1
  go_wp2_with fail
  refine (c5 _ G1).mono ?_
  rintro e v2 ⟨W2, H2, n2, F2, a1, a2, s1', l1, rb, hG, rfl, C2, hb2, g2⟩
  have G2 := G1.trans g2
  replace M1 := M1.bl g2
  replace C1 := C1.bl g2
  clear g2 c5 hb2 G1 K1 z0 z1 z2 z3 z4 z5 z6 z7 z8 z9 z10 z11 z12 z13 z14
  go_wp2_with fail
  refine (layer1 (rc := n2) (n := n2) a1 a2 s1' l1 cp _ C2.rowC hG.len.symm (hG.len.trans hG.hn) hG.w1 (Nat.le_trans hG.w2 (by decide)) hG.h1 (Nat.le_trans hG.h2 (by decide)) hG.may).mono ?_
  rintro e v3 ⟨p2, c2, rfl, J3, hp2, hc2, g3⟩
  have B9 := At.new v3 #[.pointer (some ⟨p2, 0, none⟩), .int .i64 a1, .int .i64 a2, .int .i64 s1', .int .i64 l1, .int .i64 cp.a, .int .i64 cp.b, .int .i64 cp.c, .int .i64 cp.d] 47
  replace M1 := (M1.bl g3).alloc (.cells #[.pointer (some ⟨p2, 0, none⟩), .int .i64 a1, .int .i64 a2, .int .i64 s1', .int .i64 l1, .int .i64 cp.a, .int .i64 cp.b, .int .i64 cp.c, .int .i64 cp.d] 47)
  replace C1 := (C1.bl g3).alloc (.cells #[.pointer (some ⟨p2, 0, none⟩), .int .i64 a1, .int .i64 a2, .int .i64 s1', .int .i64 l1, .int .i64 cp.a, .int .i64 cp.b, .int .i64 cp.c, .int .i64 cp.d] 47)
  replace J3 := J3.gr ((Gr.refl v3).alloc (.cells #[.pointer (some ⟨p2, 0, none⟩), .int .i64 a1, .int .i64 a2, .int .i64 s1', .int .i64 l1, .int .i64 cp.a, .int .i64 cp.b, .int .i64 cp.c, .int .i64 cp.d] 47))
  have hG0 := (G2.trans g3).size
  have G3 := (G2.trans g3).alloc (.cells #[.pointer (some ⟨p2, 0, none⟩), .int .i64 a1, .int .i64 a2, .int .i64 s1', .int .i64 l1, .int .i64 cp.a, .int .i64 cp.b, .int .i64 cp.c, .int .i64 cp.d] 47)
  clear g3 C2 G2 hp2 hc2
  generalize v1.heap.size = bM at *
  obtain ⟨m0, m1, m2⟩ := cells3 M1
  go_wp2_with fail
  refine (cb _ _ C1.rowC).mono ?_
  rintro e v4 ⟨pm, pc, rfl, I4, hpm, hpc, g4⟩
  have hp2 := J3.hd.lt
  have hc2 := J3.cs.lt
  have hMl := M1.lt
  have hbl := C1.lt
  have hBl := B9.lt
  replace B9 := B9.bl g4
  replace M1 := M1.bl g4
  replace C1 := C1.bl g4
  replace J3 := J3.bl g4
  have G4 := G3.trans g4
  clear g4 G3 m0 m1 m2
  generalize v3.heap.size = b7 at *
  obtain ⟨m0, m1, m2⟩ := cells3 M1
  go_wp2_with fail
  refine (cb _ _ C1.rowC).mono ?_
  rintro e v5 ⟨po, co, rfl, O5, hpo, hco, g5⟩
  have hpl := I4.hd.lt
  have hcl := I4.cs.lt
  replace B9 := B9.bl g5
  replace I4 := I4.bl g5
  replace J3 := J3.bl g5
  have G5 := G4.trans g5
  clear g5 G4 cb m0 m1 m2 M1 C1
  go_wp2_with fail
  refine (cP _ G5).mono ?_
  rintro e v6 ⟨A6, k6, x, rfl, o6, q6, g6⟩
  have hpol := O5.hd.lt
  have hcol := O5.cs.lt
  replace B9 := B9.bl g6
  replace I4 := I4.bl g6
  replace O5 := O5.bl g6
  replace J3 := J3.bl g6
  have G6 := G5.trans g6
  have hv56 : v5.heap.size ≤ v6.heap.size := g6.size
  clear g6 cP G5
  go_wp2_with fail
  refine (cQ _ G6).mono ?_
  rintro e v7 ⟨A7, k7, y, rfl, o7, q7, g7⟩
  replace B9 := B9.bl g7
  replace I4 := I4.bl g7
  replace O5 := O5.bl g7
  replace J3 := J3.bl g7
  replace o6 := o6.bl g7
  have G7 := G6.trans g7
  clear g7 cQ G6
  go_wp2_with fail
  have hLy := hG.ly
  have hs1 := hG.b3
  have hGm := hG.may
  clear hG
  have SK : ∀ V, At V b7 #[.pointer (some ⟨p2, 0, none⟩), .int .i64 a1, .int .i64 a2, .int .i64 s1', .int .i64 l1, .int .i64 cp.a, .int .i64 cp.b, .int .i64 cp.c, .int .i64 cp.d] 47 → (V.cell? ⟨b7, 0, none⟩ = some (.pointer (some ⟨p2, 0, none⟩)) ∧ V.cell? ⟨b7, 1, none⟩ = some (.int .i64 a1) ∧ V.cell? ⟨b7, 2, none⟩ = some (.int .i64 a2) ∧ V.cell? ⟨b7, 3, none⟩ = some (.int .i64 s1') ∧ V.cell? ⟨b7, 4, none⟩ = some (.int .i64 l1) ∧ V.cell? ⟨b7, 5, none⟩ = some (.int .i64 cp.a) ∧ V.cell? ⟨b7, 6, none⟩ = some (.int .i64 cp.b) ∧ V.cell? ⟨b7, 7, none⟩ = some (.int .i64 cp.c) ∧ V.cell? ⟨b7, 8, none⟩ = some (.int .i64 cp.d)) := fun V h => ⟨h.cell 0, h.cell 1, h.cell 2, h.cell 3, h.cell 4, h.cell 5, h.cell 6, h.cell 7, h.cell 8⟩
  have Bd := B9.drew
  have lx := near_len5 q6.reg q6.inr
  have ly := near_len5 q7.reg q7.inr
  have cU := refunion1 A6 A7 k6 k7 x y near near v7.drew (o6.rs.bl (Bl.refl v7).drew) (o7.rs.bl (Bl.refl v7).drew) (Nat.le_trans lx (by decide)) (Nat.le_trans ly (by decide)) grid_near q6.inr.ne q7.inr.ne
  have hl6 := Lib.hid lx
  have hl7 := Lib.hid ly
  clear lx ly
  go_region_held3 (fun V => V.cell? ⟨b7, 0, none⟩ = some (.pointer (some ⟨p2, 0, none⟩)) ∧ V.cell? ⟨b7, 1, none⟩ = some (.int .i64 a1) ∧ V.cell? ⟨b7, 2, none⟩ = some (.int .i64 a2) ∧ V.cell? ⟨b7, 3, none⟩ = some (.int .i64 s1') ∧ V.cell? ⟨b7, 4, none⟩ = some (.int .i64 l1) ∧ V.cell? ⟨b7, 5, none⟩ = some (.int .i64 cp.a) ∧ V.cell? ⟨b7, 6, none⟩ = some (.int .i64 cp.b) ∧ V.cell? ⟨b7, 7, none⟩ = some (.int .i64 cp.c) ∧ V.cell? ⟨b7, 8, none⟩ = some (.int .i64 cp.d)) ((refine SK _ ?_; assumption))
    ((first
      | (go_at_call 24; (refine cU.mono ?_); rintro e v8 ⟨A8, k8, u, rfl, o8, q8, g8⟩; have B8 := Bd.bl g8)
      | (go_at_call 18; (refine (draw1 (L := F) (M := F2) a1 a2 s1' l1 cp A8 k8 u v8 (I4.bl ((Bl.refl v7).drew.trans g8)) (J3.bl ((Bl.refl v7).drew.trans g8)) (by omega) (by omega) (by omega) hFm hGm hLy o8.rs (Nat.le_trans (near_len5 q8.reg q8.inr) (by decide))).mono ?_); rintro e v9 ⟨R1, hQ1, rfl, b9, I9⟩; have B99 := B8.kept b9 (by simp; omega))))
  have X9 := (o6.bl ((Bl.refl v7).drew.trans g8)).by5 b9 (by omega)
  have Y9 := (o7.bl ((Bl.refl v7).drew.trans g8)).by5 b9 (by omega)
  have J9 := (J3.bl ((Bl.refl v7).drew.trans g8)).kept b9 (by simp; omega) (by simp; omega)
  have O9 := (O5.bl ((Bl.refl v7).drew.trans g8)).kept b9 (by simp; omega) (by simp; omega)
  have G9 := (G7.trans ((Bl.refl v7).drew.trans g8)).row b9 (by omega)
  have C9 := hQ1
  have hu := Lib.hid q8.has
  clear B8 Bd B9 I4 J3 O5 b9 g8 o8 cU o6 o7 G7 hQ1 q8
  go_wp2
  have Be := B99.drew
  have hS := fun x y => lyCut_in cp W2 H2 a1 a2 W H hs1.1 x y
  go_region_held3 (fun V => V.cell? ⟨b7, 0, none⟩ = some (.pointer (some ⟨p2, 0, none⟩)) ∧ V.cell? ⟨b7, 1, none⟩ = some (.int .i64 a1) ∧ V.cell? ⟨b7, 2, none⟩ = some (.int .i64 a2) ∧ V.cell? ⟨b7, 3, none⟩ = some (.int .i64 s1') ∧ V.cell? ⟨b7, 4, none⟩ = some (.int .i64 l1) ∧ V.cell? ⟨b7, 5, none⟩ = some (.int .i64 cp.a) ∧ V.cell? ⟨b7, 6, none⟩ = some (.int .i64 cp.b) ∧ V.cell? ⟨b7, 7, none⟩ = some (.int .i64 cp.c) ∧ V.cell? ⟨b7, 8, none⟩ = some (.int .i64 cp.d)) ((refine SK _ ?_; assumption))
    ((first
      | (go_at_call_of 18 (Value.slice A6 x.length k6); (refine (draw1 (L := F) (M := F2) a1 a2 s1' l1 cp A6 k6 x v9.drew (O9.bl (Bl.refl v9).drew) (J9.bl (Bl.refl v9).drew) (by omega) (by omega) (by omega) hFm hGm hLy (X9.rs.bl (Bl.refl v9).drew) (Nat.le_trans hl6.out (by decide))).mono ?_); rintro e v10 ⟨R2, hQ2, rfl, b10, I10⟩; have B10 := Be.kept b10 (by simp; omega); have X10 := (X9.bl (Bl.refl v9).drew).by5 b10 (by omega); have Y10 := (Y9.bl (Bl.refl v9).drew).by5 b10 (by omega))
      | (go_at_call 25; (refine (refless1 A7 A6 k7 k6 y x near near v10 Y10.rs X10.rs (Nat.le_trans hl7.out (by decide)) (Nat.le_trans hl6.out (by decide)) grid_near q7.inr.ne q6.inr.ne).mono ?_); rintro e v11 ⟨A11, k11, d, rfl, o11, q11, g11⟩; have B11 := B10.bl g11)
      | (go_at_call_of 18 (Value.slice A11 d.length k11); (refine (draw1 (L := drawP W (lyF W2 H2 F2 s1' a1 a2 l1) F (ptsL R2)) (M := F2) a1 a2 s1' l1 cp A11 k11 d v11 (I10.bl g11) (((J9.bl (Bl.refl v9).drew).kept b10 (by simp; omega) (by simp; omega)).bl g11) (by omega) (by omega) (by omega) (drawP_may W (fun p q => lyF_c32 _ _ _ _ _ _ _ p q) (fun p q h => lyF_may _ _ _ _ p hGm h) _ _ hFm) hGm hLy o11.rs (Nat.le_trans (near_len5 q11.reg q11.inr) (by decide))).mono ?_); rintro e v12 ⟨R3, hQ3, rfl, b12, I12⟩; have B12 := B11.kept b12 (by simp; omega); obtain ⟨hsame, hlen⟩ := parts_of hS (lyF W2 H2 F2 s1' a1 a2 l1) F hu.out q11.has C9 hQ2 hQ3; obtain ⟨hw1, hw2⟩ := add_len hlen (pts_in hS C9 s1 (by omega) (by omega)); have hlen' := Lib.hid hlen; clear hlen; have hsame' := Lib.hid hsame; clear hsame)))
  have I13 := (((I9.bl (Bl.refl v9).drew).kept b10 (by simp; omega) (by simp; omega)).bl g11).kept b12 (by simp; omega) (by simp; omega)
  have G13 := (((G9.trans (Bl.refl v9).drew).row b10 (by omega)).trans g11).row b12 (by omega)
  rw [← hsame'.out] at I12
  generalize drawP W (lyF W2 H2 F2 s1' a1 a2 l1) F (ptsL R1) = M at I13 I12
  have cS := isame1 v12 I13.x I12.x
  rw [decide_eq_true (rfl : M = M)] at cS
  clear I13 I12 I10 hsame' hlen' hw1 hw2 b10 b12 g11 hu hQ2 hQ3 C9 X9 Y9 X10 Y10 B10 B11 B12 q11 o11 J9 O9 I9 G9 Be B99 hFm hGm
  go_wp2_with fail
  refine cS.mono ?_
  rintro e u1 ⟨rfl, h1⟩
  go_wp2_with fail
  refine (plives1 _).mono ?_
  rintro e u2 ⟨rfl, h2⟩
  go_wp2
  go_ret
  exact ⟨rfl, (G13.gr h1).gr h2⟩

set_option maxRecDepth 100000 in
theorem paintParts_lifted (os : Os) (started : os.Started) (H : Type) (enc : TypeId × Value → H) :
    ReturnsInHanded {} Try.checked os 4 .any (Rows.paintPartsSpec.pre6 enc Try.prog Try.f4 Rows.paintPartsRow.domain false) (Rows.paintPartsSpec.post enc Try.prog Try.f4 false true false false) := by
  refine returnsInHanded_of_change (C := Try.checked) own started (by kernel_rfl) Try.func4
    (ChangeSpec.witness6 (enc := enc) (C := Try.checked) false ⟨#[], #[.int .i64 0, .int .i64 0, .slice none 0 0, .agg #[.bool false, .int .i64 0, .int .i64 0, .slice none 0 0, .int .i64 0, .int .i64 0, .int .i64 0, .int .i64 0, .int .i64 0, .int .i64 0, .int .i64 0, .int .i64 0, .int .i64 0, .int .i64 0, .slice none 0 0], .slice none 0 0, .slice none 0 0], []⟩ 8 (by kernel_rfl) (by kernel_rfl) (by kernel_rfl) (by kernel_rfl)) ?_
  intro W base args ds gs before hval0 hW hcnd _
  have hval : ∀ (j : Nat) t v, Try.f4.params[j]? = some t → args[j]? = some v → Value.okWide Try.prog W .any base t v := hval0
  have hW' := hW
  obtain ⟨p, q, hA0, hV, rfl, hfz, hnd⟩ := hW
  have hA : DataW.TrodAll enc Try.prog W 0 (fun _ => true) true Try.f4.params.toList args.toList ds p := hA0
  rw [Try.params4] at hA hval
  obtain ⟨v0, vs0, d0, ds0, p0, q0, hargs, rfl, rfl, h0, r0⟩ := trodAll_cons hA
  obtain ⟨v1, vs1, d1, ds1, p1, q1, rfl, rfl, rfl, h1, r1⟩ := trodAll_cons r0
  obtain ⟨v2, vs2, d2, ds2, p2, q2, rfl, rfl, rfl, h2, r2⟩ := trodAll_cons r1
  obtain ⟨v3, vs3, d3, ds3, p3, q3, rfl, rfl, rfl, h3, r3⟩ := trodAll_cons r2
  obtain ⟨v4, vs4, d4, ds4, p4, q4, rfl, rfl, rfl, h4, r4⟩ := trodAll_cons r3
  obtain ⟨v5, vs5, d5, ds5, p5, q5, rfl, rfl, rfl, h5, r5⟩ := trodAll_cons r4
  obtain ⟨rfl, rfl, rfl⟩ := trodAll_nil r5
  obtain rfl : args = #[v0, v1, v2, v3, v4, v5] := by cases args; simp_all
  obtain ⟨rfl, rfl⟩ := trodVars_none hV
  obtain ⟨n0, rfl, rfl, rfl, un0⟩ := open_int Try.underlying3 (hval 0 3 v0 rfl rfl) h0
  have wn0 := I64.of_wf un0
  obtain ⟨n1, rfl, rfl, rfl, un1⟩ := open_int Try.underlying3 (hval 1 3 v1 rfl rfl) h1
  have wn1 := I64.of_wf un1
  obtain ⟨A2, c2, L2, rfl, hc2, hm2, hr2, hI2⟩ := open_colors (hval 2 22 v2 rfl rfl) h2
  unfold maxLen at hm2
  obtain ⟨sm3, W03, H03, A03, n03, c03, ax3, ay3, s3, al3, cp3, cw3, ch3, A3, c3, L3, rfl, hK3, hc3, hm3, hr3, hI3⟩ := open_case (hval 3 32 v3 rfl rfl) h3
  obtain ⟨A4, c4, L4, rfl, hc4, hm4, hr4, hI4⟩ := open_rects (hval 4 33 v4 rfl rfl) h4
  unfold maxLen at hm4
  obtain ⟨A5, c5, L5, rfl, hc5, hm5, hr5, hI5⟩ := open_rects (hval 5 33 v5 rfl rfl) h5
  unfold maxLen at hm5
  clear hA0 hval0
  simp only [List.append_nil, List.nil_append] at hW'
  have hlt := hW'.lt
  refine (pparts_walk n0 n1 A2 c2 L2 sm3 W03 H03 A03 n03 c03 ax3 ay3 s3 al3 cp3 cw3 ch3 A3 c3 L3 A4 A5 c4 c5 L4 L5 W wn0 wn1 hr2 hI2 hc2 (by unfold maxLen; exact hm2) hK3 hc3 hm3 hr3 hI3 hr4 hr5 hI4 hI5 (by omega) (by omega)).mono fun e W' ⟨he, hb⟩ => ?_
  subst he
  exact ⟨_, rfl, close_below (pa := p2 ++ (p3 ++ (p4 ++ p5))) (pv := []) hW' (fun _ _ _ => (trodAll_cons_mk (shut_bool Try.underlying4 _) trodAll_mk0)) (fun sp hsp => by
      have := (trodAll_cons_mk (shut_int Try.underlying3 un0) (trodAll_cons_mk (shut_int Try.underlying3 un1) (trodAll_cons_mk (WideElems.Trod_stays laidOut (by kernel_rfl) (of_decide_eq_true (by kernel_rfl)) h2 (fun x hx => Below.same hb (hlt x (by simp [hx]))) (sp' := sp) (fun x hx => hsp x (by simp [hx]))) (trodAll_cons_mk (WideElems.Trod_stays laidOut (by kernel_rfl) (of_decide_eq_true (by kernel_rfl)) h3 (fun x hx => Below.same hb (hlt x (by simp [hx]))) (sp' := sp) (fun x hx => hsp x (by simp [hx]))) (trodAll_cons_mk (WideElems.Trod_stays laidOut (by kernel_rfl) (of_decide_eq_true (by kernel_rfl)) h4 (fun x hx => Below.same hb (hlt x (by simp [hx]))) (sp' := sp) (fun x hx => hsp x (by simp [hx]))) (trodAll_cons_mk (WideElems.Trod_stays laidOut (by kernel_rfl) (of_decide_eq_true (by kernel_rfl)) h5 (fun x hx => Below.same hb (hlt x (by simp [hx]))) (sp' := sp) (fun x hx => hsp x (by simp [hx]))) trodAll_mk0))))))
      simp only [List.append_nil, List.nil_append] at this
      exact this)
    (fun _ _ => rfl) (by simp) hb (ok_one (by kernel_rfl) rfl (okWide_bool_mk Try.underlying4 _))⟩

theorem paintParts_holds : Rows.PaintPartsSaid :=
  OpenClaim.holds_of_wide 4 Try.f4 rfl rfl rfl rfl rfl rfl rfl ⟨rfl, rfl, rfl, rfl, rfl⟩ rfl rfl rfl rfl rfl (by kernel_rfl) Try.func4 (by kernel_rfl)
    (of_decide_eq_true (by kernel_rfl)) (by unfold Func.isWrapper; first | (rw [if_pos (by decide +kernel)]; kernel_rfl) | (rw [if_neg (by decide +kernel)]; exact ⟨rfl, rfl⟩))
    (fun os started H enc _ => paintParts_lifted os started H enc)

#print axioms paintParts_holds

end Go.Proofs.Ytnjabfhfajbmaaa
