/-
  What is proved: the statement PaintDraws: what is drawn, and cleared, is the document's, point by point. No conditions.
-/
import Derived.Test.YtafceieenhogpaaPk
import Derived.Test.YtafceieenhogpaaZm
import Derived.Test.YtafceieenhogpaaZl
import Derived.Test.YtafceieenhogpaaZj
import Derived.Test.YtafceieenhogpaaZb
import Derived.Test.YtafceieenhogpaaZa
import Derived.Deep.DeepCutAuto
import Derived.Deep.CutBlock
import Derived.Deep.RegionHeld3
import Derived.StillTailTactics
namespace Go.Proofs.Ytafceieenhogpaa
open Go.ChangeShapes Go.WideShapes Go.ChangeAt Go.RowKit Go.Joins Go.Sort Go.Deep

set_option maxRecDepth 100000 in
set_option maxHeartbeats 8000000 in
theorem pdraws_walk (xw yh : Int) (A1 : Option Addr) (k1 : Nat) (L1 : List Int) (sm : Bool) (W0 H0 : Int) (A0 : Option Addr) (n0 c0 : Nat) (ax ay s al : Int) (cp : Rc) (cw ch : Int) (A : Option Addr) (cap : Nat) (L : List Int) (AW : Option Addr) (cW : Nat) (LW : List Rc) (q : Int) (w : World) (hx : I64 xw) (hy : I64 yh) (hA1 : Ns .u32 w A1 L1) (h321 : ∀ c ∈ L1, C32 c) (hc1 : L1.length ≤ k1) (hm1 : k1 ≤ maxLen) (hK : KOk ax ay s al cp cw ch) (hlc : L.length ≤ cap) (hcm : cap ≤ maxLen) (hA : Ns .u32 w A L) (h32 : ∀ c ∈ L, C32 c) (hW : Rs w AW LW) (hiW : I64r LW) (hlW : LW.length ≤ cW) (hmW : cW ≤ maxLen) (hq : C32 q) :
    Calls Try.prog 8 #[.int .i64 xw, .int .i64 yh, .slice A1 L1.length k1, .agg #[.bool sm, .int .i64 W0, .int .i64 H0, .slice A0 n0 c0, .int .i64 ax, .int .i64 ay, .int .i64 s, .int .i64 al, .int .i64 cp.a, .int .i64 cp.b, .int .i64 cp.c, .int .i64 cp.d, .int .i64 cw, .int .i64 ch, .slice A L.length cap], .slice AW LW.length cW, .int .u32 q] w (fun e w' => e = .returned (.bool true) ∧ Bl w w') := by
  obtain ⟨s1, s2, hs3⟩ := side_bd xw
  obtain ⟨t1, t2, ht3⟩ := side_bd yh
  clear hs3 ht3
  have G := (Gr.refl w).alloc (.cells #[.bool sm, .int .i64 W0, .int .i64 H0, .slice A0 n0 c0, .int .i64 ax, .int .i64 ay, .int .i64 s, .int .i64 al, .int .i64 cp.a, .int .i64 cp.b, .int .i64 cp.c, .int .i64 cp.d, .int .i64 cw, .int .i64 ch, .slice A L.length cap] 74)
  have c4 := fun w' (g : Bl w w') => mgood1 xw yh A1 k1 L1 w' (hA1.bl g) h321 hc1 hm1 hx hy
  have c5 := fun w' (g : Bl w w') => kgood1 sm W0 H0 A0 n0 c0 ax ay s al cp cw ch A cap L w' hK hlc hcm (hA.bl g) h32
  have hFl := goodL_len (side xw * side yh) L1
  have hFm := goodL_may (side xw * side yh) L1
  clear hA1 h321 hc1 hm1 hx hy hK hlc hcm hA h32
  generalize side xw = W at *
  generalize side yh = H at *
  generalize goodL (W * H) L1 = F at *
  obtain ⟨n, hn⟩ : ∃ n, n = W * H := ⟨_, rfl⟩
  have hFn : F.length = n := hFl.trans hn.symm
  have cb := fun (b : Nat) (w : World) (h : RowN .u32 w b 0 F) => pbuild1 (c := n) w h hFl s1 (by omega) t1 (by omega) hFm
  have cL := fun (pm pc b : Nat) (w : World) (h : Img w pm pc W H F) (h2 : RowN .u32 w b 0 F) => plike1 (c := n) w h.x h2
  rw [hFn] at cb cL
  rw [← hn] at c4
  replace hFl := Lib.hid hFl
  replace hn := Lib.hid hn
  replace hFn := Lib.hid hFn
  generalize L1.length = la1 at *
  generalize L.length = la at *
  have mixed : Try.prog.follows .mixedOrders = true := by kernel_rfl
  obtain ⟨LX, hX, hiX, hX5, hXc⟩ : ∃ LX, Rs w AW LX ∧ I64r LX ∧ LX.length ≤ 5 ∧ ((5 < LW.length ∧ 5 = LX.length) ∨ (LW.length ≤ 5 ∧ LW.length = LX.length)) := by
    rcases Nat.lt_or_ge 5 LW.length with h5 | h5
    · refine ⟨LW.take 5, ?_, fun r hr => hiW r (List.mem_of_mem_take hr), by simp; omega, .inl ⟨h5, by simp; omega⟩⟩
      obtain ⟨b', off', rfl, hrow⟩ := hW.opened (by omega)
      exact .inr ⟨b', off', rfl, (hrow.half 5).1⟩
    · exact ⟨LW, hW, hiW, h5, .inr ⟨h5, rfl⟩⟩
  clear hW hiW
  have cSm := fun (m : Nat) (hm : m = LX.length) (w' : World) (g : Bl w w') => refSmall1 AW cW LX 5 w' (hX.bl g) hiX (by omega) (by decide)
  generalize LW.length = lw at *
  unfold maxLen at hmW
  go_enter Try.func8, Try.ntmps8
  go_wp2_with fail
  refine (c4 _ G.bl).mono ?_
  rintro e v1 ⟨b, rfl, C1, hb1, g1⟩
  have K1 := ((At.new w #[.bool sm, .int .i64 W0, .int .i64 H0, .slice A0 n0 c0, .int .i64 ax, .int .i64 ay, .int .i64 s, .int .i64 al, .int .i64 cp.a, .int .i64 cp.b, .int .i64 cp.c, .int .i64 cp.d, .int .i64 cw, .int .i64 ch, .slice A la cap] 74).bl g1).alloc (.cells #[.int .i64 W, .int .i64 H, .slice (some ⟨b, 0, none⟩) n n] 34)
  have M1 := At.new v1 #[.int .i64 W, .int .i64 H, .slice (some ⟨b, 0, none⟩) n n] 34
  replace C1 := C1.alloc (.cells #[.int .i64 W, .int .i64 H, .slice (some ⟨b, 0, none⟩) n n] 34)
  have G1 := (G.bl.trans g1).alloc (.cells #[.int .i64 W, .int .i64 H, .slice (some ⟨b, 0, none⟩) n n] 34)
  have hM0 : w.heap.size ≤ v1.heap.size := (G.bl.trans g1).size
  have z0 : (v1.alloc (.cells #[.int .i64 W, .int .i64 H, .slice (some ⟨b, 0, none⟩) n n] 34)).cell? ⟨w.heap.size, 0, none⟩ = some (.bool sm) := K1.cell 0
  have z1 : (v1.alloc (.cells #[.int .i64 W, .int .i64 H, .slice (some ⟨b, 0, none⟩) n n] 34)).cell? ⟨w.heap.size, 1, none⟩ = some (.int .i64 W0) := K1.cell 1
  have z2 : (v1.alloc (.cells #[.int .i64 W, .int .i64 H, .slice (some ⟨b, 0, none⟩) n n] 34)).cell? ⟨w.heap.size, 2, none⟩ = some (.int .i64 H0) := K1.cell 2
  have z3 : (v1.alloc (.cells #[.int .i64 W, .int .i64 H, .slice (some ⟨b, 0, none⟩) n n] 34)).cell? ⟨w.heap.size, 3, none⟩ = some (.slice A0 n0 c0) := K1.cell 3
  have z4 : (v1.alloc (.cells #[.int .i64 W, .int .i64 H, .slice (some ⟨b, 0, none⟩) n n] 34)).cell? ⟨w.heap.size, 4, none⟩ = some (.int .i64 ax) := K1.cell 4
  have z5 : (v1.alloc (.cells #[.int .i64 W, .int .i64 H, .slice (some ⟨b, 0, none⟩) n n] 34)).cell? ⟨w.heap.size, 5, none⟩ = some (.int .i64 ay) := K1.cell 5
  have z6 : (v1.alloc (.cells #[.int .i64 W, .int .i64 H, .slice (some ⟨b, 0, none⟩) n n] 34)).cell? ⟨w.heap.size, 6, none⟩ = some (.int .i64 s) := K1.cell 6
  have z7 : (v1.alloc (.cells #[.int .i64 W, .int .i64 H, .slice (some ⟨b, 0, none⟩) n n] 34)).cell? ⟨w.heap.size, 7, none⟩ = some (.int .i64 al) := K1.cell 7
  have z8 : (v1.alloc (.cells #[.int .i64 W, .int .i64 H, .slice (some ⟨b, 0, none⟩) n n] 34)).cell? ⟨w.heap.size, 8, none⟩ = some (.int .i64 cp.a) := K1.cell 8
  have z9 : (v1.alloc (.cells #[.int .i64 W, .int .i64 H, .slice (some ⟨b, 0, none⟩) n n] 34)).cell? ⟨w.heap.size, 9, none⟩ = some (.int .i64 cp.b) := K1.cell 9
  have z10 : (v1.alloc (.cells #[.int .i64 W, .int .i64 H, .slice (some ⟨b, 0, none⟩) n n] 34)).cell? ⟨w.heap.size, 10, none⟩ = some (.int .i64 cp.c) := K1.cell 10
  have z11 : (v1.alloc (.cells #[.int .i64 W, .int .i64 H, .slice (some ⟨b, 0, none⟩) n n] 34)).cell? ⟨w.heap.size, 11, none⟩ = some (.int .i64 cp.d) := K1.cell 11
  have z12 : (v1.alloc (.cells #[.int .i64 W, .int .i64 H, .slice (some ⟨b, 0, none⟩) n n] 34)).cell? ⟨w.heap.size, 12, none⟩ = some (.int .i64 cw) := K1.cell 12
  have z13 : (v1.alloc (.cells #[.int .i64 W, .int .i64 H, .slice (some ⟨b, 0, none⟩) n n] 34)).cell? ⟨w.heap.size, 13, none⟩ = some (.int .i64 ch) := K1.cell 13
  have z14 : (v1.alloc (.cells #[.int .i64 W, .int .i64 H, .slice (some ⟨b, 0, none⟩) n n] 34)).cell? ⟨w.heap.size, 14, none⟩ = some (.slice A la cap) := K1.cell 14
  clear g1 c4 hb1
  go_wp2_with fail
  refine (c5 _ G1).mono ?_
  rintro e v2 ⟨W2, H2, n2, F2, a1, a2, s1', l1, rb, hG, rfl, C2, hb2, g2⟩
  have G9 := (G1.trans g2).alloc (.cells #[.bool true, .int .i64 W2, .int .i64 H2, .slice (some ⟨rb, 0, none⟩) n2 n2, .int .i64 a1, .int .i64 a2, .int .i64 s1', .int .i64 l1, .int .i64 cp.a, .int .i64 cp.b, .int .i64 cp.c, .int .i64 cp.d] 72)
  have hG0 := (G1.trans g2).size
  have B9 := At.new v2 #[.bool true, .int .i64 W2, .int .i64 H2, .slice (some ⟨rb, 0, none⟩) n2 n2, .int .i64 a1, .int .i64 a2, .int .i64 s1', .int .i64 l1, .int .i64 cp.a, .int .i64 cp.b, .int .i64 cp.c, .int .i64 cp.d] 72
  have N1 := (M1.bl g2).alloc (.cells #[.bool true, .int .i64 W2, .int .i64 H2, .slice (some ⟨rb, 0, none⟩) n2 n2, .int .i64 a1, .int .i64 a2, .int .i64 s1', .int .i64 l1, .int .i64 cp.a, .int .i64 cp.b, .int .i64 cp.c, .int .i64 cp.d] 72)
  have D1 := (C1.bl g2).alloc (.cells #[.bool true, .int .i64 W2, .int .i64 H2, .slice (some ⟨rb, 0, none⟩) n2 n2, .int .i64 a1, .int .i64 a2, .int .i64 s1', .int .i64 l1, .int .i64 cp.a, .int .i64 cp.b, .int .i64 cp.c, .int .i64 cp.d] 72)
  have D2 := C2.alloc (.cells #[.bool true, .int .i64 W2, .int .i64 H2, .slice (some ⟨rb, 0, none⟩) n2 n2, .int .i64 a1, .int .i64 a2, .int .i64 s1', .int .i64 l1, .int .i64 cp.a, .int .i64 cp.b, .int .i64 cp.c, .int .i64 cp.d] 72)
  obtain ⟨m0, m1, m2⟩ := cells3 N1
  clear g2 c5 hb2 M1 K1 C1 C2 z0 z1 z2 z3 z4 z5 z6 z7 z8 z9 z10 z11 z12 z13 z14
  generalize v1.heap.size = bM at *
  go_upto_if 38 with fail
  go_cut [4] (fun o wx => ∃ mw : Nat, o = .slice AW mw cW ∧ Hid (mw = LX.length) ∧ mw ≤ 5 ∧ wx = v2.alloc (.cells #[.bool true, .int .i64 W2, .int .i64 H2, .slice (some ⟨rb, 0, none⟩) n2 n2, .int .i64 a1, .int .i64 a2, .int .i64 s1', .int .i64 l1, .int .i64 cp.a, .int .i64 cp.b, .int .i64 cp.c, .int .i64 cp.d] 72))
  case first =>
    rcases hXc with ⟨h5, hlx⟩ | ⟨h5, hlx⟩
    · have h5i : (5 : Int) < (lw : Int) := by omega
      replace hlx := Lib.hid hlx
      replace hX5 := Lib.hid hX5
      go_wp2
      go_meet
      exact ⟨5, rfl, hlx, by omega, rfl⟩
    · have h5i : ¬ (5 : Int) < (lw : Int) := by omega
      replace hlx := Lib.hid hlx
      replace hX5 := Lib.hid hX5
      go_wp2
      go_meet
      exact ⟨lw, rfl, hlx, h5, rfl⟩
  case rest =>
    obtain ⟨mw, rfl, hmw, hmw5, rfl⟩ := hcut
    clear hXc
    replace hX5 := Lib.hid hX5
    go_wp2_with fail
    have cS5 := cSm _ hmw.out _ G9
    rw [← hmw.out] at cS5
    refine cS5.mono ?_
    rintro e v3 ⟨AS, kS, RS, rfl, oS, hRS, g3⟩
    have hRl : RS.length ≤ 5 := by rw [hRS, List.length_map, List.length_take]; omega
    clear hRS cS5
    obtain ⟨nS, hnS⟩ : ∃ n, n = RS.length := ⟨_, rfl⟩
    rw [← hnS]
    have hnS5 : nS ≤ 5 := by omega
    clear hRl
    replace hnS := Lib.hid hnS
    have q4 := (Bl.refl v3).alloc (.cells #[.slice AW mw cW, .slice AS nS kS] 22)
    have A4 := At.new v3 #[.slice AW mw cW, .slice AS nS kS] 22
    have M4 := (N1.bl g3).bl q4
    have L4 := (B9.bl g3).bl q4
    have C4 := (D1.bl g3).bl q4
    have E4 := (D2.bl g3).bl q4
    have G4 := (G9.trans g3).trans q4
    have hS4 := oS.rs.bl q4
    have hX4 := hX.bl G4
    clear q4 oS N1 B9 D1 D2 m0 m1 m2 hX g3 G9
    obtain ⟨ba, hba⟩ : ∃ k, k = v3.heap.size := ⟨_, rfl⟩
    obtain ⟨bL, hbL⟩ : ∃ k, k = v2.heap.size := ⟨_, rfl⟩
    rw [← hba] at A4
    rw [← hbL] at L4
    go_wp2
    rw [← hba, ← hbL]
    replace hba := Lib.hid hba
    replace hbL := Lib.hid hbL
    obtain ⟨V0, hV0⟩ : ∃ V, V = v3.alloc (.cells #[.slice AW mw cW, .slice AS nS kS] 22) := ⟨_, rfl⟩
    rw [← hV0] at A4 M4 L4 C4 E4 G4 hS4 hX4 ⊢
    clear hV0
    have cY := fun V (g : Bl V0 V) => layer1 (rc := n2) (n := n2) a1 a2 s1' l1 cp V (E4.bl g).rowC hG.len.symm (hG.len.trans hG.hn) hG.w1 (Nat.le_trans hG.w2 (by decide)) hG.h1 (Nat.le_trans hG.h2 (by decide)) hG.may
    have hfa1 : Far a1 := far_16 hG.b1
    have hfa2 : Far a2 := far_16 hG.b2
    have hnle : n ≤ 256 := by rw [hn.out]; exact Nat.mul_le_mul s2 t2
    have hn1 : 1 ≤ n := by rw [hn.out]; exact Nat.mul_pos s1 t1
    have hZ0 : LX.length ≤ 5 := by rw [← hmw.out]; omega
    have hXD0 : (drL cp W2 H2 F2 s1' a1 a2 l1 W F LX).length = n := (drL_len _ _ _ _ _ _ _ _ _ _ _).trans hFn.out
    have hXE0 : (clL q W F LX).length = n := (clL_len _ _ _ _).trans hFn.out
    have hND0 : drN cp W2 H2 s1' a1 a2 W F LX ≤ n := by have := drN_le cp W2 H2 s1' a1 a2 W F LX; rw [hFn.out] at this; exact this
    have hNE0 : clN q W F LX ≤ n := by have := clN_le q W F LX; rw [hFn.out] at this; exact this
    have cD0 := fun V (g : Bl V0 V) => rdrawU (c := n) (rc := n2) V (C4.bl g).rowC hFl.out s1 (by omega) t1 (by omega) a1 a2 s1' l1 cp true F2 AW cW LX (hX4.bl g) (by omega) (fun c hc => (hFm c hc).1) hG.len.symm (E4.bl g).rowC (hG.len.trans hG.hn) (fun c hc => (hG.may c hc).1) (Nat.le_trans hG.w2 (by decide)) (Nat.le_trans hG.h2 (by decide)) hG.b3.1 (by have := hG.b3.2; omega) hfa1 hfa2
    have cE0 := fun V (g : Bl V0 V) => rclearU (c := n) V (C4.bl g).rowC hFl.out s1 (by omega) t1 (by omega) AW cW LX (hX4.bl g) (by omega) q hq
    have cP0 := fun {pm pc p2 c2 : Nat} V (I : Img V pm pc W H F) (J : Img V p2 c2 W2 H2 F2) (n1 : p2 ≠ pm) (n2 : p2 ≠ pc) (n3 : c2 ≠ pc) (g : Bl V0 V) => pdrawU a1 a2 s1' l1 cp AW cW LX V I J n1 n2 n3 hFm hG.may hG.ly hG.b3.1 (hX4.bl g) (by omega)
    have cC0 := fun (pm pc : Nat) V (I : Img V pm pc W H F) (g : Bl V0 V) => pclearU q AW cW LX V hq I (hX4.bl g) (by omega)
    have cLD0 := fun (pm pc b c : Nat) V (I : Img V pm pc W H (drL cp W2 H2 F2 s1' a1 a2 l1 W F LX)) (R : RowN .u32 V b 0 (drL cp W2 H2 F2 s1' a1 a2 l1 W F LX)) => plike1 (c := c) V I.x R
    have cLE0 := fun (pm pc b c : Nat) V (I : Img V pm pc W H (clL q W F LX)) (R : RowN .u32 V b 0 (clL q W F LX)) => plike1 (c := c) V I.x R
    rw [hFn.out, ← hmw.out] at cD0 cE0
    rw [← hmw.out] at cP0 cC0
    rw [hXD0] at cLD0
    rw [hXE0] at cLE0
    generalize drL cp W2 H2 F2 s1' a1 a2 l1 W F LX = XD0 at *
    generalize clL q W F LX = XE0 at *
    generalize drN cp W2 H2 s1' a1 a2 W F LX = ND0 at *
    generalize clN q W F LX = NE0 at *
    replace hXD0 := Lib.hid hXD0
    replace hXE0 := Lib.hid hXE0
    have hZ1 : RS.length ≤ 5 := by rw [← hnS.out]; omega
    have hXD1 : (drL cp W2 H2 F2 s1' a1 a2 l1 W F RS).length = n := (drL_len _ _ _ _ _ _ _ _ _ _ _).trans hFn.out
    have hXE1 : (clL q W F RS).length = n := (clL_len _ _ _ _).trans hFn.out
    have hND1 : drN cp W2 H2 s1' a1 a2 W F RS ≤ n := by have := drN_le cp W2 H2 s1' a1 a2 W F RS; rw [hFn.out] at this; exact this
    have hNE1 : clN q W F RS ≤ n := by have := clN_le q W F RS; rw [hFn.out] at this; exact this
    have cD1 := fun V (g : Bl V0 V) => rdrawU (c := n) (rc := n2) V (C4.bl g).rowC hFl.out s1 (by omega) t1 (by omega) a1 a2 s1' l1 cp true F2 AS kS RS (hS4.bl g) (by omega) (fun c hc => (hFm c hc).1) hG.len.symm (E4.bl g).rowC (hG.len.trans hG.hn) (fun c hc => (hG.may c hc).1) (Nat.le_trans hG.w2 (by decide)) (Nat.le_trans hG.h2 (by decide)) hG.b3.1 (by have := hG.b3.2; omega) hfa1 hfa2
    have cE1 := fun V (g : Bl V0 V) => rclearU (c := n) V (C4.bl g).rowC hFl.out s1 (by omega) t1 (by omega) AS kS RS (hS4.bl g) (by omega) q hq
    have cP1 := fun {pm pc p2 c2 : Nat} V (I : Img V pm pc W H F) (J : Img V p2 c2 W2 H2 F2) (n1 : p2 ≠ pm) (n2 : p2 ≠ pc) (n3 : c2 ≠ pc) (g : Bl V0 V) => pdrawU a1 a2 s1' l1 cp AS kS RS V I J n1 n2 n3 hFm hG.may hG.ly hG.b3.1 (hS4.bl g) (by omega)
    have cC1 := fun (pm pc : Nat) V (I : Img V pm pc W H F) (g : Bl V0 V) => pclearU q AS kS RS V hq I (hS4.bl g) (by omega)
    have cLD1 := fun (pm pc b c : Nat) V (I : Img V pm pc W H (drL cp W2 H2 F2 s1' a1 a2 l1 W F RS)) (R : RowN .u32 V b 0 (drL cp W2 H2 F2 s1' a1 a2 l1 W F RS)) => plike1 (c := c) V I.x R
    have cLE1 := fun (pm pc b c : Nat) V (I : Img V pm pc W H (clL q W F RS)) (R : RowN .u32 V b 0 (clL q W F RS)) => plike1 (c := c) V I.x R
    rw [hFn.out, ← hnS.out] at cD1 cE1
    rw [← hnS.out] at cP1 cC1
    rw [hXD1] at cLD1
    rw [hXE1] at cLE1
    generalize drL cp W2 H2 F2 s1' a1 a2 l1 W F RS = XD1 at *
    generalize clL q W F RS = XE1 at *
    generalize drN cp W2 H2 s1' a1 a2 W F RS = ND1 at *
    generalize clN q W F RS = NE1 at *
    replace hXD1 := Lib.hid hXD1
    replace hXE1 := Lib.hid hXE1

    clear hG hfa1 hfa2 E4 hX4 hS4
    have GV := Bl.refl V0
    refine wp_loop_rounds 3 ?_
    rw [rounds_succ]

    -- round 0
    obtain ⟨m0, m1, m2⟩ := cells3 (M4.bl GV)
    go_wp2_with fail
    refine (cb _ _ (C4.bl GV).rowC).mono ?_
    rintro e w1 ⟨pm, pc, rfl, I1, hpm, hpc, h1⟩
    have GV1 := GV.trans h1
    clear m0 m1 m2
    obtain ⟨m0, m1, m2⟩ := cells3 (M4.bl GV1)
    go_wp2_with fail
    refine (cb _ _ (C4.bl GV1).rowC).mono ?_
    rintro e w2 ⟨po, co, rfl, O2, hpo, hco, h2⟩
    have I2 := I1.bl h2
    have x1 := I1.hd.lt
    have x2 := I1.cs.lt
    have x3 := O2.hd.lt
    have x4 := O2.cs.lt
    have x5 := h2.size
    have x6 := GV.size
    have GV2 := GV1.trans h2
    clear m0 m1 m2 I1 h1 h2
    have cDj := fun V (g : Bl w2 V) => cD0 V (GV2.trans g)
    have cEj := fun V (g : Bl w2 V) => cE0 V (GV2.trans g)

    have SKa : ∀ V, Bl w2 V → (V.cell? ⟨bM, 0, none⟩ = some (.int .i64 W) ∧ V.cell? ⟨bM, 1, none⟩ = some (.int .i64 H) ∧ V.cell? ⟨bM, 2, none⟩ = some (.slice (some ⟨b, 0, none⟩) n n) ∧ V.cell? ⟨bL, 0, none⟩ = some (.bool true) ∧ V.cell? ⟨bL, 1, none⟩ = some (.int .i64 W2) ∧ V.cell? ⟨bL, 2, none⟩ = some (.int .i64 H2) ∧ V.cell? ⟨bL, 3, none⟩ = some (.slice (some ⟨rb, 0, none⟩) n2 n2) ∧ V.cell? ⟨bL, 4, none⟩ = some (.int .i64 a1) ∧ V.cell? ⟨bL, 5, none⟩ = some (.int .i64 a2) ∧ V.cell? ⟨bL, 6, none⟩ = some (.int .i64 s1') ∧ V.cell? ⟨bL, 7, none⟩ = some (.int .i64 l1) ∧ V.cell? ⟨bL, 8, none⟩ = some (.int .i64 cp.a) ∧ V.cell? ⟨bL, 9, none⟩ = some (.int .i64 cp.b) ∧ V.cell? ⟨bL, 10, none⟩ = some (.int .i64 cp.c) ∧ V.cell? ⟨bL, 11, none⟩ = some (.int .i64 cp.d) ∧ V.cell? ⟨ba, 0, none⟩ = some (.slice AW mw cW) ∧ Bl w2 V) := fun V g => ⟨((M4.bl GV2).bl g).cell 0, ((M4.bl GV2).bl g).cell 1, ((M4.bl GV2).bl g).cell 2, ((L4.bl GV2).bl g).cell 0, ((L4.bl GV2).bl g).cell 1, ((L4.bl GV2).bl g).cell 2, ((L4.bl GV2).bl g).cell 3, ((L4.bl GV2).bl g).cell 4, ((L4.bl GV2).bl g).cell 5, ((L4.bl GV2).bl g).cell 6, ((L4.bl GV2).bl g).cell 7, ((L4.bl GV2).bl g).cell 8, ((L4.bl GV2).bl g).cell 9, ((L4.bl GV2).bl g).cell 10, ((L4.bl GV2).bl g).cell 11, ((A4.bl GV2).bl g).cell 0, g⟩
    go_upto_region 13 with fail
    go_cut [19, 20] (fun s t wx => ∃ bx b5 c5 : Nat, s = .pointer (some ⟨bx, 0, none⟩) ∧ t = .int .i64 (ND0 : Nat) ∧ At wx bx #[.int .i64 W, .int .i64 H, .slice (some ⟨b5, 0, none⟩) n c5] 34 ∧ RowN .u32 wx b5 0 XD0 ∧ Bl w2 wx ∧ w2.heap.size ≤ bx ∧ w2.heap.size ≤ b5)
    case first =>
      go_region_held3 (fun V => V.cell? ⟨bM, 0, none⟩ = some (.int .i64 W) ∧ V.cell? ⟨bM, 1, none⟩ = some (.int .i64 H) ∧ V.cell? ⟨bM, 2, none⟩ = some (.slice (some ⟨b, 0, none⟩) n n) ∧ V.cell? ⟨bL, 0, none⟩ = some (.bool true) ∧ V.cell? ⟨bL, 1, none⟩ = some (.int .i64 W2) ∧ V.cell? ⟨bL, 2, none⟩ = some (.int .i64 H2) ∧ V.cell? ⟨bL, 3, none⟩ = some (.slice (some ⟨rb, 0, none⟩) n2 n2) ∧ V.cell? ⟨bL, 4, none⟩ = some (.int .i64 a1) ∧ V.cell? ⟨bL, 5, none⟩ = some (.int .i64 a2) ∧ V.cell? ⟨bL, 6, none⟩ = some (.int .i64 s1') ∧ V.cell? ⟨bL, 7, none⟩ = some (.int .i64 l1) ∧ V.cell? ⟨bL, 8, none⟩ = some (.int .i64 cp.a) ∧ V.cell? ⟨bL, 9, none⟩ = some (.int .i64 cp.b) ∧ V.cell? ⟨bL, 10, none⟩ = some (.int .i64 cp.c) ∧ V.cell? ⟨bL, 11, none⟩ = some (.int .i64 cp.d) ∧ V.cell? ⟨ba, 0, none⟩ = some (.slice AW mw cW) ∧ Bl w2 V) ((refine SKa _ ?_; repeat (first | with_reducible assumption | with_reducible exact Bl.refl _ | with_reducible exact (And.right (And.right (And.right (And.right (And.right (And.right (And.right (And.right (And.right (And.right (And.right (And.right (And.right (And.right (And.right (And.right (by assumption))))))))))))))))) | with_reducible exact Bl.trans (And.right (And.right (And.right (And.right (And.right (And.right (And.right (And.right (And.right (And.right (And.right (And.right (And.right (And.right (And.right (And.right (by assumption))))))))))))))))) (by assumption) | with_reducible exact Bl.gr (And.right (And.right (And.right (And.right (And.right (And.right (And.right (And.right (And.right (And.right (And.right (And.right (And.right (And.right (And.right (And.right (by assumption))))))))))))))))) (by assumption) | with_reducible apply Bl.drew | with_reducible apply Bl.alloc | (with_reducible refine Bl.put3 ?_ ?_ _ _ _; rotate_left; first | with_reducible exact Nat.le_refl _ | with_reducible exact Bl.size (by assumption) | omega))))
        ((go_at_call 38; (refine (cDj _ (And.right (And.right (And.right (And.right (And.right (And.right (And.right (And.right (And.right (And.right (And.right (And.right (And.right (And.right (And.right (And.right (by assumption)))))))))))))))))).mono ?_); rintro e v7 ⟨b5, c5, rfl, R7, o7, g7⟩; have G7 : Bl w2 v7 := Bl.trans (And.right (And.right (And.right (And.right (And.right (And.right (And.right (And.right (And.right (And.right (And.right (And.right (And.right (And.right (And.right (And.right (by assumption))))))))))))))))) g7; (try have X7 : At v7 w2.heap.size #[.int .i64 0, .int .i64 0, .slice none 0 0] 34 := (At.new w2.drew _ _).bl g7); (try have k70 := (cells3 X7).1); (try have k71 := (cells3 X7).2.1); (try have k72 := (cells3 X7).2.2); (try have f70 := X7.free 0); (try have f71 := X7.free 1); (try have f72 := X7.free 2)))
      all_goals
        first
          | (have o8 : w2.heap.size + 1 ≤ b5 := by simpa using o7
             have hne8 : b5 ≠ w2.heap.size := by omega
             have Y8 := X7.put3 (.int .i64 W) (.int .i64 H) (.slice (some ⟨b5, 0, none⟩) n c5)
             have B8 := G7.put3 (k := w2.heap.size) (Nat.le_refl _) (.int .i64 W) (.int .i64 H) (.slice (some ⟨b5, 0, none⟩) n c5)
             have R8 := R7.far3 (c := w2.heap.size) hne8 (.int .i64 W) (.int .i64 H) (.slice (some ⟨b5, 0, none⟩) n c5)
             go_wp2
             go_meet
             exact ⟨_, b5, c5, rfl, rfl, Y8, R8, B8, Nat.le_refl _, by omega⟩)
          | (have o8 : w2.heap.size ≤ b5 := by simpa using o7
             have Y8 := At.new v7 #[.int .i64 W, .int .i64 H, .slice (some ⟨b5, 0, none⟩) n c5] 34
             have B8 := G7.alloc (.cells #[.int .i64 W, .int .i64 H, .slice (some ⟨b5, 0, none⟩) n c5] 34)
             have R8 := R7.bl ((Bl.refl v7).alloc (.cells #[.int .i64 W, .int .i64 H, .slice (some ⟨b5, 0, none⟩) n c5] 34))
             go_wp2
             go_meet
             exact ⟨_, b5, c5, rfl, rfl, Y8, R8, B8, G7.size, o8⟩)

    case rest =>
      obtain ⟨bx, b5, c5, rfl, rfl, X3, R3, G3, hbx, hb5⟩ := hcut
      obtain ⟨w3, rfl⟩ : ∃ V : World, V = wc := ⟨_, rfl⟩
      have GV3 := GV2.trans G3
      have cEk := fun V (g : Bl w3 V) => cEj V (G3.trans g)
      have x7 := X3.lt
      have x8 := G3.size
      clear SKa cDj cEj

      have SKb : ∀ V, Bl w3 V → (V.cell? ⟨bM, 0, none⟩ = some (.int .i64 W) ∧ V.cell? ⟨bM, 1, none⟩ = some (.int .i64 H) ∧ V.cell? ⟨bM, 2, none⟩ = some (.slice (some ⟨b, 0, none⟩) n n) ∧ V.cell? ⟨ba, 0, none⟩ = some (.slice AW mw cW) ∧ Bl w3 V) := fun V g => ⟨((M4.bl GV3).bl g).cell 0, ((M4.bl GV3).bl g).cell 1, ((M4.bl GV3).bl g).cell 2, ((A4.bl GV3).bl g).cell 0, g⟩
      go_upto_region 14 with fail
      go_cut [21, 22] (fun s t wx => ∃ bx b5 c5 : Nat, s = .pointer (some ⟨bx, 0, none⟩) ∧ t = .int .i64 (NE0 : Nat) ∧ At wx bx #[.int .i64 W, .int .i64 H, .slice (some ⟨b5, 0, none⟩) n c5] 34 ∧ RowN .u32 wx b5 0 XE0 ∧ Bl w3 wx ∧ w3.heap.size ≤ bx ∧ w3.heap.size ≤ b5)
      case first =>
        go_region_held3 (fun V => V.cell? ⟨bM, 0, none⟩ = some (.int .i64 W) ∧ V.cell? ⟨bM, 1, none⟩ = some (.int .i64 H) ∧ V.cell? ⟨bM, 2, none⟩ = some (.slice (some ⟨b, 0, none⟩) n n) ∧ V.cell? ⟨ba, 0, none⟩ = some (.slice AW mw cW) ∧ Bl w3 V) ((refine SKb _ ?_; repeat (first | with_reducible assumption | with_reducible exact Bl.refl _ | with_reducible exact (And.right (And.right (And.right (And.right (by assumption))))) | with_reducible exact Bl.trans (And.right (And.right (And.right (And.right (by assumption))))) (by assumption) | with_reducible exact Bl.gr (And.right (And.right (And.right (And.right (by assumption))))) (by assumption) | with_reducible apply Bl.drew | with_reducible apply Bl.alloc | (with_reducible refine Bl.put3 ?_ ?_ _ _ _; rotate_left; first | with_reducible exact Nat.le_refl _ | with_reducible exact Bl.size (by assumption) | omega))))
          ((go_at_call 39; (refine (cEk _ (And.right (And.right (And.right (And.right (by assumption)))))).mono ?_); rintro e v7 ⟨b5, c5, rfl, R7, o7, g7⟩; have G7 : Bl w3 v7 := Bl.trans (And.right (And.right (And.right (And.right (by assumption))))) g7; (try have X7 : At v7 w3.heap.size #[.int .i64 0, .int .i64 0, .slice none 0 0] 34 := (At.new w3.drew _ _).bl g7); (try have k70 := (cells3 X7).1); (try have k71 := (cells3 X7).2.1); (try have k72 := (cells3 X7).2.2); (try have f70 := X7.free 0); (try have f71 := X7.free 1); (try have f72 := X7.free 2)))
        all_goals
          first
            | (have o8 : w3.heap.size + 1 ≤ b5 := by simpa using o7
               have hne8 : b5 ≠ w3.heap.size := by omega
               have Y8 := X7.put3 (.int .i64 W) (.int .i64 H) (.slice (some ⟨b5, 0, none⟩) n c5)
               have B8 := G7.put3 (k := w3.heap.size) (Nat.le_refl _) (.int .i64 W) (.int .i64 H) (.slice (some ⟨b5, 0, none⟩) n c5)
               have R8 := R7.far3 (c := w3.heap.size) hne8 (.int .i64 W) (.int .i64 H) (.slice (some ⟨b5, 0, none⟩) n c5)
               go_wp2
               go_meet
               exact ⟨_, b5, c5, rfl, rfl, Y8, R8, B8, Nat.le_refl _, by omega⟩)
            | (have o8 : w3.heap.size ≤ b5 := by simpa using o7
               have Y8 := At.new v7 #[.int .i64 W, .int .i64 H, .slice (some ⟨b5, 0, none⟩) n c5] 34
               have B8 := G7.alloc (.cells #[.int .i64 W, .int .i64 H, .slice (some ⟨b5, 0, none⟩) n c5] 34)
               have R8 := R7.bl ((Bl.refl v7).alloc (.cells #[.int .i64 W, .int .i64 H, .slice (some ⟨b5, 0, none⟩) n c5] 34))
               go_wp2
               go_meet
               exact ⟨_, b5, c5, rfl, rfl, Y8, R8, B8, G7.size, o8⟩)

      case rest =>
        obtain ⟨bY, b5y, c5y, rfl, rfl, Y4, R4, G4', hby, hb5y⟩ := hcut
        obtain ⟨w4, rfl⟩ : ∃ V : World, V = wc := ⟨_, rfl⟩
        have GV4 := GV3.trans G4'
        have X4 := X3.bl G4'
        have RX4 := R3.bl G4'
        have I4 := I2.bl (G3.trans G4')
        have O4 := O2.bl (G3.trans G4')
        have x9 := G4'.size
        clear SKb cEk X3 R3 I2 O2 G3 G4' GV3
        have KP : ∀ V V' row, (At V bL #[.bool true, .int .i64 W2, .int .i64 H2, .slice (some ⟨rb, 0, none⟩) n2 n2, .int .i64 a1, .int .i64 a2, .int .i64 s1', .int .i64 l1, .int .i64 cp.a, .int .i64 cp.b, .int .i64 cp.c, .int .i64 cp.d] 72 ∧ At V ba #[.slice AW mw cW, .slice AS nS kS] 22 ∧ At V bx #[.int .i64 W, .int .i64 H, .slice (some ⟨b5, 0, none⟩) n c5] 34 ∧ At V bY #[.int .i64 W, .int .i64 H, .slice (some ⟨b5y, 0, none⟩) n c5y] 34) → V.grownBy V' row → some bL ≠ row → some ba ≠ row → some bx ≠ row → some bY ≠ row → (At V' bL #[.bool true, .int .i64 W2, .int .i64 H2, .slice (some ⟨rb, 0, none⟩) n2 n2, .int .i64 a1, .int .i64 a2, .int .i64 s1', .int .i64 l1, .int .i64 cp.a, .int .i64 cp.b, .int .i64 cp.c, .int .i64 cp.d] 72 ∧ At V' ba #[.slice AW mw cW, .slice AS nS kS] 22 ∧ At V' bx #[.int .i64 W, .int .i64 H, .slice (some ⟨b5, 0, none⟩) n c5] 34 ∧ At V' bY #[.int .i64 W, .int .i64 H, .slice (some ⟨b5y, 0, none⟩) n c5y] 34) := fun V V' row h g n1 n2 n3 n4 => ⟨h.1.kept g n1, h.2.1.kept g n2, h.2.2.1.kept g n3, h.2.2.2.kept g n4⟩
        have K4 : (At w4 bL #[.bool true, .int .i64 W2, .int .i64 H2, .slice (some ⟨rb, 0, none⟩) n2 n2, .int .i64 a1, .int .i64 a2, .int .i64 s1', .int .i64 l1, .int .i64 cp.a, .int .i64 cp.b, .int .i64 cp.c, .int .i64 cp.d] 72 ∧ At w4 ba #[.slice AW mw cW, .slice AS nS kS] 22 ∧ At w4 bx #[.int .i64 W, .int .i64 H, .slice (some ⟨b5, 0, none⟩) n c5] 34 ∧ At w4 bY #[.int .i64 W, .int .i64 H, .slice (some ⟨b5y, 0, none⟩) n c5y] 34) := ⟨L4.bl GV4, A4.bl GV4, X4, Y4⟩
        have SKc : ∀ V, (At V bL #[.bool true, .int .i64 W2, .int .i64 H2, .slice (some ⟨rb, 0, none⟩) n2 n2, .int .i64 a1, .int .i64 a2, .int .i64 s1', .int .i64 l1, .int .i64 cp.a, .int .i64 cp.b, .int .i64 cp.c, .int .i64 cp.d] 72 ∧ At V ba #[.slice AW mw cW, .slice AS nS kS] 22 ∧ At V bx #[.int .i64 W, .int .i64 H, .slice (some ⟨b5, 0, none⟩) n c5] 34 ∧ At V bY #[.int .i64 W, .int .i64 H, .slice (some ⟨b5y, 0, none⟩) n c5y] 34) → (V.cell? ⟨bL, 0, none⟩ = some (.bool true) ∧ V.cell? ⟨bL, 1, none⟩ = some (.int .i64 W2) ∧ V.cell? ⟨bL, 2, none⟩ = some (.int .i64 H2) ∧ V.cell? ⟨bL, 3, none⟩ = some (.slice (some ⟨rb, 0, none⟩) n2 n2) ∧ V.cell? ⟨bL, 4, none⟩ = some (.int .i64 a1) ∧ V.cell? ⟨bL, 5, none⟩ = some (.int .i64 a2) ∧ V.cell? ⟨bL, 6, none⟩ = some (.int .i64 s1') ∧ V.cell? ⟨bL, 7, none⟩ = some (.int .i64 l1) ∧ V.cell? ⟨bL, 8, none⟩ = some (.int .i64 cp.a) ∧ V.cell? ⟨bL, 9, none⟩ = some (.int .i64 cp.b) ∧ V.cell? ⟨bL, 10, none⟩ = some (.int .i64 cp.c) ∧ V.cell? ⟨bL, 11, none⟩ = some (.int .i64 cp.d) ∧ V.cell? ⟨ba, 0, none⟩ = some (.slice AW mw cW) ∧ V.cell? ⟨bx, 0, none⟩ = some (.int .i64 W) ∧ V.cell? ⟨bx, 1, none⟩ = some (.int .i64 H) ∧ V.cell? ⟨bx, 2, none⟩ = some (.slice (some ⟨b5, 0, none⟩) n c5) ∧ V.cell? ⟨bY, 0, none⟩ = some (.int .i64 W) ∧ V.cell? ⟨bY, 1, none⟩ = some (.int .i64 H) ∧ V.cell? ⟨bY, 2, none⟩ = some (.slice (some ⟨b5y, 0, none⟩) n c5y)) := fun V h => ⟨(h.1).cell 0, (h.1).cell 1, (h.1).cell 2, (h.1).cell 3, (h.1).cell 4, (h.1).cell 5, (h.1).cell 6, (h.1).cell 7, (h.1).cell 8, (h.1).cell 9, (h.1).cell 10, (h.1).cell 11, h.2.1.cell 0, (h.2.2.1).cell 0, (h.2.2.1).cell 1, (h.2.2.1).cell 2, (h.2.2.2).cell 0, (h.2.2.2).cell 1, (h.2.2.2).cell 2⟩
        have hby0 : V0.heap.size ≤ bY := by omega
        have lbL := L4.lt
        have lba := A4.lt
        have z1 := X4.lt
        have z2 := Y4.lt
        have e4 : w4.drew.heap.size = w4.heap.size := by simp
        have D4 := (Bl.refl w4).drew
        have KD := KP w4 w4.drew none K4 (D4.byr none) (by simp) (by simp) (by simp) (by simp)
        clear X4 Y4 K4
        replace KP := Lib.hid KP
        replace SKc := Lib.hid SKc
        have ne1 := R4.lt (by rw [hXE0.out]; omega)
        have ne2 := RX4.lt (by rw [hXD0.out]; omega)
        go_upto_region 15 with fail
        go_cut [111] (fun o wx => o = .bool false ∧ Bl V0 wx)
        case first =>
          go_region_held3 (fun V => V.cell? ⟨bL, 0, none⟩ = some (.bool true) ∧ V.cell? ⟨bL, 1, none⟩ = some (.int .i64 W2) ∧ V.cell? ⟨bL, 2, none⟩ = some (.int .i64 H2) ∧ V.cell? ⟨bL, 3, none⟩ = some (.slice (some ⟨rb, 0, none⟩) n2 n2) ∧ V.cell? ⟨bL, 4, none⟩ = some (.int .i64 a1) ∧ V.cell? ⟨bL, 5, none⟩ = some (.int .i64 a2) ∧ V.cell? ⟨bL, 6, none⟩ = some (.int .i64 s1') ∧ V.cell? ⟨bL, 7, none⟩ = some (.int .i64 l1) ∧ V.cell? ⟨bL, 8, none⟩ = some (.int .i64 cp.a) ∧ V.cell? ⟨bL, 9, none⟩ = some (.int .i64 cp.b) ∧ V.cell? ⟨bL, 10, none⟩ = some (.int .i64 cp.c) ∧ V.cell? ⟨bL, 11, none⟩ = some (.int .i64 cp.d) ∧ V.cell? ⟨ba, 0, none⟩ = some (.slice AW mw cW) ∧ V.cell? ⟨bx, 0, none⟩ = some (.int .i64 W) ∧ V.cell? ⟨bx, 1, none⟩ = some (.int .i64 H) ∧ V.cell? ⟨bx, 2, none⟩ = some (.slice (some ⟨b5, 0, none⟩) n c5) ∧ V.cell? ⟨bY, 0, none⟩ = some (.int .i64 W) ∧ V.cell? ⟨bY, 1, none⟩ = some (.int .i64 H) ∧ V.cell? ⟨bY, 2, none⟩ = some (.slice (some ⟨b5y, 0, none⟩) n c5y)) ((refine SKc.out _ ?_; assumption))
            ((first
              | (go_at_call 41; (refine (cY _ (GV4.trans D4)).mono ?_); rintro e v1 ⟨p2, c2, rfl, J1, hp2, hc2, g1⟩; have K1 := KP.out _ v1 none KD (g1.byr none) (by simp) (by simp) (by simp) (by simp))
              | (go_at_call 40; (refine (cP0 v1 (I4.bl (D4.trans g1)) J1 (by omega) (by omega) (by omega) ((GV4.trans D4).trans g1)).mono ?_); rintro e v2 ⟨rfl, b2, I2⟩; have K2 := KP.out _ v2 (some pc) K1 b2 (by simp; omega) (by simp; omega) (by simp; omega) (by simp; omega))
              | (go_at_call_of 42 (Value.pointer (some ⟨pm, 0, none⟩)); (refine (cLD0 pm pc b5 c5 v2 I2 ((RX4.bl (D4.trans g1)).kept b2 (by simp; omega))).mono ?_); rintro e v3 ⟨rfl, g3⟩; have K3 := KP.out _ v3 none K2 (g3.bl.byr none) (by simp) (by simp) (by simp) (by simp); have GV7 : Bl V0 v3 := (((GV4.trans D4).trans g1).row b2 (by omega)).gr g3; have O7 := ((O4.bl (D4.trans g1)).kept b2 (by simp; omega) (by simp; omega)).gr g3)
              | (go_at_call 43; (refine (cC0 po co v3 O7 GV7).mono ?_); rintro e v4 ⟨rfl, b4, O8⟩; have K4 := KP.out _ v4 (some co) K3 b4 (by simp; omega) (by simp; omega) (by simp; omega) (by simp; omega); have GV8 : Bl V0 v4 := GV7.row b4 (by omega))
              | (go_at_call_of 42 (Value.pointer (some ⟨po, 0, none⟩)); (refine (cLE0 po co b5y c5y v4 O8 ((((R4.bl (D4.trans g1)).kept b2 (by simp; omega)).gr g3).kept b4 (by simp; omega))).mono ?_); rintro e v5 ⟨rfl, g5⟩; have K5 := KP.out _ v5 none K4 (g5.bl.byr none) (by simp) (by simp) (by simp) (by simp); have GV9 : Bl V0 v5 := GV8.gr g5)))
          all_goals
            go_wp2
            go_meet
            exact ⟨rfl, GV9⟩
        case rest =>
          obtain ⟨rfl, GVn⟩ := hcut
          obtain ⟨wn, rfl⟩ : ∃ V : World, V = wc := ⟨_, rfl⟩
          clear GV GV1 GV2 GV4 I4 O4 RX4 R4 KD D4 KP SKc hpm hpc hpo hco x1 x2 x3 x4 x5 x6 x7 x8 x9 hbx hb5 hby hb5y hby0 lbL lba z1 z2 e4 ne1 ne2
          have GV := GVn
          clear GVn
          go_wp2
          rw [rounds_succ]

          -- round 1
          obtain ⟨m0, m1, m2⟩ := cells3 (M4.bl GV)
          go_wp2_with fail
          refine (cb _ _ (C4.bl GV).rowC).mono ?_
          rintro e w1 ⟨pm, pc, rfl, I1, hpm, hpc, h1⟩
          have GV1 := GV.trans h1
          clear m0 m1 m2
          obtain ⟨m0, m1, m2⟩ := cells3 (M4.bl GV1)
          go_wp2_with fail
          refine (cb _ _ (C4.bl GV1).rowC).mono ?_
          rintro e w2 ⟨po, co, rfl, O2, hpo, hco, h2⟩
          have I2 := I1.bl h2
          have x1 := I1.hd.lt
          have x2 := I1.cs.lt
          have x3 := O2.hd.lt
          have x4 := O2.cs.lt
          have x5 := h2.size
          have x6 := GV.size
          have GV2 := GV1.trans h2
          clear m0 m1 m2 I1 h1 h2
          have cDj := fun V (g : Bl w2 V) => cD1 V (GV2.trans g)
          have cEj := fun V (g : Bl w2 V) => cE1 V (GV2.trans g)

          have SKa : ∀ V, Bl w2 V → (V.cell? ⟨bM, 0, none⟩ = some (.int .i64 W) ∧ V.cell? ⟨bM, 1, none⟩ = some (.int .i64 H) ∧ V.cell? ⟨bM, 2, none⟩ = some (.slice (some ⟨b, 0, none⟩) n n) ∧ V.cell? ⟨bL, 0, none⟩ = some (.bool true) ∧ V.cell? ⟨bL, 1, none⟩ = some (.int .i64 W2) ∧ V.cell? ⟨bL, 2, none⟩ = some (.int .i64 H2) ∧ V.cell? ⟨bL, 3, none⟩ = some (.slice (some ⟨rb, 0, none⟩) n2 n2) ∧ V.cell? ⟨bL, 4, none⟩ = some (.int .i64 a1) ∧ V.cell? ⟨bL, 5, none⟩ = some (.int .i64 a2) ∧ V.cell? ⟨bL, 6, none⟩ = some (.int .i64 s1') ∧ V.cell? ⟨bL, 7, none⟩ = some (.int .i64 l1) ∧ V.cell? ⟨bL, 8, none⟩ = some (.int .i64 cp.a) ∧ V.cell? ⟨bL, 9, none⟩ = some (.int .i64 cp.b) ∧ V.cell? ⟨bL, 10, none⟩ = some (.int .i64 cp.c) ∧ V.cell? ⟨bL, 11, none⟩ = some (.int .i64 cp.d) ∧ V.cell? ⟨ba, 1, none⟩ = some (.slice AS nS kS) ∧ Bl w2 V) := fun V g => ⟨((M4.bl GV2).bl g).cell 0, ((M4.bl GV2).bl g).cell 1, ((M4.bl GV2).bl g).cell 2, ((L4.bl GV2).bl g).cell 0, ((L4.bl GV2).bl g).cell 1, ((L4.bl GV2).bl g).cell 2, ((L4.bl GV2).bl g).cell 3, ((L4.bl GV2).bl g).cell 4, ((L4.bl GV2).bl g).cell 5, ((L4.bl GV2).bl g).cell 6, ((L4.bl GV2).bl g).cell 7, ((L4.bl GV2).bl g).cell 8, ((L4.bl GV2).bl g).cell 9, ((L4.bl GV2).bl g).cell 10, ((L4.bl GV2).bl g).cell 11, ((A4.bl GV2).bl g).cell 1, g⟩
          go_upto_region 13 with fail
          go_cut [19, 20] (fun s t wx => ∃ bx b5 c5 : Nat, s = .pointer (some ⟨bx, 0, none⟩) ∧ t = .int .i64 (ND1 : Nat) ∧ At wx bx #[.int .i64 W, .int .i64 H, .slice (some ⟨b5, 0, none⟩) n c5] 34 ∧ RowN .u32 wx b5 0 XD1 ∧ Bl w2 wx ∧ w2.heap.size ≤ bx ∧ w2.heap.size ≤ b5)
          case first =>
            go_region_held3 (fun V => V.cell? ⟨bM, 0, none⟩ = some (.int .i64 W) ∧ V.cell? ⟨bM, 1, none⟩ = some (.int .i64 H) ∧ V.cell? ⟨bM, 2, none⟩ = some (.slice (some ⟨b, 0, none⟩) n n) ∧ V.cell? ⟨bL, 0, none⟩ = some (.bool true) ∧ V.cell? ⟨bL, 1, none⟩ = some (.int .i64 W2) ∧ V.cell? ⟨bL, 2, none⟩ = some (.int .i64 H2) ∧ V.cell? ⟨bL, 3, none⟩ = some (.slice (some ⟨rb, 0, none⟩) n2 n2) ∧ V.cell? ⟨bL, 4, none⟩ = some (.int .i64 a1) ∧ V.cell? ⟨bL, 5, none⟩ = some (.int .i64 a2) ∧ V.cell? ⟨bL, 6, none⟩ = some (.int .i64 s1') ∧ V.cell? ⟨bL, 7, none⟩ = some (.int .i64 l1) ∧ V.cell? ⟨bL, 8, none⟩ = some (.int .i64 cp.a) ∧ V.cell? ⟨bL, 9, none⟩ = some (.int .i64 cp.b) ∧ V.cell? ⟨bL, 10, none⟩ = some (.int .i64 cp.c) ∧ V.cell? ⟨bL, 11, none⟩ = some (.int .i64 cp.d) ∧ V.cell? ⟨ba, 1, none⟩ = some (.slice AS nS kS) ∧ Bl w2 V) ((refine SKa _ ?_; repeat (first | with_reducible assumption | with_reducible exact Bl.refl _ | with_reducible exact (And.right (And.right (And.right (And.right (And.right (And.right (And.right (And.right (And.right (And.right (And.right (And.right (And.right (And.right (And.right (And.right (by assumption))))))))))))))))) | with_reducible exact Bl.trans (And.right (And.right (And.right (And.right (And.right (And.right (And.right (And.right (And.right (And.right (And.right (And.right (And.right (And.right (And.right (And.right (by assumption))))))))))))))))) (by assumption) | with_reducible exact Bl.gr (And.right (And.right (And.right (And.right (And.right (And.right (And.right (And.right (And.right (And.right (And.right (And.right (And.right (And.right (And.right (And.right (by assumption))))))))))))))))) (by assumption) | with_reducible apply Bl.drew | with_reducible apply Bl.alloc | (with_reducible refine Bl.put3 ?_ ?_ _ _ _; rotate_left; first | with_reducible exact Nat.le_refl _ | with_reducible exact Bl.size (by assumption) | omega))))
              ((go_at_call 38; (refine (cDj _ (And.right (And.right (And.right (And.right (And.right (And.right (And.right (And.right (And.right (And.right (And.right (And.right (And.right (And.right (And.right (And.right (by assumption)))))))))))))))))).mono ?_); rintro e v7 ⟨b5, c5, rfl, R7, o7, g7⟩; have G7 : Bl w2 v7 := Bl.trans (And.right (And.right (And.right (And.right (And.right (And.right (And.right (And.right (And.right (And.right (And.right (And.right (And.right (And.right (And.right (And.right (by assumption))))))))))))))))) g7; (try have X7 : At v7 w2.heap.size #[.int .i64 0, .int .i64 0, .slice none 0 0] 34 := (At.new w2.drew _ _).bl g7); (try have k70 := (cells3 X7).1); (try have k71 := (cells3 X7).2.1); (try have k72 := (cells3 X7).2.2); (try have f70 := X7.free 0); (try have f71 := X7.free 1); (try have f72 := X7.free 2)))
            all_goals
              first
                | (have o8 : w2.heap.size + 1 ≤ b5 := by simpa using o7
                   have hne8 : b5 ≠ w2.heap.size := by omega
                   have Y8 := X7.put3 (.int .i64 W) (.int .i64 H) (.slice (some ⟨b5, 0, none⟩) n c5)
                   have B8 := G7.put3 (k := w2.heap.size) (Nat.le_refl _) (.int .i64 W) (.int .i64 H) (.slice (some ⟨b5, 0, none⟩) n c5)
                   have R8 := R7.far3 (c := w2.heap.size) hne8 (.int .i64 W) (.int .i64 H) (.slice (some ⟨b5, 0, none⟩) n c5)
                   go_wp2
                   go_meet
                   exact ⟨_, b5, c5, rfl, rfl, Y8, R8, B8, Nat.le_refl _, by omega⟩)
                | (have o8 : w2.heap.size ≤ b5 := by simpa using o7
                   have Y8 := At.new v7 #[.int .i64 W, .int .i64 H, .slice (some ⟨b5, 0, none⟩) n c5] 34
                   have B8 := G7.alloc (.cells #[.int .i64 W, .int .i64 H, .slice (some ⟨b5, 0, none⟩) n c5] 34)
                   have R8 := R7.bl ((Bl.refl v7).alloc (.cells #[.int .i64 W, .int .i64 H, .slice (some ⟨b5, 0, none⟩) n c5] 34))
                   go_wp2
                   go_meet
                   exact ⟨_, b5, c5, rfl, rfl, Y8, R8, B8, G7.size, o8⟩)

          case rest =>
            obtain ⟨bx, b5, c5, rfl, rfl, X3, R3, G3, hbx, hb5⟩ := hcut
            obtain ⟨w3, rfl⟩ : ∃ V : World, V = wc := ⟨_, rfl⟩
            have GV3 := GV2.trans G3
            have cEk := fun V (g : Bl w3 V) => cEj V (G3.trans g)
            have x7 := X3.lt
            have x8 := G3.size
            clear SKa cDj cEj

            have SKb : ∀ V, Bl w3 V → (V.cell? ⟨bM, 0, none⟩ = some (.int .i64 W) ∧ V.cell? ⟨bM, 1, none⟩ = some (.int .i64 H) ∧ V.cell? ⟨bM, 2, none⟩ = some (.slice (some ⟨b, 0, none⟩) n n) ∧ V.cell? ⟨ba, 1, none⟩ = some (.slice AS nS kS) ∧ Bl w3 V) := fun V g => ⟨((M4.bl GV3).bl g).cell 0, ((M4.bl GV3).bl g).cell 1, ((M4.bl GV3).bl g).cell 2, ((A4.bl GV3).bl g).cell 1, g⟩
            go_upto_region 14 with fail
            go_cut [21, 22] (fun s t wx => ∃ bx b5 c5 : Nat, s = .pointer (some ⟨bx, 0, none⟩) ∧ t = .int .i64 (NE1 : Nat) ∧ At wx bx #[.int .i64 W, .int .i64 H, .slice (some ⟨b5, 0, none⟩) n c5] 34 ∧ RowN .u32 wx b5 0 XE1 ∧ Bl w3 wx ∧ w3.heap.size ≤ bx ∧ w3.heap.size ≤ b5)
            case first =>
              go_region_held3 (fun V => V.cell? ⟨bM, 0, none⟩ = some (.int .i64 W) ∧ V.cell? ⟨bM, 1, none⟩ = some (.int .i64 H) ∧ V.cell? ⟨bM, 2, none⟩ = some (.slice (some ⟨b, 0, none⟩) n n) ∧ V.cell? ⟨ba, 1, none⟩ = some (.slice AS nS kS) ∧ Bl w3 V) ((refine SKb _ ?_; repeat (first | with_reducible assumption | with_reducible exact Bl.refl _ | with_reducible exact (And.right (And.right (And.right (And.right (by assumption))))) | with_reducible exact Bl.trans (And.right (And.right (And.right (And.right (by assumption))))) (by assumption) | with_reducible exact Bl.gr (And.right (And.right (And.right (And.right (by assumption))))) (by assumption) | with_reducible apply Bl.drew | with_reducible apply Bl.alloc | (with_reducible refine Bl.put3 ?_ ?_ _ _ _; rotate_left; first | with_reducible exact Nat.le_refl _ | with_reducible exact Bl.size (by assumption) | omega))))
                ((go_at_call 39; (refine (cEk _ (And.right (And.right (And.right (And.right (by assumption)))))).mono ?_); rintro e v7 ⟨b5, c5, rfl, R7, o7, g7⟩; have G7 : Bl w3 v7 := Bl.trans (And.right (And.right (And.right (And.right (by assumption))))) g7; (try have X7 : At v7 w3.heap.size #[.int .i64 0, .int .i64 0, .slice none 0 0] 34 := (At.new w3.drew _ _).bl g7); (try have k70 := (cells3 X7).1); (try have k71 := (cells3 X7).2.1); (try have k72 := (cells3 X7).2.2); (try have f70 := X7.free 0); (try have f71 := X7.free 1); (try have f72 := X7.free 2)))
              all_goals
                first
                  | (have o8 : w3.heap.size + 1 ≤ b5 := by simpa using o7
                     have hne8 : b5 ≠ w3.heap.size := by omega
                     have Y8 := X7.put3 (.int .i64 W) (.int .i64 H) (.slice (some ⟨b5, 0, none⟩) n c5)
                     have B8 := G7.put3 (k := w3.heap.size) (Nat.le_refl _) (.int .i64 W) (.int .i64 H) (.slice (some ⟨b5, 0, none⟩) n c5)
                     have R8 := R7.far3 (c := w3.heap.size) hne8 (.int .i64 W) (.int .i64 H) (.slice (some ⟨b5, 0, none⟩) n c5)
                     go_wp2
                     go_meet
                     exact ⟨_, b5, c5, rfl, rfl, Y8, R8, B8, Nat.le_refl _, by omega⟩)
                  | (have o8 : w3.heap.size ≤ b5 := by simpa using o7
                     have Y8 := At.new v7 #[.int .i64 W, .int .i64 H, .slice (some ⟨b5, 0, none⟩) n c5] 34
                     have B8 := G7.alloc (.cells #[.int .i64 W, .int .i64 H, .slice (some ⟨b5, 0, none⟩) n c5] 34)
                     have R8 := R7.bl ((Bl.refl v7).alloc (.cells #[.int .i64 W, .int .i64 H, .slice (some ⟨b5, 0, none⟩) n c5] 34))
                     go_wp2
                     go_meet
                     exact ⟨_, b5, c5, rfl, rfl, Y8, R8, B8, G7.size, o8⟩)

            case rest =>
              obtain ⟨bY, b5y, c5y, rfl, rfl, Y4, R4, G4', hby, hb5y⟩ := hcut
              obtain ⟨w4, rfl⟩ : ∃ V : World, V = wc := ⟨_, rfl⟩
              have GV4 := GV3.trans G4'
              have X4 := X3.bl G4'
              have RX4 := R3.bl G4'
              have I4 := I2.bl (G3.trans G4')
              have O4 := O2.bl (G3.trans G4')
              have x9 := G4'.size
              clear SKb cEk X3 R3 I2 O2 G3 G4' GV3
              have KP : ∀ V V' row, (At V bL #[.bool true, .int .i64 W2, .int .i64 H2, .slice (some ⟨rb, 0, none⟩) n2 n2, .int .i64 a1, .int .i64 a2, .int .i64 s1', .int .i64 l1, .int .i64 cp.a, .int .i64 cp.b, .int .i64 cp.c, .int .i64 cp.d] 72 ∧ At V ba #[.slice AW mw cW, .slice AS nS kS] 22 ∧ At V bx #[.int .i64 W, .int .i64 H, .slice (some ⟨b5, 0, none⟩) n c5] 34 ∧ At V bY #[.int .i64 W, .int .i64 H, .slice (some ⟨b5y, 0, none⟩) n c5y] 34) → V.grownBy V' row → some bL ≠ row → some ba ≠ row → some bx ≠ row → some bY ≠ row → (At V' bL #[.bool true, .int .i64 W2, .int .i64 H2, .slice (some ⟨rb, 0, none⟩) n2 n2, .int .i64 a1, .int .i64 a2, .int .i64 s1', .int .i64 l1, .int .i64 cp.a, .int .i64 cp.b, .int .i64 cp.c, .int .i64 cp.d] 72 ∧ At V' ba #[.slice AW mw cW, .slice AS nS kS] 22 ∧ At V' bx #[.int .i64 W, .int .i64 H, .slice (some ⟨b5, 0, none⟩) n c5] 34 ∧ At V' bY #[.int .i64 W, .int .i64 H, .slice (some ⟨b5y, 0, none⟩) n c5y] 34) := fun V V' row h g n1 n2 n3 n4 => ⟨h.1.kept g n1, h.2.1.kept g n2, h.2.2.1.kept g n3, h.2.2.2.kept g n4⟩
              have K4 : (At w4 bL #[.bool true, .int .i64 W2, .int .i64 H2, .slice (some ⟨rb, 0, none⟩) n2 n2, .int .i64 a1, .int .i64 a2, .int .i64 s1', .int .i64 l1, .int .i64 cp.a, .int .i64 cp.b, .int .i64 cp.c, .int .i64 cp.d] 72 ∧ At w4 ba #[.slice AW mw cW, .slice AS nS kS] 22 ∧ At w4 bx #[.int .i64 W, .int .i64 H, .slice (some ⟨b5, 0, none⟩) n c5] 34 ∧ At w4 bY #[.int .i64 W, .int .i64 H, .slice (some ⟨b5y, 0, none⟩) n c5y] 34) := ⟨L4.bl GV4, A4.bl GV4, X4, Y4⟩
              have SKc : ∀ V, (At V bL #[.bool true, .int .i64 W2, .int .i64 H2, .slice (some ⟨rb, 0, none⟩) n2 n2, .int .i64 a1, .int .i64 a2, .int .i64 s1', .int .i64 l1, .int .i64 cp.a, .int .i64 cp.b, .int .i64 cp.c, .int .i64 cp.d] 72 ∧ At V ba #[.slice AW mw cW, .slice AS nS kS] 22 ∧ At V bx #[.int .i64 W, .int .i64 H, .slice (some ⟨b5, 0, none⟩) n c5] 34 ∧ At V bY #[.int .i64 W, .int .i64 H, .slice (some ⟨b5y, 0, none⟩) n c5y] 34) → (V.cell? ⟨bL, 0, none⟩ = some (.bool true) ∧ V.cell? ⟨bL, 1, none⟩ = some (.int .i64 W2) ∧ V.cell? ⟨bL, 2, none⟩ = some (.int .i64 H2) ∧ V.cell? ⟨bL, 3, none⟩ = some (.slice (some ⟨rb, 0, none⟩) n2 n2) ∧ V.cell? ⟨bL, 4, none⟩ = some (.int .i64 a1) ∧ V.cell? ⟨bL, 5, none⟩ = some (.int .i64 a2) ∧ V.cell? ⟨bL, 6, none⟩ = some (.int .i64 s1') ∧ V.cell? ⟨bL, 7, none⟩ = some (.int .i64 l1) ∧ V.cell? ⟨bL, 8, none⟩ = some (.int .i64 cp.a) ∧ V.cell? ⟨bL, 9, none⟩ = some (.int .i64 cp.b) ∧ V.cell? ⟨bL, 10, none⟩ = some (.int .i64 cp.c) ∧ V.cell? ⟨bL, 11, none⟩ = some (.int .i64 cp.d) ∧ V.cell? ⟨ba, 1, none⟩ = some (.slice AS nS kS) ∧ V.cell? ⟨bx, 0, none⟩ = some (.int .i64 W) ∧ V.cell? ⟨bx, 1, none⟩ = some (.int .i64 H) ∧ V.cell? ⟨bx, 2, none⟩ = some (.slice (some ⟨b5, 0, none⟩) n c5) ∧ V.cell? ⟨bY, 0, none⟩ = some (.int .i64 W) ∧ V.cell? ⟨bY, 1, none⟩ = some (.int .i64 H) ∧ V.cell? ⟨bY, 2, none⟩ = some (.slice (some ⟨b5y, 0, none⟩) n c5y)) := fun V h => ⟨(h.1).cell 0, (h.1).cell 1, (h.1).cell 2, (h.1).cell 3, (h.1).cell 4, (h.1).cell 5, (h.1).cell 6, (h.1).cell 7, (h.1).cell 8, (h.1).cell 9, (h.1).cell 10, (h.1).cell 11, h.2.1.cell 1, (h.2.2.1).cell 0, (h.2.2.1).cell 1, (h.2.2.1).cell 2, (h.2.2.2).cell 0, (h.2.2.2).cell 1, (h.2.2.2).cell 2⟩
              have hby0 : V0.heap.size ≤ bY := by omega
              have lbL := L4.lt
              have lba := A4.lt
              have z1 := X4.lt
              have z2 := Y4.lt
              have e4 : w4.drew.heap.size = w4.heap.size := by simp
              have D4 := (Bl.refl w4).drew
              have KD := KP w4 w4.drew none K4 (D4.byr none) (by simp) (by simp) (by simp) (by simp)
              clear X4 Y4 K4
              replace KP := Lib.hid KP
              replace SKc := Lib.hid SKc
              have ne1 := R4.lt (by rw [hXE1.out]; omega)
              have ne2 := RX4.lt (by rw [hXD1.out]; omega)
              go_upto_region 15 with fail
              go_cut [111] (fun o wx => o = .bool false ∧ Bl V0 wx)
              case first =>
                go_region_held3 (fun V => V.cell? ⟨bL, 0, none⟩ = some (.bool true) ∧ V.cell? ⟨bL, 1, none⟩ = some (.int .i64 W2) ∧ V.cell? ⟨bL, 2, none⟩ = some (.int .i64 H2) ∧ V.cell? ⟨bL, 3, none⟩ = some (.slice (some ⟨rb, 0, none⟩) n2 n2) ∧ V.cell? ⟨bL, 4, none⟩ = some (.int .i64 a1) ∧ V.cell? ⟨bL, 5, none⟩ = some (.int .i64 a2) ∧ V.cell? ⟨bL, 6, none⟩ = some (.int .i64 s1') ∧ V.cell? ⟨bL, 7, none⟩ = some (.int .i64 l1) ∧ V.cell? ⟨bL, 8, none⟩ = some (.int .i64 cp.a) ∧ V.cell? ⟨bL, 9, none⟩ = some (.int .i64 cp.b) ∧ V.cell? ⟨bL, 10, none⟩ = some (.int .i64 cp.c) ∧ V.cell? ⟨bL, 11, none⟩ = some (.int .i64 cp.d) ∧ V.cell? ⟨ba, 1, none⟩ = some (.slice AS nS kS) ∧ V.cell? ⟨bx, 0, none⟩ = some (.int .i64 W) ∧ V.cell? ⟨bx, 1, none⟩ = some (.int .i64 H) ∧ V.cell? ⟨bx, 2, none⟩ = some (.slice (some ⟨b5, 0, none⟩) n c5) ∧ V.cell? ⟨bY, 0, none⟩ = some (.int .i64 W) ∧ V.cell? ⟨bY, 1, none⟩ = some (.int .i64 H) ∧ V.cell? ⟨bY, 2, none⟩ = some (.slice (some ⟨b5y, 0, none⟩) n c5y)) ((refine SKc.out _ ?_; assumption))
                  ((first
                    | (go_at_call 41; (refine (cY _ (GV4.trans D4)).mono ?_); rintro e v1 ⟨p2, c2, rfl, J1, hp2, hc2, g1⟩; have K1 := KP.out _ v1 none KD (g1.byr none) (by simp) (by simp) (by simp) (by simp))
                    | (go_at_call 40; (refine (cP1 v1 (I4.bl (D4.trans g1)) J1 (by omega) (by omega) (by omega) ((GV4.trans D4).trans g1)).mono ?_); rintro e v2 ⟨rfl, b2, I2⟩; have K2 := KP.out _ v2 (some pc) K1 b2 (by simp; omega) (by simp; omega) (by simp; omega) (by simp; omega))
                    | (go_at_call_of 42 (Value.pointer (some ⟨pm, 0, none⟩)); (refine (cLD1 pm pc b5 c5 v2 I2 ((RX4.bl (D4.trans g1)).kept b2 (by simp; omega))).mono ?_); rintro e v3 ⟨rfl, g3⟩; have K3 := KP.out _ v3 none K2 (g3.bl.byr none) (by simp) (by simp) (by simp) (by simp); have GV7 : Bl V0 v3 := (((GV4.trans D4).trans g1).row b2 (by omega)).gr g3; have O7 := ((O4.bl (D4.trans g1)).kept b2 (by simp; omega) (by simp; omega)).gr g3)
                    | (go_at_call 43; (refine (cC1 po co v3 O7 GV7).mono ?_); rintro e v4 ⟨rfl, b4, O8⟩; have K4 := KP.out _ v4 (some co) K3 b4 (by simp; omega) (by simp; omega) (by simp; omega) (by simp; omega); have GV8 : Bl V0 v4 := GV7.row b4 (by omega))
                    | (go_at_call_of 42 (Value.pointer (some ⟨po, 0, none⟩)); (refine (cLE1 po co b5y c5y v4 O8 ((((R4.bl (D4.trans g1)).kept b2 (by simp; omega)).gr g3).kept b4 (by simp; omega))).mono ?_); rintro e v5 ⟨rfl, g5⟩; have K5 := KP.out _ v5 none K4 (g5.bl.byr none) (by simp) (by simp) (by simp) (by simp); have GV9 : Bl V0 v5 := GV8.gr g5)))
                all_goals
                  go_wp2
                  go_meet
                  exact ⟨rfl, GV9⟩
              case rest =>
                obtain ⟨rfl, GVn⟩ := hcut
                obtain ⟨wn, rfl⟩ : ∃ V : World, V = wc := ⟨_, rfl⟩
                clear GV GV1 GV2 GV4 I4 O4 RX4 R4 KD D4 KP SKc hpm hpc hpo hco x1 x2 x3 x4 x5 x6 x7 x8 x9 hbx hb5 hby hb5y hby0 lbL lba z1 z2 e4 ne1 ne2
                have GV := GVn
                clear GVn
                go_wp2
                rw [rounds_succ]
                go_wp2_with fail
                refine (plives1 _).mono ?_
                rintro e u2 ⟨rfl, h2⟩
                go_wp2
                go_ret
                exact ⟨rfl, (G4.trans GV).gr h2⟩


end Go.Proofs.Ytafceieenhogpaa
