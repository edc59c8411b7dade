/-
  What is proved: a part of the statement PaintPlaces.
-/
import Derived.Test.YtablogiielclaaaGreatZz16
import Derived.Test.YtablogiielclaaaGreatPwa
import Derived.Test.YtablogiielclaaaGreatZz17
import Derived.Test.YtablogiielclaaaGreatZz13
import Derived.Test.YtablogiielclaaaGreatZz6
import Derived.Test.YtablogiielclaaaGreatZz1
import Derived.Deep.DeepCutAuto
import Derived.Deep.CutBlock
import Derived.Deep.RegionHeld3
import Derived.StillTailTactics
namespace Go.Proofs.YtablogiielclaaaGreat
open Go.ChangeShapes Go.WideShapes Go.ChangeAt Go.RowKit Go.Joins Go.Sort Go.Deep

set_option maxRecDepth 100000 in
set_option maxHeartbeats 40000000 in
theorem pplaces_walk (sm : Bool) (W0 H0 : Int) (A0 : Option Addr) (n0 c0 : Nat) (ax ay s al : Int) (cp : Rc) (cw ch : Int) (A : Option Addr) (cap : Nat) (L : List Int) (AW : Option Addr) (cW : Nat) (LW : List Rc) (q : Int) (w : World) (hK : KOk ax ay s al cp cw ch) (hlc : L.length ≤ cap) (hcm : cap ≤ maxLen) (hA : Ns .u32 w A L) (h32 : ∀ c ∈ L, C32 c) (hW : Rs w AW LW) (hiW : I64r LW) (hcW : LW.length ≤ cW) (hmW : cW ≤ maxLen) (hq : C32 q) :
    Calls Tryz.prog 13 #[.agg #[.bool sm, .int .i64 W0, .int .i64 H0, .slice A0 n0 c0, .int .i64 ax, .int .i64 ay, .int .i64 s, .int .i64 al, .int .i64 cp.a, .int .i64 cp.b, .int .i64 cp.c, .int .i64 cp.d, .int .i64 cw, .int .i64 ch, .slice A L.length cap], .slice AW LW.length cW, .int .u32 q] w (fun e w' => e = .returned (.bool true) ∧ Bl w w') := by
  have c5 := Lib.hid (fun w' (g : Bl w w') => kgood1 sm W0 H0 A0 n0 c0 ax ay s al cp cw ch A cap L w' hK hlc hcm (hA.bl g) h32)
  clear hK hlc hcm hA h32
  generalize L.length = la at *
  obtain ⟨LX, hX, hiX, hX5, hXc⟩ : ∃ LX, Rs w AW LX ∧ I64r LX ∧ LX.length ≤ 5 ∧ ((5 < LW.length ∧ 5 = LX.length) ∨ (LW.length ≤ 5 ∧ LW.length = LX.length)) := by
    rcases Nat.lt_or_ge 5 LW.length with h5 | h5
    · refine ⟨LW.take 5, ?_, fun r hr => hiW r (List.mem_of_mem_take hr), by simp; omega, .inl ⟨h5, by simp; omega⟩⟩
      obtain ⟨b', off', rfl, hrow⟩ := hW.opened (by omega)
      exact .inr ⟨b', off', rfl, (hrow.half 5).1⟩
    · exact ⟨LW, hW, hiW, h5, .inr ⟨h5, rfl⟩⟩
  clear hW hiW
  have cSm := Lib.hid (fun (m : Nat) (hm : m = LX.length) (w' : World) (g : Bl w w') => refSmall1 AW cW LX 5 w' (hX.bl g) hiX (by omega) (by decide))
  generalize LW.length = lw at *
  unfold maxLen at hmW
  have G := (Gr.refl w).alloc (.cells #[.bool sm, .int .i64 W0, .int .i64 H0, .slice A0 n0 c0, .int .i64 ax, .int .i64 ay, .int .i64 s, .int .i64 al, .int .i64 cp.a, .int .i64 cp.b, .int .i64 cp.c, .int .i64 cp.d, .int .i64 cw, .int .i64 ch, .slice A la cap] 126)
  have K1 := At.new w #[.bool sm, .int .i64 W0, .int .i64 H0, .slice A0 n0 c0, .int .i64 ax, .int .i64 ay, .int .i64 s, .int .i64 al, .int .i64 cp.a, .int .i64 cp.b, .int .i64 cp.c, .int .i64 cp.d, .int .i64 cw, .int .i64 ch, .slice A la cap] 126
  have zf0 : (w.alloc (.cells #[.bool sm, .int .i64 W0, .int .i64 H0, .slice A0 n0 c0, .int .i64 ax, .int .i64 ay, .int .i64 s, .int .i64 al, .int .i64 cp.a, .int .i64 cp.b, .int .i64 cp.c, .int .i64 cp.d, .int .i64 cw, .int .i64 ch, .slice A la cap] 126)).cell? ⟨w.heap.size, 0, none⟩ = some (.bool sm) := K1.cell 0
  have zf1 : (w.alloc (.cells #[.bool sm, .int .i64 W0, .int .i64 H0, .slice A0 n0 c0, .int .i64 ax, .int .i64 ay, .int .i64 s, .int .i64 al, .int .i64 cp.a, .int .i64 cp.b, .int .i64 cp.c, .int .i64 cp.d, .int .i64 cw, .int .i64 ch, .slice A la cap] 126)).cell? ⟨w.heap.size, 1, none⟩ = some (.int .i64 W0) := K1.cell 1
  have zf2 : (w.alloc (.cells #[.bool sm, .int .i64 W0, .int .i64 H0, .slice A0 n0 c0, .int .i64 ax, .int .i64 ay, .int .i64 s, .int .i64 al, .int .i64 cp.a, .int .i64 cp.b, .int .i64 cp.c, .int .i64 cp.d, .int .i64 cw, .int .i64 ch, .slice A la cap] 126)).cell? ⟨w.heap.size, 2, none⟩ = some (.int .i64 H0) := K1.cell 2
  have zf3 : (w.alloc (.cells #[.bool sm, .int .i64 W0, .int .i64 H0, .slice A0 n0 c0, .int .i64 ax, .int .i64 ay, .int .i64 s, .int .i64 al, .int .i64 cp.a, .int .i64 cp.b, .int .i64 cp.c, .int .i64 cp.d, .int .i64 cw, .int .i64 ch, .slice A la cap] 126)).cell? ⟨w.heap.size, 3, none⟩ = some (.slice A0 n0 c0) := K1.cell 3
  have zf4 : (w.alloc (.cells #[.bool sm, .int .i64 W0, .int .i64 H0, .slice A0 n0 c0, .int .i64 ax, .int .i64 ay, .int .i64 s, .int .i64 al, .int .i64 cp.a, .int .i64 cp.b, .int .i64 cp.c, .int .i64 cp.d, .int .i64 cw, .int .i64 ch, .slice A la cap] 126)).cell? ⟨w.heap.size, 4, none⟩ = some (.int .i64 ax) := K1.cell 4
  have zf5 : (w.alloc (.cells #[.bool sm, .int .i64 W0, .int .i64 H0, .slice A0 n0 c0, .int .i64 ax, .int .i64 ay, .int .i64 s, .int .i64 al, .int .i64 cp.a, .int .i64 cp.b, .int .i64 cp.c, .int .i64 cp.d, .int .i64 cw, .int .i64 ch, .slice A la cap] 126)).cell? ⟨w.heap.size, 5, none⟩ = some (.int .i64 ay) := K1.cell 5
  have zf6 : (w.alloc (.cells #[.bool sm, .int .i64 W0, .int .i64 H0, .slice A0 n0 c0, .int .i64 ax, .int .i64 ay, .int .i64 s, .int .i64 al, .int .i64 cp.a, .int .i64 cp.b, .int .i64 cp.c, .int .i64 cp.d, .int .i64 cw, .int .i64 ch, .slice A la cap] 126)).cell? ⟨w.heap.size, 6, none⟩ = some (.int .i64 s) := K1.cell 6
  have zf7 : (w.alloc (.cells #[.bool sm, .int .i64 W0, .int .i64 H0, .slice A0 n0 c0, .int .i64 ax, .int .i64 ay, .int .i64 s, .int .i64 al, .int .i64 cp.a, .int .i64 cp.b, .int .i64 cp.c, .int .i64 cp.d, .int .i64 cw, .int .i64 ch, .slice A la cap] 126)).cell? ⟨w.heap.size, 7, none⟩ = some (.int .i64 al) := K1.cell 7
  have zf8 : (w.alloc (.cells #[.bool sm, .int .i64 W0, .int .i64 H0, .slice A0 n0 c0, .int .i64 ax, .int .i64 ay, .int .i64 s, .int .i64 al, .int .i64 cp.a, .int .i64 cp.b, .int .i64 cp.c, .int .i64 cp.d, .int .i64 cw, .int .i64 ch, .slice A la cap] 126)).cell? ⟨w.heap.size, 8, none⟩ = some (.int .i64 cp.a) := K1.cell 8
  have zf9 : (w.alloc (.cells #[.bool sm, .int .i64 W0, .int .i64 H0, .slice A0 n0 c0, .int .i64 ax, .int .i64 ay, .int .i64 s, .int .i64 al, .int .i64 cp.a, .int .i64 cp.b, .int .i64 cp.c, .int .i64 cp.d, .int .i64 cw, .int .i64 ch, .slice A la cap] 126)).cell? ⟨w.heap.size, 9, none⟩ = some (.int .i64 cp.b) := K1.cell 9
  have zf10 : (w.alloc (.cells #[.bool sm, .int .i64 W0, .int .i64 H0, .slice A0 n0 c0, .int .i64 ax, .int .i64 ay, .int .i64 s, .int .i64 al, .int .i64 cp.a, .int .i64 cp.b, .int .i64 cp.c, .int .i64 cp.d, .int .i64 cw, .int .i64 ch, .slice A la cap] 126)).cell? ⟨w.heap.size, 10, none⟩ = some (.int .i64 cp.c) := K1.cell 10
  have zf11 : (w.alloc (.cells #[.bool sm, .int .i64 W0, .int .i64 H0, .slice A0 n0 c0, .int .i64 ax, .int .i64 ay, .int .i64 s, .int .i64 al, .int .i64 cp.a, .int .i64 cp.b, .int .i64 cp.c, .int .i64 cp.d, .int .i64 cw, .int .i64 ch, .slice A la cap] 126)).cell? ⟨w.heap.size, 11, none⟩ = some (.int .i64 cp.d) := K1.cell 11
  have zf12 : (w.alloc (.cells #[.bool sm, .int .i64 W0, .int .i64 H0, .slice A0 n0 c0, .int .i64 ax, .int .i64 ay, .int .i64 s, .int .i64 al, .int .i64 cp.a, .int .i64 cp.b, .int .i64 cp.c, .int .i64 cp.d, .int .i64 cw, .int .i64 ch, .slice A la cap] 126)).cell? ⟨w.heap.size, 12, none⟩ = some (.int .i64 cw) := K1.cell 12
  have zf13 : (w.alloc (.cells #[.bool sm, .int .i64 W0, .int .i64 H0, .slice A0 n0 c0, .int .i64 ax, .int .i64 ay, .int .i64 s, .int .i64 al, .int .i64 cp.a, .int .i64 cp.b, .int .i64 cp.c, .int .i64 cp.d, .int .i64 cw, .int .i64 ch, .slice A la cap] 126)).cell? ⟨w.heap.size, 13, none⟩ = some (.int .i64 ch) := K1.cell 13
  have zf14 : (w.alloc (.cells #[.bool sm, .int .i64 W0, .int .i64 H0, .slice A0 n0 c0, .int .i64 ax, .int .i64 ay, .int .i64 s, .int .i64 al, .int .i64 cp.a, .int .i64 cp.b, .int .i64 cp.c, .int .i64 cp.d, .int .i64 cw, .int .i64 ch, .slice A la cap] 126)).cell? ⟨w.heap.size, 14, none⟩ = some (.slice A la cap) := K1.cell 14
  go_enter Tryz.func13, Tryz.ntmps13
  go_wp2_with fail
  refine (c5.out _ G.bl).mono ?_
  rintro e v2 ⟨W2, H2, n2, F2, a1, a2, s1', l1, rb, hG, rfl, C2, hb2, g2⟩
  have G9 := (G.bl.trans g2).alloc (.cells #[.bool true, .int .i64 W2, .int .i64 H2, .slice (some ⟨rb, 0, none⟩) n2 n2, .int .i64 a1, .int .i64 a2, .int .i64 s1', .int .i64 l1, .int .i64 cp.a, .int .i64 cp.b, .int .i64 cp.c, .int .i64 cp.d] 124)
  have B9 := At.new v2 #[.bool true, .int .i64 W2, .int .i64 H2, .slice (some ⟨rb, 0, none⟩) n2 n2, .int .i64 a1, .int .i64 a2, .int .i64 s1', .int .i64 l1, .int .i64 cp.a, .int .i64 cp.b, .int .i64 cp.c, .int .i64 cp.d] 124
  have D2 := C2.alloc (.cells #[.bool true, .int .i64 W2, .int .i64 H2, .slice (some ⟨rb, 0, none⟩) n2 n2, .int .i64 a1, .int .i64 a2, .int .i64 s1', .int .i64 l1, .int .i64 cp.a, .int .i64 cp.b, .int .i64 cp.c, .int .i64 cp.d] 124)
  clear g2 c5 hb2 K1 C2 zf0 zf1 zf2 zf3 zf4 zf5 zf6 zf7 zf8 zf9 zf10 zf11 zf12 zf13 zf14
  go_upto_if 30 with fail
  go_cut [1] (fun o wx => ∃ mw : Nat, o = .slice AW mw cW ∧ Hid (mw = LX.length) ∧ mw ≤ 5 ∧ wx = v2.alloc (.cells #[.bool true, .int .i64 W2, .int .i64 H2, .slice (some ⟨rb, 0, none⟩) n2 n2, .int .i64 a1, .int .i64 a2, .int .i64 s1', .int .i64 l1, .int .i64 cp.a, .int .i64 cp.b, .int .i64 cp.c, .int .i64 cp.d] 124))
  case first =>
    rcases hXc with ⟨h5, hlx⟩ | ⟨h5, hlx⟩
    · have h5i : (5 : Int) < (lw : Int) := by omega
      replace hlx := Lib.hid hlx
      replace hX5 := Lib.hid hX5
      go_wp2
      go_meet
      exact ⟨5, rfl, hlx, by omega, rfl⟩
    · have h5i : ¬ (5 : Int) < (lw : Int) := by omega
      replace hlx := Lib.hid hlx
      replace hX5 := Lib.hid hX5
      go_wp2
      go_meet
      exact ⟨lw, rfl, hlx, h5, rfl⟩
  case rest =>
    obtain ⟨mw, rfl, hmw, hmw5, rfl⟩ := hcut
    clear hXc
    replace hX5 := Lib.hid hX5
    go_wp2_with fail
    have cS5 := cSm.out _ hmw.out _ G9
    rw [← hmw.out] at cS5
    refine cS5.mono ?_
    rintro e v3 ⟨AS, kS, RS, rfl, oS, hRS, g3⟩
    have hRl : RS.length ≤ 5 := by rw [hRS, List.length_map, List.length_take]; omega
    clear hRS cS5
    obtain ⟨nS, hnS⟩ : ∃ n, n = RS.length := ⟨_, rfl⟩
    rw [← hnS]
    have hnS5 : nS ≤ 5 := by omega
    clear hRl
    replace hnS := Lib.hid hnS
    have L3 := B9.bl g3
    have E3 := D2.bl g3
    have G3 := G9.trans g3
    have hS3 := oS.rs
    have hX3 := hX.bl G3
    clear oS B9 D2 hX g3 G9
    obtain ⟨bL, hbL⟩ : ∃ k, k = v2.heap.size := ⟨_, rfl⟩
    rw [← hbL] at L3 ⊢
    clear hbL
    have lf0 : v3.cell? ⟨bL, 0, none⟩ = some (.bool true) := L3.cell 0
    have lf1 : v3.cell? ⟨bL, 1, none⟩ = some (.int .i64 W2) := L3.cell 1
    have lf2 : v3.cell? ⟨bL, 2, none⟩ = some (.int .i64 H2) := L3.cell 2
    have lf3 : v3.cell? ⟨bL, 3, none⟩ = some (.slice (some ⟨rb, 0, none⟩) n2 n2) := L3.cell 3
    have lf4 : v3.cell? ⟨bL, 4, none⟩ = some (.int .i64 a1) := L3.cell 4
    have lf5 : v3.cell? ⟨bL, 5, none⟩ = some (.int .i64 a2) := L3.cell 5
    have lf6 : v3.cell? ⟨bL, 6, none⟩ = some (.int .i64 s1') := L3.cell 6
    have lf7 : v3.cell? ⟨bL, 7, none⟩ = some (.int .i64 l1) := L3.cell 7
    have lf8 : v3.cell? ⟨bL, 8, none⟩ = some (.int .i64 cp.a) := L3.cell 8
    have lf9 : v3.cell? ⟨bL, 9, none⟩ = some (.int .i64 cp.b) := L3.cell 9
    have lf10 : v3.cell? ⟨bL, 10, none⟩ = some (.int .i64 cp.c) := L3.cell 10
    have lf11 : v3.cell? ⟨bL, 11, none⟩ = some (.int .i64 cp.d) := L3.cell 11
    go_wp2_with fail
    refine (layer1 (rc := n2) (n := n2) a1 a2 s1' l1 cp _ E3.rowC hG.len.symm (hG.len.trans hG.hn) hG.w1 (Nat.le_trans hG.w2 (by decide)) hG.h1 (Nat.le_trans hG.h2 (by decide)) hG.may).mono ?_
    rintro e v4 ⟨p2, c2, rfl, J4, hp2, hc2, g4⟩
    have hcw : w.heap.size ≤ c2 := Nat.le_trans G3.size hc2
    have L5 := (L3.bl g4).alloc (.cells #[.pointer (some ⟨p2, 0, none⟩), .int .i64 a1, .int .i64 a2, .int .i64 s1', .int .i64 l1, .int .i64 cp.a, .int .i64 cp.b, .int .i64 cp.c, .int .i64 cp.d] 65)
    have E5 := (E3.bl g4).alloc (.cells #[.pointer (some ⟨p2, 0, none⟩), .int .i64 a1, .int .i64 a2, .int .i64 s1', .int .i64 l1, .int .i64 cp.a, .int .i64 cp.b, .int .i64 cp.c, .int .i64 cp.d] 65)
    have G5 := (G3.trans g4).alloc (.cells #[.pointer (some ⟨p2, 0, none⟩), .int .i64 a1, .int .i64 a2, .int .i64 s1', .int .i64 l1, .int .i64 cp.a, .int .i64 cp.b, .int .i64 cp.c, .int .i64 cp.d] 65)
    have J5 := J4.bl ((Bl.refl v4).alloc (.cells #[.pointer (some ⟨p2, 0, none⟩), .int .i64 a1, .int .i64 a2, .int .i64 s1', .int .i64 l1, .int .i64 cp.a, .int .i64 cp.b, .int .i64 cp.c, .int .i64 cp.d] 65))
    have hS5 := hS3.bl (g4.alloc (.cells #[.pointer (some ⟨p2, 0, none⟩), .int .i64 a1, .int .i64 a2, .int .i64 s1', .int .i64 l1, .int .i64 cp.a, .int .i64 cp.b, .int .i64 cp.c, .int .i64 cp.d] 65))
    have hX5' := hX3.bl (g4.alloc (.cells #[.pointer (some ⟨p2, 0, none⟩), .int .i64 a1, .int .i64 a2, .int .i64 s1', .int .i64 l1, .int .i64 cp.a, .int .i64 cp.b, .int .i64 cp.c, .int .i64 cp.d] 65))
    have P5 := At.new v4 #[.pointer (some ⟨p2, 0, none⟩), .int .i64 a1, .int .i64 a2, .int .i64 s1', .int .i64 l1, .int .i64 cp.a, .int .i64 cp.b, .int .i64 cp.c, .int .i64 cp.d] 65
    clear lf0 lf1 lf2 lf3 lf4 lf5 lf6 lf7 lf8 lf9 lf10 lf11 L3 E3 J4 hS3 hX3
    obtain ⟨bP, hbP⟩ : ∃ k, k = v4.heap.size := ⟨_, rfl⟩
    rw [← hbP] at P5
    go_upto_region 6 with fail
    rw [← hbP]
    clear hbP
    obtain ⟨V5, hV5⟩ : ∃ V, V = v4.alloc (.cells #[.pointer (some ⟨p2, 0, none⟩), .int .i64 a1, .int .i64 a2, .int .i64 s1', .int .i64 l1, .int .i64 cp.a, .int .i64 cp.b, .int .i64 cp.c, .int .i64 cp.d] 65) := ⟨_, rfl⟩
    rw [← hV5] at L5 E5 G5 J5 hS5 hX5' P5 ⊢
    clear hV5 g4 G3
    have yf0 : V5.cell? ⟨bP, 0, none⟩ = some (.pointer (some ⟨p2, 0, none⟩)) := P5.cell 0
    have yf1 : V5.cell? ⟨bP, 1, none⟩ = some (.int .i64 a1) := P5.cell 1
    have yf2 : V5.cell? ⟨bP, 2, none⟩ = some (.int .i64 a2) := P5.cell 2
    have yf3 : V5.cell? ⟨bP, 3, none⟩ = some (.int .i64 s1') := P5.cell 3
    have yf4 : V5.cell? ⟨bP, 4, none⟩ = some (.int .i64 l1) := P5.cell 4
    have yf5 : V5.cell? ⟨bP, 5, none⟩ = some (.int .i64 cp.a) := P5.cell 5
    have yf6 : V5.cell? ⟨bP, 6, none⟩ = some (.int .i64 cp.b) := P5.cell 6
    have yf7 : V5.cell? ⟨bP, 7, none⟩ = some (.int .i64 cp.c) := P5.cell 7
    have yf8 : V5.cell? ⟨bP, 8, none⟩ = some (.int .i64 cp.d) := P5.cell 8
    have cP := place1 a1 a2 s1' l1 cp AS kS RS V5 J5 hG.ly hS5 (by have := hnS.out; omega)
    rw [← hnS.out] at cP
    go_wp2_with fail
    refine cP.mono ?_
    rintro e W7 ⟨AP, kP, RP, rfl, hcP, oP, hP, g6⟩
    have L7 := L5.bl g6
    have E7 := E5.bl g6
    have P7 := P5.bl g6
    have J7 := J5.bl g6
    have hS7 := hS5.bl g6
    have hX7 := hX5'.bl g6
    have G7 := G5.trans g6
    clear yf0 yf1 yf2 yf3 yf4 yf5 yf6 yf7 yf8 L5 E5 P5 J5 hS5 hX5' cP g6
    obtain ⟨nP, hnP⟩ : ∃ n, n = RP.length := ⟨_, rfl⟩
    rw [← hnP] at hcP ⊢
    replace hnP := Lib.hid hnP
    replace hP := Lib.hid hP
    have cD1 := Lib.hid (fun (V : World) (g : Bl W7 V) => by have := rplace1 (rc := n2) cp AS kS RS false V hG ((E7.bl g).rowC) (hS7.bl g) (by have := hnS.out; omega); rw [← hnS.out] at this; exact this)
    have cD2 := Lib.hid (fun (V : World) (g : Bl W7 V) => by have := rplace1 (rc := n2) cp AS kS RS true V hG ((E7.bl g).rowC) (hS7.bl g) (by have := hnS.out; omega); rw [← hnS.out] at this; exact this)
    have cD3 := Lib.hid (fun (V : World) (g : Bl W7 V) => by have := rplace1 (rc := n2) cp AW cW LX false V hG ((E7.bl g).rowC) (hX7.bl g) (by have := hX5.out; omega); rw [← hmw.out] at this; exact this)
    have cSo := Lib.hid (fun (V : World) (g : Bl W7 V) => by have := psolid1 a1 a2 s1' l1 cp AS kS RS V (J7.bl g) hG.c32 hG.ly (hS7.bl g) (by have := hnS.out; omega); rw [← hnS.out] at this; exact this)
    have cP3 := Lib.hid (fun (V : World) (g : Bl W7 V) => by have := place1 a1 a2 s1' l1 cp AW cW LX V (J7.bl g) hG.ly (hX7.bl g) (by have := hX5.out; omega); rw [← hmw.out] at this; exact this)
    have SK7 := Lib.hid (fun (V : World) (g : Bl W7 V) => (show V.cell? ⟨bL, 0, none⟩ = some (.bool true) ∧ V.cell? ⟨bL, 1, none⟩ = some (.int .i64 W2) ∧ V.cell? ⟨bL, 2, none⟩ = some (.int .i64 H2) ∧ V.cell? ⟨bL, 3, none⟩ = some (.slice (some ⟨rb, 0, none⟩) n2 n2) ∧ V.cell? ⟨bL, 4, none⟩ = some (.int .i64 a1) ∧ V.cell? ⟨bL, 5, none⟩ = some (.int .i64 a2) ∧ V.cell? ⟨bL, 6, none⟩ = some (.int .i64 s1') ∧ V.cell? ⟨bL, 7, none⟩ = some (.int .i64 l1) ∧ V.cell? ⟨bL, 8, none⟩ = some (.int .i64 cp.a) ∧ V.cell? ⟨bL, 9, none⟩ = some (.int .i64 cp.b) ∧ V.cell? ⟨bL, 10, none⟩ = some (.int .i64 cp.c) ∧ V.cell? ⟨bL, 11, none⟩ = some (.int .i64 cp.d) ∧ V.cell? ⟨bP, 0, none⟩ = some (.pointer (some ⟨p2, 0, none⟩)) ∧ V.cell? ⟨bP, 1, none⟩ = some (.int .i64 a1) ∧ V.cell? ⟨bP, 2, none⟩ = some (.int .i64 a2) ∧ V.cell? ⟨bP, 3, none⟩ = some (.int .i64 s1') ∧ V.cell? ⟨bP, 4, none⟩ = some (.int .i64 l1) ∧ V.cell? ⟨bP, 5, none⟩ = some (.int .i64 cp.a) ∧ V.cell? ⟨bP, 6, none⟩ = some (.int .i64 cp.b) ∧ V.cell? ⟨bP, 7, none⟩ = some (.int .i64 cp.c) ∧ V.cell? ⟨bP, 8, none⟩ = some (.int .i64 cp.d) ∧ Bl W7 V from ⟨(L7.bl g).cell 0, (L7.bl g).cell 1, (L7.bl g).cell 2, (L7.bl g).cell 3, (L7.bl g).cell 4, (L7.bl g).cell 5, (L7.bl g).cell 6, (L7.bl g).cell 7, (L7.bl g).cell 8, (L7.bl g).cell 9, (L7.bl g).cell 10, (L7.bl g).cell 11, (P7.bl g).cell 0, (P7.bl g).cell 1, (P7.bl g).cell 2, (P7.bl g).cell 3, (P7.bl g).cell 4, (P7.bl g).cell 5, (P7.bl g).cell 6, (P7.bl g).cell 7, (P7.bl g).cell 8, g⟩))
    have cs1 := Lib.hid (fun (V : World) (A' : Option Addr) (k' : Nat) (D : List Rc) (B0 : Nat) (hQ : OfQ (gAx s1' a1) (gAx s1' a2) ((plS (plB cp F2 W2 l1 RS false) W2 (W2 * H2)).map (afR s1' a1 a2)) D) (hO : OwR V B0 A' k' D) (g : Bl W7 V) => by
      obtain ⟨R, hR, e⟩ := hP.out
      have := refsame1t AP A' kP k' RP D V (oP.rs.bl g) hO.rs (by rw [e, List.length_map]; exact Nat.le_trans (reg_len hR.reg hR.inr grid256) (by decide)) (e.trans (place_eq hG.b3.1 hG.w1 (hG.len.trans hG.hn) hR hQ))
      rw [← hnP.out] at this
      exact this)
    have cs2 := Lib.hid (fun (V : World) (A' : Option Addr) (k' : Nat) (M : List Rc) (B1 : Nat) (A'' : Option Addr) (k'' : Nat) (D : List Rc) (B0 : Nat) (hS : SoQ cp W2 H2 F2 s1' a1 a2 l1 RS M) (hQ : OfQ (gAx s1' a1) (gAx s1' a2) ((plS (plB cp F2 W2 l1 RS true) W2 (W2 * H2)).map (afR s1' a1 a2)) D) (hM : OwR V B1 A' k' M) (hO : OwR V B0 A'' k'' D) => by
      have hMD : M = D ∧ M.length ≤ 9000000000000000000 := by
        by_cases ha : l1 = 255
        · obtain ⟨R, S, T, h1, h2, h3, e⟩ := hS.2 ha
          exact ⟨e.trans (solid_eq hG.b3.1 hG.w1 (hG.len.trans hG.hn) ha h1 h2 h3 hQ), by rw [e, List.length_map]; exact Nat.le_trans (reg_len h3.reg h3.inr grid256) (by decide)⟩
        · rw [hS.1 ha, solid_nil ha hQ]
          exact ⟨rfl, Nat.zero_le _⟩
      exact refsame1t A' A'' k' k'' M D V hM.rs hO.rs hMD.2 hMD.1)
    have cs3 := Lib.hid (fun (V : World) (A' : Option Addr) (k' : Nat) (M : List Rc) (B1 : Nat) (A'' : Option Addr) (k'' : Nat) (D : List Rc) (B0 : Nat) (hS : PlQ cp W2 H2 s1' a1 a2 LX M) (hQ : OfQ (gAx s1' a1) (gAx s1' a2) ((plS (plB cp F2 W2 l1 LX false) W2 (W2 * H2)).map (afR s1' a1 a2)) D) (hM : OwR V B1 A' k' M) (hO : OwR V B0 A'' k'' D) => by
      obtain ⟨R, hR, e⟩ := hS
      exact refsame1t A' A'' k' k'' M D V hM.rs hO.rs (by rw [e, List.length_map]; exact Nat.le_trans (reg_len hR.reg hR.inr grid256) (by decide)) (e.trans (place_eq hG.b3.1 hG.w1 (hG.len.trans hG.hn) hR hQ)))
    generalize OfQ (gAx s1' a1) (gAx s1' a2) ((plS (plB cp F2 W2 l1 RS false) W2 (W2 * H2)).map (afR s1' a1 a2)) = PD1 at cD1 cs1
    generalize OfQ (gAx s1' a1) (gAx s1' a2) ((plS (plB cp F2 W2 l1 RS true) W2 (W2 * H2)).map (afR s1' a1 a2)) = PD2 at cD2 cs2
    generalize OfQ (gAx s1' a1) (gAx s1' a2) ((plS (plB cp F2 W2 l1 LX false) W2 (W2 * H2)).map (afR s1' a1 a2)) = PD3 at cD3 cs3
    generalize SoQ cp W2 H2 F2 s1' a1 a2 l1 RS = PS2 at cSo cs2
    generalize PlQ cp W2 H2 s1' a1 a2 LX = PP3 at cP3 cs3
    go_upto_region 7 with fail
    go_cut [65] (fun o wx => o = .bool false ∧ Bl W7 wx)
    case first =>
      clear hG hP hS7 hX7 J7 E7 P7 L7
      go_region_held3 (fun V => V.cell? ⟨bL, 0, none⟩ = some (.bool true) ∧ V.cell? ⟨bL, 1, none⟩ = some (.int .i64 W2) ∧ V.cell? ⟨bL, 2, none⟩ = some (.int .i64 H2) ∧ V.cell? ⟨bL, 3, none⟩ = some (.slice (some ⟨rb, 0, none⟩) n2 n2) ∧ V.cell? ⟨bL, 4, none⟩ = some (.int .i64 a1) ∧ V.cell? ⟨bL, 5, none⟩ = some (.int .i64 a2) ∧ V.cell? ⟨bL, 6, none⟩ = some (.int .i64 s1') ∧ V.cell? ⟨bL, 7, none⟩ = some (.int .i64 l1) ∧ V.cell? ⟨bL, 8, none⟩ = some (.int .i64 cp.a) ∧ V.cell? ⟨bL, 9, none⟩ = some (.int .i64 cp.b) ∧ V.cell? ⟨bL, 10, none⟩ = some (.int .i64 cp.c) ∧ V.cell? ⟨bL, 11, none⟩ = some (.int .i64 cp.d) ∧ V.cell? ⟨bP, 0, none⟩ = some (.pointer (some ⟨p2, 0, none⟩)) ∧ V.cell? ⟨bP, 1, none⟩ = some (.int .i64 a1) ∧ V.cell? ⟨bP, 2, none⟩ = some (.int .i64 a2) ∧ V.cell? ⟨bP, 3, none⟩ = some (.int .i64 s1') ∧ V.cell? ⟨bP, 4, none⟩ = some (.int .i64 l1) ∧ V.cell? ⟨bP, 5, none⟩ = some (.int .i64 cp.a) ∧ V.cell? ⟨bP, 6, none⟩ = some (.int .i64 cp.b) ∧ V.cell? ⟨bP, 7, none⟩ = some (.int .i64 cp.c) ∧ V.cell? ⟨bP, 8, none⟩ = some (.int .i64 cp.d) ∧ Bl W7 V) ((refine SK7.out _ ?_; repeat (first | with_reducible assumption | with_reducible exact Bl.refl _ | with_reducible exact (And.right (And.right (And.right (And.right (And.right (And.right (And.right (And.right (And.right (And.right (And.right (And.right (And.right (And.right (And.right (And.right (And.right (And.right (And.right (And.right (And.right (by assumption)))))))))))))))))))))) | with_reducible exact Bl.trans (And.right (And.right (And.right (And.right (And.right (And.right (And.right (And.right (And.right (And.right (And.right (And.right (And.right (And.right (And.right (And.right (And.right (And.right (And.right (And.right (And.right (by assumption)))))))))))))))))))))) (by assumption) | with_reducible exact Bl.gr (And.right (And.right (And.right (And.right (And.right (And.right (And.right (And.right (And.right (And.right (And.right (And.right (And.right (And.right (And.right (And.right (And.right (And.right (And.right (And.right (And.right (by assumption)))))))))))))))))))))) (by assumption) | with_reducible apply Bl.drew | with_reducible apply Bl.alloc))) ((first | (have gd := Od3; clear gd; go_at_call 56; (refine (cs3.out _ _ _ _ _ _ _ _ _ Qp3.out Qd3.out Os3.out (OwR.bl Od3.out (by first | with_reducible exact Bl.refl _ | with_reducible exact (Bl.refl _).drew | with_reducible exact (Bl.refl _).drew.drew))).mono ?_); rintro e Vh ⟨rfl, gh⟩; have Gh : Bl W7 Vh := Bl.gr (And.right (And.right (And.right (And.right (And.right (And.right (And.right (And.right (And.right (And.right (And.right (And.right (And.right (And.right (And.right (And.right (And.right (And.right (And.right (And.right (And.right (by assumption)))))))))))))))))))))) gh) | (have gd := Op3; clear gd; go_at_call 57; (refine (cD3.out _ (And.right (And.right (And.right (And.right (And.right (And.right (And.right (And.right (And.right (And.right (And.right (And.right (And.right (And.right (And.right (And.right (And.right (And.right (And.right (And.right (And.right (by assumption))))))))))))))))))))))).mono ?_); rintro e Vg ⟨Ad3, kd3, Dd3, rfl, oo3, Qd3, gg⟩; have Gg : Bl W7 Vg := Bl.trans (And.right (And.right (And.right (And.right (And.right (And.right (And.right (And.right (And.right (And.right (And.right (And.right (And.right (And.right (And.right (And.right (And.right (And.right (And.right (And.right (And.right (by assumption)))))))))))))))))))))) gg; have Os3 := Lib.hid (OwR.bl (OwR.bl Op3.out (by first | with_reducible exact Bl.refl _ | with_reducible exact (Bl.refl _).drew | with_reducible exact (Bl.refl _).drew.drew)) gg); have Od3 := Lib.hid oo3; replace Qd3 := Lib.hid Qd3; clear oo3) | (have gd := Ge; clear gd; go_at_call 55; (refine (cP3.out _ (And.right (And.right (And.right (And.right (And.right (And.right (And.right (And.right (And.right (And.right (And.right (And.right (And.right (And.right (And.right (And.right (And.right (And.right (And.right (And.right (And.right (by assumption))))))))))))))))))))))).mono ?_); rintro e Vf ⟨Ap3, kp3, Dp3, rfl, _, op3, Qp3, gf⟩; have Gf : Bl W7 Vf := Bl.trans (And.right (And.right (And.right (And.right (And.right (And.right (And.right (And.right (And.right (And.right (And.right (And.right (And.right (And.right (And.right (And.right (And.right (And.right (And.right (And.right (And.right (by assumption)))))))))))))))))))))) gf; have Op3 := Lib.hid op3; replace Qp3 := Lib.hid Qp3; clear op3) | (have gd := Od2; clear gd; go_at_call 56; (refine (cs2.out _ _ _ _ _ _ _ _ _ Qs2.out Qd2.out Ot2.out (OwR.bl Od2.out (by first | with_reducible exact Bl.refl _ | with_reducible exact (Bl.refl _).drew | with_reducible exact (Bl.refl _).drew.drew))).mono ?_); rintro e Ve ⟨rfl, ge⟩; have Ge : Bl W7 Ve := Bl.gr (And.right (And.right (And.right (And.right (And.right (And.right (And.right (And.right (And.right (And.right (And.right (And.right (And.right (And.right (And.right (And.right (And.right (And.right (And.right (And.right (And.right (by assumption)))))))))))))))))))))) ge) | (have gd := Os2; clear gd; go_at_call 57; (refine (cD2.out _ (And.right (And.right (And.right (And.right (And.right (And.right (And.right (And.right (And.right (And.right (And.right (And.right (And.right (And.right (And.right (And.right (And.right (And.right (And.right (And.right (And.right (by assumption))))))))))))))))))))))).mono ?_); rintro e Vd ⟨Ad2, kd2, Dd2, rfl, oo2, Qd2, gd⟩; have Gd : Bl W7 Vd := Bl.trans (And.right (And.right (And.right (And.right (And.right (And.right (And.right (And.right (And.right (And.right (And.right (And.right (And.right (And.right (And.right (And.right (And.right (And.right (And.right (And.right (And.right (by assumption)))))))))))))))))))))) gd; have Ot2 := Lib.hid (OwR.bl (OwR.bl Os2.out (by first | with_reducible exact Bl.refl _ | with_reducible exact (Bl.refl _).drew | with_reducible exact (Bl.refl _).drew.drew)) gd); have Od2 := Lib.hid oo2; replace Qd2 := Lib.hid Qd2; clear oo2) | (have gd := Gb; clear gd; go_at_call 58; (refine (cSo.out _ (And.right (And.right (And.right (And.right (And.right (And.right (And.right (And.right (And.right (And.right (And.right (And.right (And.right (And.right (And.right (And.right (And.right (And.right (And.right (And.right (And.right (by assumption))))))))))))))))))))))).mono ?_); rintro e Vc ⟨As2, ks2, Ds2, rfl, _, os2, Qs2, gc⟩; have Gc : Bl W7 Vc := Bl.trans (And.right (And.right (And.right (And.right (And.right (And.right (And.right (And.right (And.right (And.right (And.right (And.right (And.right (And.right (And.right (And.right (And.right (And.right (And.right (And.right (And.right (by assumption)))))))))))))))))))))) gc; have Os2 := Lib.hid os2; replace Qs2 := Lib.hid Qs2; clear os2) | (have gd := Od1; clear gd; go_at_call 56; (refine (cs1.out _ _ _ _ _ Qd1.out (OwR.bl Od1.out (by first | with_reducible exact Bl.refl _ | with_reducible exact (Bl.refl _).drew | with_reducible exact (Bl.refl _).drew.drew)) (And.right (And.right (And.right (And.right (And.right (And.right (And.right (And.right (And.right (And.right (And.right (And.right (And.right (And.right (And.right (And.right (And.right (And.right (And.right (And.right (And.right (by assumption))))))))))))))))))))))).mono ?_); rintro e Vb ⟨rfl, gb⟩; have Gb : Bl W7 Vb := Bl.gr (And.right (And.right (And.right (And.right (And.right (And.right (And.right (And.right (And.right (And.right (And.right (And.right (And.right (And.right (And.right (And.right (And.right (And.right (And.right (And.right (And.right (by assumption)))))))))))))))))))))) gb) | (go_at_call 57; (refine (cD1.out _ (And.right (And.right (And.right (And.right (And.right (And.right (And.right (And.right (And.right (And.right (And.right (And.right (And.right (And.right (And.right (And.right (And.right (And.right (And.right (And.right (And.right (by assumption))))))))))))))))))))))).mono ?_); rintro e Va ⟨Ad1, kd1, Dd1, rfl, oo1, Qd1, ga⟩; have Ga : Bl W7 Va := Bl.trans (And.right (And.right (And.right (And.right (And.right (And.right (And.right (And.right (And.right (And.right (And.right (And.right (And.right (And.right (And.right (And.right (And.right (And.right (And.right (And.right (And.right (by assumption)))))))))))))))))))))) ga; have Od1 := Lib.hid oo1; replace Qd1 := Lib.hid Qd1; clear oo1)))
      all_goals
        go_wp2
        go_meet
        exact ⟨rfl, Gh⟩
    case rest =>
      obtain ⟨rfl, G8⟩ := hcut
      obtain ⟨W8, rfl⟩ : ∃ V : World, V = wc := ⟨_, rfl⟩
      clear cD1 cD2 cD3 cSo cP3 cs1 cs2 cs3
      have hz0 : MayL (List.replicate 256 0) := fun c hc => by rw [List.eq_of_mem_replicate hc]; exact ⟨by unfold C32; omega, by decide⟩
      have cN : ∀ V : World, Calls Tryz.prog 27 #[.int .i64 16, .int .i64 16] V (fun e w' => ∃ b, e = .returned (.agg #[.int .i64 16, .int .i64 16, .slice (some ⟨b, 0, none⟩) 256 256]) ∧ At w' b (cC (List.replicate 256 0)) 52 ∧ V.heap.size ≤ b ∧ Gr V w') := fun V => refNew1 16 16 V (by decide) (by decide)
      have cB : ∀ (V : World) (b : Nat), RowN .u32 V b 0 (List.replicate 256 0) → Calls Tryz.prog 59 #[.agg #[.int .i64 16, .int .i64 16, .slice (some ⟨b, 0, none⟩) 256 256]] V (fun e w' => ∃ pm pc, e = .returned (.pointer (some ⟨pm, 0, none⟩)) ∧ Img w' pm pc 16 16 (List.replicate 256 0) ∧ V.heap.size ≤ pm ∧ V.heap.size ≤ pc ∧ Bl V w') := fun V b h => pbuild1 (W := 16) (H := 16) (c := 256) (L := List.replicate 256 0) V h (by simp) (by decide) (by decide) (by decide) (by decide) hz0
      replace cN := Lib.hid cN
      replace cB := Lib.hid cB
      go_wp2_with fail
      refine (cN.out _).mono ?_
      rintro e v9 ⟨bn, rfl, Cn, hbn, g9⟩
      go_wp2_with fail
      refine (cB.out _ bn Cn.rowC).mono ?_
      rintro e v10 ⟨pm, pc, rfl, I1, hpm, hpc, g10⟩
      go_wp2_with fail
      refine (cN.out _).mono ?_
      rintro e v11 ⟨bo, rfl, Co, hbo, g11⟩
      go_wp2_with fail
      refine (cB.out _ bo Co.rowC).mono ?_
      rintro e v12 ⟨po, co, rfl, I2, hpo, hco, g12⟩
      have G12 := ((G8.gr g9).trans g10).gr g11 |>.trans g12
      have I1' := (I1.gr g11).bl g12
      clear cN cB Cn Co
      have z7 : W7.heap.size ≤ v9.heap.size := (G8.gr g9).size
      have z11 : v10.heap.size ≤ v11.heap.size := g11.bl.size
      have z12 : v9.heap.size ≤ v10.heap.size := g10.size
      have lJ1 := J7.hd.lt
      have lJ2 := J7.cs.lt
      have lP := P7.lt
      have lm1 := I1.hd.lt
      have lm2 := I1.cs.lt
      have d1 : pm ≠ p2 := by omega
      have d2 : pm ≠ c2 := by omega
      have d3 : pc ≠ p2 := by omega
      have d4 : pc ≠ c2 := by omega
      have d5 : po ≠ p2 := by omega
      have d6 : po ≠ c2 := by omega
      have d7 : co ≠ p2 := by omega
      have d8 : co ≠ c2 := by omega
      have d9 : pm ≠ co := by omega
      have d10 : pc ≠ co := by omega
      have d11 : po ≠ pc := by omega
      have d12 : bP ≠ pc := by omega
      have d13 : bP ≠ co := by omega
      have d14 : bP ≠ c2 := At.neq2 P7 J7.cs (by decide)
      have s1 : W7.heap.size ≤ pc := by omega
      have s2 : w.heap.size ≤ pc := Nat.le_trans G7.size s1
      have s3 : w.heap.size ≤ co := by omega
      have Gw12 := G7.trans G12
      have P12 := P7.bl G12
      have J12 := J7.bl G12
      have oP12 := oP.bl G12
      have hFl := hG.len.trans hG.hn
      have hFm := hG.may
      have hLy := hG.ly
      have hs1 := hG.b3.1
      clear z7 z11 z12 lJ1 lJ2 lP lm1 lm2 hpm hpc hpo hco hp2 hc2 g9 g10 g11 g12 G8 I1 L7 E7 P7 J7 hX7 hG G7 oP
      have y0 : v12.cell? ⟨bP, 0, none⟩ = some (.pointer (some ⟨p2, 0, none⟩)) := P12.cell 0
      have A13 := At.new v12 #[.int .i64 0, .int .i64 0, .int .i64 16, .int .i64 16] 31
      have G13 := (Bl.refl v12).alloc (.cells #[.int .i64 0, .int .i64 0, .int .i64 16, .int .i64 16] 31)
      go_upto_region 14 with fail
      obtain ⟨V13, hV13⟩ : ∃ V, V = v12.alloc (.cells #[.int .i64 0, .int .i64 0, .int .i64 16, .int .i64 16] 31) := ⟨_, rfl⟩
      rw [← hV13] at A13 G13 ⊢
      obtain ⟨ba, hba⟩ : ∃ k, k = v12.heap.size := ⟨_, rfl⟩
      rw [← hba] at A13 ⊢
      clear hV13 hba y0
      have P13 := P12.bl G13
      have I13 := I1'.bl G13
      have O13 := I2.bl G13
      have J13 := J12.bl G13
      have GW13 := G12.trans G13
      have oP13 := oP12.bl G13
      have Gw13 := Gw12.trans G13
      clear P12 I1' I2 J12 oP12 Gw12 G12 G13
      have yg0 : V13.cell? ⟨bP, 0, none⟩ = some (.pointer (some ⟨p2, 0, none⟩)) := P13.cell 0
      have yg1 : V13.cell? ⟨bP, 1, none⟩ = some (.int .i64 a1) := P13.cell 1
      have yg2 : V13.cell? ⟨bP, 2, none⟩ = some (.int .i64 a2) := P13.cell 2
      have yg3 : V13.cell? ⟨bP, 3, none⟩ = some (.int .i64 s1') := P13.cell 3
      have yg4 : V13.cell? ⟨bP, 4, none⟩ = some (.int .i64 l1) := P13.cell 4
      have yg5 : V13.cell? ⟨bP, 5, none⟩ = some (.int .i64 cp.a) := P13.cell 5
      have yg6 : V13.cell? ⟨bP, 6, none⟩ = some (.int .i64 cp.b) := P13.cell 6
      have yg7 : V13.cell? ⟨bP, 7, none⟩ = some (.int .i64 cp.c) := P13.cell 7
      have yg8 : V13.cell? ⟨bP, 8, none⟩ = some (.int .i64 cp.d) := P13.cell 8
      have cM := pdrawU a1 a2 s1' l1 cp (some ⟨ba, 0, none⟩) 1 [(⟨0, 0, 16, 16⟩ : Rc)] V13 I13 J13 d1.symm d3.symm d4.symm hz0 hFm hLy hs1 (rs_oneP A13) (by simp)
      rw [show [(⟨0, 0, 16, 16⟩ : Rc)].length = 1 from rfl] at cM
      generalize drN cp W2 H2 s1' a1 a2 16 (List.replicate 256 0) [(⟨0, 0, 16, 16⟩ : Rc)] = NM at cM
      obtain ⟨XM, hXM⟩ : ∃ X, X = drL cp W2 H2 F2 s1' a1 a2 l1 16 (List.replicate 256 0) [(⟨0, 0, 16, 16⟩ : Rc)] := ⟨_, rfl⟩
      rw [← hXM] at cM
      replace hXM := Lib.hid hXM
      go_wp2_with fail
      refine cM.mono ?_
      rintro e v14 ⟨rfl, b14, I14⟩
      have P14 := P13.kept b14 (by simp; omega)
      have O14 := O13.kept b14 (by simp; omega) (by simp; omega)
      have J14 := J13.kept b14 (by simp; omega) (by simp; omega)
      have A14 := A13.kept b14 (fun e => At.neq2 A13 I13.cs (by decide) (Option.some.inj e))
      have hS14 := hS7.bl (GW13.row b14 s1)
      have oP14 := oP13.grown b14 (.inr (oP13.ne_at I13.cs (by decide)).symm)
      have Gw14 := Gw13.row b14 s2
      clear yg0 yg1 yg2 yg3 yg4 yg5 yg6 yg7 yg8 cM P13 O13 J13 A13 hS7 GW13 oP13 Gw13 I13 b14
      have y14 : v14.cell? ⟨bP, 0, none⟩ = some (.pointer (some ⟨p2, 0, none⟩)) := P14.cell 0
      have cG := Lib.hid (fun (V : World) => cgood1 q V hq)
      have cC := Lib.hid (fun (V : World) (g : Bl v14 V) => by
        have := (pclearU (gd q) AS kS RS V (gd_c32 q) (J14.bl g) (hS14.bl g) (by have := hnS.out; omega)).mono (R' := fun e w' => (∃ k : Int, e = .returned (.int .i64 k)) ∧ ∃ V : World, Bl v14 V ∧ V.grownBy w' (some c2) ∧ Img w' p2 c2 W2 H2 (clL (gd q) W2 F2 RS) ∧ w'.cell? ⟨bP, 0, none⟩ = some (.pointer (some ⟨p2, 0, none⟩))) (fun e w' h => ⟨⟨_, h.1⟩, V, g, h.2.1, h.2.2, ((P14.bl g).kept h.2.1 (by simp; omega)).cell 0⟩)
        rw [← hnS.out] at this
        exact this)
      obtain ⟨XC, hXC⟩ : ∃ X, X = clL (gd q) W2 F2 RS := ⟨_, rfl⟩
      rw [← hXC] at cC
      replace hXC := Lib.hid hXC
      have g14 := Bl.refl v14
      go_upto_region 15 with fail
      go_cut [92] (fun o wx => ∃ (V : World), Bl v14 V ∧ V.grownBy wx (some c2) ∧ Img wx p2 c2 W2 H2 XC)
      case first =>
        go_region_held3 (fun V => V.cell? ⟨bP, 0, none⟩ = some (.pointer (some ⟨p2, 0, none⟩))) (assumption) ((first
          | (go_at_call 61; (refine (cC.out _ (by first | with_reducible exact Gg | with_reducible exact Gg.drew | with_reducible exact Gg.drew.drew)).mono ?_); rintro e Vc ⟨⟨kc, rfl⟩, V5, gV5, b5, J5', y5⟩)
          | (go_at_call 62; (refine (cG.out _).mono ?_); rintro e Vg ⟨rfl, gg⟩; have Gg : Bl v14 Vg := (by first | with_reducible exact Bl.gr (Bl.refl _) gg | with_reducible exact Bl.gr (Bl.refl _).drew gg | with_reducible exact Bl.gr (Bl.refl _).drew.drew gg); have yg := (P14.bl Gg).cell 0)))
        all_goals
          go_wp2
          go_meet
          exact ⟨V5, gV5, b5, J5'⟩
      case rest =>
        obtain ⟨V5, gV, b15, J15⟩ := hcut
        obtain ⟨v15, rfl⟩ : ∃ V : World, V = wc := ⟨_, rfl⟩
        have P15 := (P14.bl gV).kept b15 (by simp; omega)
        have I15 := (I14.bl gV).kept b15 (by simp; omega) (by simp; omega)
        have O15 := (O14.bl gV).kept b15 (by simp; omega) (by simp; omega)
        have A15 := (A14.bl gV).kept b15 (fun e => At.neq2 (A14.bl gV) (J14.bl gV).cs (by decide) (Option.some.inj e))
        have oP15 := (oP14.bl gV).grown b15 (.inr ((oP14.bl gV).ne_at (J14.bl gV).cs (by decide)).symm)
        have Gw15 := (Gw14.trans gV).row b15 hcw
        clear y14 cG cC g14 P14 I14 O14 J14 A14 hS14 oP14 Gw14 gV b15
        have yh0 : v15.cell? ⟨bP, 0, none⟩ = some (.pointer (some ⟨p2, 0, none⟩)) := P15.cell 0
        have yh1 : v15.cell? ⟨bP, 1, none⟩ = some (.int .i64 a1) := P15.cell 1
        have yh2 : v15.cell? ⟨bP, 2, none⟩ = some (.int .i64 a2) := P15.cell 2
        have yh3 : v15.cell? ⟨bP, 3, none⟩ = some (.int .i64 s1') := P15.cell 3
        have yh4 : v15.cell? ⟨bP, 4, none⟩ = some (.int .i64 l1) := P15.cell 4
        have yh5 : v15.cell? ⟨bP, 5, none⟩ = some (.int .i64 cp.a) := P15.cell 5
        have yh6 : v15.cell? ⟨bP, 6, none⟩ = some (.int .i64 cp.b) := P15.cell 6
        have yh7 : v15.cell? ⟨bP, 7, none⟩ = some (.int .i64 cp.c) := P15.cell 7
        have yh8 : v15.cell? ⟨bP, 8, none⟩ = some (.int .i64 cp.d) := P15.cell 8
        have cO := pdrawU a1 a2 s1' l1 cp (some ⟨ba, 0, none⟩) 1 [(⟨0, 0, 16, 16⟩ : Rc)] v15 O15 J15 d5.symm d7.symm d8.symm hz0 (by rw [hXC.out]; exact clL_mayL (gd_c32 q) hFm) hLy hs1 (rs_oneP A15) (by simp)
        rw [show [(⟨0, 0, 16, 16⟩ : Rc)].length = 1 from rfl] at cO
        generalize drN cp W2 H2 s1' a1 a2 16 (List.replicate 256 0) [(⟨0, 0, 16, 16⟩ : Rc)] = NO at cO
        obtain ⟨XO, hXO⟩ : ∃ X, X = drL cp W2 H2 XC s1' a1 a2 l1 16 (List.replicate 256 0) [(⟨0, 0, 16, 16⟩ : Rc)] := ⟨_, rfl⟩
        rw [← hXO] at cO
        replace hXO := Lib.hid hXO
        go_upto_region 16 with fail
        rename_i K16 hK16
        replace hK16 := Lib.hid hK16
        go_wp2_with fail
        refine cO.mono ?_
        rintro e v16 ⟨rfl, b16, O16⟩
        have I16 := (I15.kept b16 (by simp; omega) (by simp; omega)).x
        have hP16 := (oP15.grown b16 (.inr (oP15.ne_at O15.cs (by decide)).symm)).rs
        have Gw16 := Gw15.row b16 s3
        replace O16 := O16.x
        obtain ⟨hRl, hAp⟩ := places_has hP.out hXM.out hXO.out hXC.out hFl hs1
        have cH : ∀ (V : World) (x y : Int), Bl v16 V → Calls Tryz.prog 20 #[.slice AP nP kP, .int .i64 x, .int .i64 y] V (Rt V (.bool (hasL RP x y))) := by
          intro V x y g
          have h8 := refHas1 AP kP RP x y V (hP16.bl g) hRl
          rw [← hnP.out] at h8
          exact h8
        replace hAp := Lib.hid hAp
        go_wp2_with fail
        exact hK16.out _ _ (pplaces_loop w v16 AP nP kP _ _ _ _ XM XO RP I16 O16 Gw16 cH hAp _ _ _ _ _ _ _ _ _ _ _ _ _ _ _ _ _ _ _ _ _ _ _ _ _ _ _ _ _ _ _ _ _ _ _ _ _ _ _ _ _ _ _ _ _ _ _ _ _ _ _ _ _ _ _ _ _ _ _ _ _ _ _ _ _ _ _ _ _ _ _ _ _ _ _ _ _ _ _ _ _ _ _ _ _ _ _ _ _ _ _ _ _ _ _ _ _ _ _ _ _ _ _ _ _ _ _ _ _ _ _ _ _ _ _ _ _ _ _ _ _ _ _ _ _ _ _ _ _)

end Go.Proofs.YtablogiielclaaaGreat
