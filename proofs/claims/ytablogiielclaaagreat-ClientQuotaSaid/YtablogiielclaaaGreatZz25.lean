/-
  What is proved: what changed, Box and Hides of package surface hand back, of whole states. No conditions but what states are good for. how a surface of the program lies, and what its Commit makes of it. No conditions but what surfaces are good for. what Commit of package surface makes of a whole surface. No conditions but what surfaces are good for.
-/
import Derived.Test.YtablogiielclaaaGreatZz22
import Derived.Test.YtablogiielclaaaGreatZz21
import Derived.Test.YtablogiielclaaaGreatZz24
import Derived.Test.YtablogiielclaaaGreatZz8
namespace Go.Proofs.YtablogiielclaaaGreat
open Go.RowKit Go.Sort Go.Deep

theorem rs_two {w : World} {b : Nat} {a0 b0 c0 d0 a1 b1 c1 d1 : Int} (h : At w b #[.int .i64 a0, .int .i64 b0, .int .i64 c0, .int .i64 d0, .int .i64 a1, .int .i64 b1, .int .i64 c1, .int .i64 d1] 31) : Rs w (some ⟨b, 0, none⟩) [⟨a0, b0, c0, d0⟩, ⟨a1, b1, c1, d1⟩] := by
  refine .inr ⟨b, 0, rfl, fun k r hk => ?_⟩
  match k, hk with
  | 0, hk =>
    cases hk
    exact ⟨by simpa using h.cell 0, by simpa using h.cell 1, by simpa using h.cell 2, by simpa using h.cell 3⟩
  | 1, hk =>
    cases hk
    exact ⟨by simpa using h.cell 4, by simpa using h.cell 5, by simpa using h.cell 6, by simpa using h.cell 7⟩
theorem box_bd {T : Tq} (h : GoodT T) : Bd (boxT T).a ∧ Bd (boxT T).b ∧ Bd (boxT T).c ∧ Bd (boxT T).d := by
  unfold boxT
  split
  · rename_i hs
    obtain ⟨h1, h2, _, _, h5, h6, h7, h8, h9, h10⟩ := lmay_bd (h.ly hs)
    obtain ⟨o1, o2, o3, o4, o5, o6⟩ := ownR_bd T.cp T.W T.H
    have hW := (h.w1 hs).2
    have hH := (h.h1 hs).2
    unfold lyBox
    generalize ownR T.cp T.W T.H = q at *
    have m1 := Int.mul_le_mul_of_nonneg_right o2 (show (0 : Int) ≤ T.s by omega)
    have m2 := Int.mul_le_mul_of_nonneg_right o3 (show (0 : Int) ≤ T.s by omega)
    have m3 := Int.mul_nonneg o1 (show (0 : Int) ≤ T.s by omega)
    have m4 := Int.mul_le_mul_of_nonneg_right o5 (show (0 : Int) ≤ T.s by omega)
    have m5 := Int.mul_le_mul_of_nonneg_right o6 (show (0 : Int) ≤ T.s by omega)
    have m6 := Int.mul_nonneg o4 (show (0 : Int) ≤ T.s by omega)
    split
    · simp [Bd]
    · unfold Bd
      dsimp only
      omega
  · simp [Bd]

theorem sfmayT {px : Option Addr} {T : Tq} (w : World) (h : StQ w px T) (g : GoodT T) (gp : GoodP13 T) : ∀ w', Bl w w' → Calls Tryz.prog 83 #[.agg #[.pointer px, .int .i64 T.ax, .int .i64 T.ay, .int .i64 T.s, .int .i64 T.al, .int .i64 T.cp.a, .int .i64 T.cp.b, .int .i64 T.cp.c, .int .i64 T.cp.d]] w' (Rt w' (.bool T.so)) := fun w' gw => by
  have hx := gp.x
  have hy := gp.y
  have hs := gp.s
  cases e : T.so with
  | false =>
    rw [h.no e]
    exact pmayN T.ax T.ay T.s T.al T.cp w'
  | true =>
    obtain ⟨pm, pc, Sp, rfl, hI⟩ := h.im e
    have := pmay1X T.ax T.ay T.s T.al T.cp w' (hI.bl gw) (by unfold I64; omega) (by unfold I64; omega) (by unfold I64; omega)
    rw [g.ly e] at this
    exact this
theorem sfbox1 {px : Option Addr} {T : Tq} (A : Option Addr) (n c : Nat) (w : World) (h : StQ w px T) (g : GoodT T) (gp : GoodP13 T) :
    Calls Tryz.prog 105 #[.agg #[.pointer px, .int .i64 T.ax, .int .i64 T.ay, .int .i64 T.s, .int .i64 T.al, .int .i64 T.cp.a, .int .i64 T.cp.b, .int .i64 T.cp.c, .int .i64 T.cp.d, .slice A n c, .string ⟨#[]⟩]] w (RZ w (.agg #[.int .i64 (boxT T).a, .int .i64 (boxT T).b, .int .i64 (boxT T).c, .int .i64 (boxT T).d])) := by
  refine sfboxG px T.ax T.ay T.s T.al T.cp.a T.cp.b T.cp.c T.cp.d A n c _ w T.so _ _ _ _ (sfmayT w h g gp) (fun e w' gw => ?_) (fun e => ?_)
  · obtain ⟨pm, pc, Sp, rfl, hI⟩ := h.im e
    have := pbox1X T.ax T.ay T.s T.al T.cp w' (hI.bl gw) (g.ly e)
    unfold boxT
    rw [if_pos e]
    exact this
  · unfold boxT
    rw [if_neg (by simp [e])]
    exact ⟨rfl, rfl, rfl, rfl⟩
/-- What Hides tells. -/
def HiQ (T : Tq) (R : List Rc) : Prop := Rgn R fun x y => T.so && (T.al == 255 && placeP T T.op x y)
theorem sfalike1 {px pu : Option Addr} {T U : Tq} (A1 : Option Addr) (n1 c1 : Nat) (A2 : Option Addr) (n2 c2 : Nat) (w : World) (h : StQ w px T) (k : StQ w pu U) :
    Calls Tryz.prog 145 #[.agg #[.pointer px, .int .i64 T.ax, .int .i64 T.ay, .int .i64 T.s, .int .i64 T.al, .int .i64 T.cp.a, .int .i64 T.cp.b, .int .i64 T.cp.c, .int .i64 T.cp.d, .slice A1 n1 c1, .string ⟨#[]⟩], .agg #[.pointer pu, .int .i64 U.ax, .int .i64 U.ay, .int .i64 U.s, .int .i64 U.al, .int .i64 U.cp.a, .int .i64 U.cp.b, .int .i64 U.cp.c, .int .i64 U.cp.d, .slice A2 n2 c2, .string ⟨#[]⟩]] w (RZ w (.bool (alikeT T U))) := by
  unfold alikeT
  cases e : T.so with
  | false =>
    rw [h.no e]
    exact sfalikeA _ _ _ _ _ _ _ _ _ _ _ _ _ _ _ _ _ _ _ _ _ _ _ _ _ w
  | true =>
    obtain ⟨m1, o1, Sp1, rfl, hI1⟩ := h.im e
    cases f : U.so with
    | false =>
      rw [k.no f]
      exact sfalikeB m1 _ _ _ _ _ _ _ _ _ _ _ _ _ _ _ _ _ _ _ _ _ _ _ _ w
    | true =>
      obtain ⟨m2, o2, Sp2, rfl, hI2⟩ := k.im f
      have := sfalikeC T.ax T.ay T.s T.al T.cp.a T.cp.b T.cp.c T.cp.d A1 n1 c1 (.string ⟨#[]⟩) U.ax U.ay U.s U.al U.cp.a U.cp.b U.cp.c U.cp.d A2 n2 c2 (.string ⟨#[]⟩) w hI1 hI2
      have hc : (T.cp = U.cp) ↔ (T.cp.a = U.cp.a ∧ T.cp.b = U.cp.b ∧ T.cp.c = U.cp.c ∧ T.cp.d = U.cp.d) := by
        cases T.cp; cases U.cp; simp
      simp only [Bool.true_and, hc]
      exact this

/-- What two states' commit damages. -/
def dmP (T U : Tq) (C : List Rc) (x y : Int) : Bool := if alikeT T U = true then placeP U C x y else (hasB (boxT T).a (boxT T).b (boxT T).c (boxT T).d x y || hasB (boxT U).a (boxT U).b (boxT U).c (boxT U).d x y)
def DmQ (T U : Tq) (C R : List Rc) : Prop := Rgn R (dmP T U C)
theorem of_two {T U : Tq} (g : GoodT T) (k : GoodT U) (B : Option Addr) (w : World) (hB : Rs w B [boxT T, boxT U]) :
    Calls Tryz.prog 98 #[.slice B 2 2] w (RR w (fun R => Rgn R (fun x y => hasB (boxT T).a (boxT T).b (boxT T).c (boxT T).d x y || hasB (boxT U).a (boxT U).b (boxT U).c (boxT U).d x y))) := by
  obtain ⟨t1, t2, t3, t4⟩ := box_bd g
  obtain ⟨u1, u2, u3, u4⟩ := box_bd k
  have hg : Grid [(boxT T).a, (boxT T).c, (boxT U).a, (boxT U).c] [(boxT T).b, (boxT T).d, (boxT U).b, (boxT U).d] := ⟨by simp, by simp, fun x hx => by
    unfold Bd at *
    simp only [List.mem_cons, List.mem_nil_iff, or_false] at hx
    unfold I64
    rcases hx with rfl | rfl | rfl | rfl <;> omega⟩
  refine (of1 2 B 2 [boxT T, boxT U] _ _ w (by simp) (by simp) (by simp) (by omega) hB hg (fun r hr _ => ?_)).mono ?_
  · simp only [List.mem_cons, List.mem_nil_iff, or_false] at hr
    rcases hr with rfl | rfl <;> simp
  · rintro e w' ⟨A', c', R, rfl, o, q, g'⟩
    exact ⟨A', c', R, rfl, o, ⟨q.reg, fun x y => by rw [q.has]; simp [hasL]⟩, g'⟩
set_option maxRecDepth 100000 in
set_option maxHeartbeats 4000000 in
theorem sfchanged1 {px pu : Option Addr} {T U : Tq} (A1 : Option Addr) (n1 c1 : Nat) (A2 : Option Addr) (n2 c2 : Nat) (AC : Option Addr) (cC : Nat) (C : List Rc) (w : World) (h : StQ w px T) (k : StQ w pu U) (gT : GoodT T) (gU : GoodT U) (pT : GoodP13 T) (pU : GoodP13 U) (hC : Rs w AC C) (hl : C.length ≤ 1000000) :
    Calls Tryz.prog 87 #[.agg #[.pointer px, .int .i64 T.ax, .int .i64 T.ay, .int .i64 T.s, .int .i64 T.al, .int .i64 T.cp.a, .int .i64 T.cp.b, .int .i64 T.cp.c, .int .i64 T.cp.d, .slice A1 n1 c1, .string ⟨#[]⟩], .agg #[.pointer pu, .int .i64 U.ax, .int .i64 U.ay, .int .i64 U.s, .int .i64 U.al, .int .i64 U.cp.a, .int .i64 U.cp.b, .int .i64 U.cp.c, .int .i64 U.cp.d, .slice A2 n2 c2, .string ⟨#[]⟩], .slice AC C.length cC] w (WQ w (DmQ T U C)) := by
  have G0 := ((Bl.refl w).alloc (.cells #[.pointer px, .int .i64 T.ax, .int .i64 T.ay, .int .i64 T.s, .int .i64 T.al, .int .i64 T.cp.a, .int .i64 T.cp.b, .int .i64 T.cp.c, .int .i64 T.cp.d, .slice A1 n1 c1, .string ⟨#[]⟩] 60)).alloc (.cells #[.pointer pu, .int .i64 U.ax, .int .i64 U.ay, .int .i64 U.s, .int .i64 U.al, .int .i64 U.cp.a, .int .i64 U.cp.b, .int .i64 U.cp.c, .int .i64 U.cp.d, .slice A2 n2 c2, .string ⟨#[]⟩] 60)
  have SA := (At.new w #[.pointer px, .int .i64 T.ax, .int .i64 T.ay, .int .i64 T.s, .int .i64 T.al, .int .i64 T.cp.a, .int .i64 T.cp.b, .int .i64 T.cp.c, .int .i64 T.cp.d, .slice A1 n1 c1, .string ⟨#[]⟩] 60).alloc (.cells #[.pointer pu, .int .i64 U.ax, .int .i64 U.ay, .int .i64 U.s, .int .i64 U.al, .int .i64 U.cp.a, .int .i64 U.cp.b, .int .i64 U.cp.c, .int .i64 U.cp.d, .slice A2 n2 c2, .string ⟨#[]⟩] 60)
  have SB := At.newAt (w := w.alloc (.cells #[.pointer px, .int .i64 T.ax, .int .i64 T.ay, .int .i64 T.s, .int .i64 T.al, .int .i64 T.cp.a, .int .i64 T.cp.b, .int .i64 T.cp.c, .int .i64 T.cp.d, .slice A1 n1 c1, .string ⟨#[]⟩] 60)) (n := w.heap.size + 1) (by simp) #[.pointer pu, .int .i64 U.ax, .int .i64 U.ay, .int .i64 U.s, .int .i64 U.al, .int .i64 U.cp.a, .int .i64 U.cp.b, .int .i64 U.cp.c, .int .i64 U.cp.d, .slice A2 n2 c2, .string ⟨#[]⟩] 60
  have cA := Lib.hid (fun (V : World) (g : Bl w V) => sfalike1 A1 n1 c1 A2 n2 c2 V (h.bl g) (k.bl g))
  have cT := Lib.hid (fun (V : World) (g : Bl ((w.alloc (.cells #[.pointer px, .int .i64 T.ax, .int .i64 T.ay, .int .i64 T.s, .int .i64 T.al, .int .i64 T.cp.a, .int .i64 T.cp.b, .int .i64 T.cp.c, .int .i64 T.cp.d, .slice A1 n1 c1, .string ⟨#[]⟩] 60)).alloc (.cells #[.pointer pu, .int .i64 U.ax, .int .i64 U.ay, .int .i64 U.s, .int .i64 U.al, .int .i64 U.cp.a, .int .i64 U.cp.b, .int .i64 U.cp.c, .int .i64 U.cp.d, .slice A2 n2 c2, .string ⟨#[]⟩] 60)) V) => sfbox1 A1 n1 c1 V (h.bl (G0.trans g)) gT pT)
  have cU := Lib.hid (fun (V : World) (g : Bl ((w.alloc (.cells #[.pointer px, .int .i64 T.ax, .int .i64 T.ay, .int .i64 T.s, .int .i64 T.al, .int .i64 T.cp.a, .int .i64 T.cp.b, .int .i64 T.cp.c, .int .i64 T.cp.d, .slice A1 n1 c1, .string ⟨#[]⟩] 60)).alloc (.cells #[.pointer pu, .int .i64 U.ax, .int .i64 U.ay, .int .i64 U.s, .int .i64 U.al, .int .i64 U.cp.a, .int .i64 U.cp.b, .int .i64 U.cp.c, .int .i64 U.cp.d, .slice A2 n2 c2, .string ⟨#[]⟩] 60)) V) => sfbox1 A2 n2 c2 V (k.bl (G0.trans g)) gU pU)
  have cO := Lib.hid (fun (V : World) (B : Option Addr) (hB : Rs V B [boxT T, boxT U]) => of_two gT gU B V hB)
  have cP := Lib.hid (fun (e : U.so = true) (V : World) (g : Bl w V) => by
    obtain ⟨pm, pc, Sp, hp, hI⟩ := k.im e
    have := place1X U.ax U.ay U.s U.al U.cp AC cC C V (hI.bl g) (gU.ly e) (hC.bl g) hl
    rw [← hp] at this
    exact this)
  obtain ⟨b, hb⟩ : ∃ b, b = alikeT T U := ⟨_, rfl⟩
  have hbT := Lib.hid (fun (h : alikeT T U = true) => (show U.so = true from by
    unfold alikeT at h
    cases T.so <;> cases hu : U.so <;> simp_all))
  have finT := Lib.hid (fun (R : List Rc) (e : U.so = true) (hb : alikeT T U = true) (q : PlQ U.cp U.W U.H U.s U.ax U.ay C R) => (show DmQ T U C R from (plq_rgn (lmay_bd (gU.ly e)).1 q).to fun x y => by unfold dmP; rw [if_pos hb]; rfl))
  have finF := Lib.hid (fun (R : List Rc) (hb : alikeT T U = false) (q : Rgn R (fun x y => hasB (boxT T).a (boxT T).b (boxT T).c (boxT T).d x y || hasB (boxT U).a (boxT U).b (boxT U).c (boxT U).d x y)) => (show DmQ T U C R from q.to fun x y => by unfold dmP; rw [if_neg (by simp [hb])]))
  rw [← hb] at cA
  replace hb := Lib.hid hb
  generalize DmQ T U C = PD at *
  generalize C.length = nC at *
  clear h k gT gU pT pU hC
  go_enter Tryz.func87, Tryz.ntmps87
  go_wp2_with fail
  refine (cA.out _ G0).mono ?_
  rintro e v1 ⟨rfl, g1⟩
  cases b with
  | true =>
    have e := hbT.out hb.out.symm
    have s0 := (SB.bl g1).cell 0; have s1 := (SB.bl g1).cell 1; have s2 := (SB.bl g1).cell 2; have s3 := (SB.bl g1).cell 3; have s4 := (SB.bl g1).cell 4; have s5 := (SB.bl g1).cell 5; have s6 := (SB.bl g1).cell 6; have s7 := (SB.bl g1).cell 7; have s8 := (SB.bl g1).cell 8; have s9 := (SB.bl g1).cell 9; have s10 := (SB.bl g1).cell 10
    go_wp2_with fail
    refine (sflayer1 _ _ _ _ _ _ _ _ _ _ _ _ _ _).mono ?_
    rintro e' v2 ⟨rfl, g2⟩
    go_wp2_with fail
    refine (cP.out e _ ((G0.trans g1).gr g2)).mono ?_
    rintro e' v3 ⟨A3, c3, R3, rfl, hl3, o3, hQ3, g3⟩
    have G3 := ((G0.trans g1).gr g2)
    go_wp2
    go_ret
    exact ⟨A3, c3, R3, rfl, hl3, o3.base G3.size, finT.out _ e hb.out.symm hQ3, G3.trans g3⟩
  | false =>
    have G1 := G0.trans g1
    generalize hW : (w.alloc (.cells #[.pointer px, .int .i64 T.ax, .int .i64 T.ay, .int .i64 T.s, .int .i64 T.al, .int .i64 T.cp.a, .int .i64 T.cp.b, .int .i64 T.cp.c, .int .i64 T.cp.d, .slice A1 n1 c1, .string ⟨#[]⟩] 60)).alloc (.cells #[.pointer pu, .int .i64 U.ax, .int .i64 U.ay, .int .i64 U.s, .int .i64 U.al, .int .i64 U.cp.a, .int .i64 U.cp.b, .int .i64 U.cp.c, .int .i64 U.cp.d, .slice A2 n2 c2, .string ⟨#[]⟩] 60) = W0 at *
    replace SA := SA.bl g1
    replace SB := SB.bl g1
    have cT2 := Lib.hid (fun (V : World) (g : Bl v1 V) => cT.out V (g1.trans g))
    have cU2 := Lib.hid (fun (V : World) (g : Bl v1 V) => cU.out V (g1.trans g))
    clear cT cU
    have SK := Lib.hid (fun (V : World) (g : Bl v1 V) => (show V.cell? ⟨w.heap.size, 0, none⟩ = some (.pointer px) ∧ V.cell? ⟨w.heap.size, 1, none⟩ = some (.int .i64 T.ax) ∧ V.cell? ⟨w.heap.size, 2, none⟩ = some (.int .i64 T.ay) ∧ V.cell? ⟨w.heap.size, 3, none⟩ = some (.int .i64 T.s) ∧ V.cell? ⟨w.heap.size, 4, none⟩ = some (.int .i64 T.al) ∧ V.cell? ⟨w.heap.size, 5, none⟩ = some (.int .i64 T.cp.a) ∧ V.cell? ⟨w.heap.size, 6, none⟩ = some (.int .i64 T.cp.b) ∧ V.cell? ⟨w.heap.size, 7, none⟩ = some (.int .i64 T.cp.c) ∧ V.cell? ⟨w.heap.size, 8, none⟩ = some (.int .i64 T.cp.d) ∧ V.cell? ⟨w.heap.size, 9, none⟩ = some (.slice A1 n1 c1) ∧ V.cell? ⟨w.heap.size, 10, none⟩ = some (.string ⟨#[]⟩) ∧ V.cell? ⟨(w.heap.size + 1), 0, none⟩ = some (.pointer pu) ∧ V.cell? ⟨(w.heap.size + 1), 1, none⟩ = some (.int .i64 U.ax) ∧ V.cell? ⟨(w.heap.size + 1), 2, none⟩ = some (.int .i64 U.ay) ∧ V.cell? ⟨(w.heap.size + 1), 3, none⟩ = some (.int .i64 U.s) ∧ V.cell? ⟨(w.heap.size + 1), 4, none⟩ = some (.int .i64 U.al) ∧ V.cell? ⟨(w.heap.size + 1), 5, none⟩ = some (.int .i64 U.cp.a) ∧ V.cell? ⟨(w.heap.size + 1), 6, none⟩ = some (.int .i64 U.cp.b) ∧ V.cell? ⟨(w.heap.size + 1), 7, none⟩ = some (.int .i64 U.cp.c) ∧ V.cell? ⟨(w.heap.size + 1), 8, none⟩ = some (.int .i64 U.cp.d) ∧ V.cell? ⟨(w.heap.size + 1), 9, none⟩ = some (.slice A2 n2 c2) ∧ V.cell? ⟨(w.heap.size + 1), 10, none⟩ = some (.string ⟨#[]⟩) ∧ Bl v1 V from ⟨((SA).bl g).cell 0, ((SA).bl g).cell 1, ((SA).bl g).cell 2, ((SA).bl g).cell 3, ((SA).bl g).cell 4, ((SA).bl g).cell 5, ((SA).bl g).cell 6, ((SA).bl g).cell 7, ((SA).bl g).cell 8, ((SA).bl g).cell 9, ((SA).bl g).cell 10, ((SB).bl g).cell 0, ((SB).bl g).cell 1, ((SB).bl g).cell 2, ((SB).bl g).cell 3, ((SB).bl g).cell 4, ((SB).bl g).cell 5, ((SB).bl g).cell 6, ((SB).bl g).cell 7, ((SB).bl g).cell 8, ((SB).bl g).cell 9, ((SB).bl g).cell 10, g⟩))
    go_upto_region 3 with fail
    go_region_held3 (fun V => V.cell? ⟨w.heap.size, 0, none⟩ = some (.pointer px) ∧ V.cell? ⟨w.heap.size, 1, none⟩ = some (.int .i64 T.ax) ∧ V.cell? ⟨w.heap.size, 2, none⟩ = some (.int .i64 T.ay) ∧ V.cell? ⟨w.heap.size, 3, none⟩ = some (.int .i64 T.s) ∧ V.cell? ⟨w.heap.size, 4, none⟩ = some (.int .i64 T.al) ∧ V.cell? ⟨w.heap.size, 5, none⟩ = some (.int .i64 T.cp.a) ∧ V.cell? ⟨w.heap.size, 6, none⟩ = some (.int .i64 T.cp.b) ∧ V.cell? ⟨w.heap.size, 7, none⟩ = some (.int .i64 T.cp.c) ∧ V.cell? ⟨w.heap.size, 8, none⟩ = some (.int .i64 T.cp.d) ∧ V.cell? ⟨w.heap.size, 9, none⟩ = some (.slice A1 n1 c1) ∧ V.cell? ⟨w.heap.size, 10, none⟩ = some (.string ⟨#[]⟩) ∧ V.cell? ⟨(w.heap.size + 1), 0, none⟩ = some (.pointer pu) ∧ V.cell? ⟨(w.heap.size + 1), 1, none⟩ = some (.int .i64 U.ax) ∧ V.cell? ⟨(w.heap.size + 1), 2, none⟩ = some (.int .i64 U.ay) ∧ V.cell? ⟨(w.heap.size + 1), 3, none⟩ = some (.int .i64 U.s) ∧ V.cell? ⟨(w.heap.size + 1), 4, none⟩ = some (.int .i64 U.al) ∧ V.cell? ⟨(w.heap.size + 1), 5, none⟩ = some (.int .i64 U.cp.a) ∧ V.cell? ⟨(w.heap.size + 1), 6, none⟩ = some (.int .i64 U.cp.b) ∧ V.cell? ⟨(w.heap.size + 1), 7, none⟩ = some (.int .i64 U.cp.c) ∧ V.cell? ⟨(w.heap.size + 1), 8, none⟩ = some (.int .i64 U.cp.d) ∧ V.cell? ⟨(w.heap.size + 1), 9, none⟩ = some (.slice A2 n2 c2) ∧ V.cell? ⟨(w.heap.size + 1), 10, none⟩ = some (.string ⟨#[]⟩) ∧ Bl v1 V) ((refine SK.out _ ?_; repeat (first | with_reducible assumption | with_reducible exact Bl.refl _ | with_reducible exact K1 | with_reducible exact K2 | with_reducible exact K3 | with_reducible refine Bl.drew ?_ | with_reducible refine Bl.alloc ?_ _ | (with_reducible refine Bl.st1 ?_ ?_ _; rotate_left; (first | with_reducible exact Nat.le_refl _ | (simp; omega) | omega))))) ((first | (have gd := K2; clear gd; go_at_call 98; (refine (cO.out _ _ (by first | with_reducible exact rs_two (At.new _ _ _) | with_reducible exact rs_two (At.new _ _ _).drew)).mono ?_); rintro e V3 ⟨A3, c3, R3, rfl, o3, hQ3, g3⟩; have K3 : Bl v1 V3 := Bl.trans (by repeat (first | with_reducible assumption | with_reducible exact Bl.refl _ | with_reducible exact K2 | with_reducible refine Bl.drew ?_ | with_reducible refine Bl.alloc ?_ _ | (with_reducible refine Bl.st1 ?_ ?_ _; rotate_left; (first | with_reducible exact Nat.le_refl _ | (simp; omega) | omega)))) g3) | (have gd := K1; clear gd; go_at_call 105; (refine (cU2.out _ (by repeat (first | with_reducible assumption | with_reducible exact Bl.refl _ | with_reducible exact K1 | with_reducible refine Bl.drew ?_ | with_reducible refine Bl.alloc ?_ _ | (with_reducible refine Bl.st1 ?_ ?_ _; rotate_left; (first | with_reducible exact Nat.le_refl _ | (simp; omega) | omega))))).mono ?_); rintro e V2 ⟨rfl, g2⟩; have K2 : Bl v1 V2 := Bl.trans (by repeat (first | with_reducible assumption | with_reducible exact Bl.refl _ | with_reducible exact K1 | with_reducible refine Bl.drew ?_ | with_reducible refine Bl.alloc ?_ _ | (with_reducible refine Bl.st1 ?_ ?_ _; rotate_left; (first | with_reducible exact Nat.le_refl _ | (simp; omega) | omega)))) g2) | (go_at_call 105; (refine (cT2.out _ (by repeat (first | with_reducible assumption | with_reducible exact Bl.refl _ | with_reducible refine Bl.drew ?_ | with_reducible refine Bl.alloc ?_ _ | (with_reducible refine Bl.st1 ?_ ?_ _; rotate_left; (first | with_reducible exact Nat.le_refl _ | (simp; omega) | omega))))).mono ?_); rintro e V1 ⟨rfl, g1⟩; have K1 : Bl v1 V1 := Bl.trans (by repeat (first | with_reducible assumption | with_reducible exact Bl.refl _ | with_reducible refine Bl.drew ?_ | with_reducible refine Bl.alloc ?_ _ | (with_reducible refine Bl.st1 ?_ ?_ _; rotate_left; (first | with_reducible exact Nat.le_refl _ | (simp; omega) | omega)))) g1) | fail))
    all_goals
      go_wp2
      go_ret
      exact ⟨A3, c3, R3, rfl, o3.cap, o3.base (Nat.le_trans G1.size (Nat.le_trans K2.size (by simp))), finF.out _ hb.out.symm hQ3, G1.trans K3⟩

end Go.Proofs.YtablogiielclaaaGreat
namespace Go.Proofs.YtablogiielclaaaGreat
open Go.RowKit Go.Sort Go.Deep

/-- Where a surface's rows and images lie, and what is declared opaque. -/
structure Pv where
  px : Option Addr
  AO : Option Addr
  cO : Nat
  pa : Option Addr
  LO : List Rc
  AL : Option Addr
  cL : Nat
  AD : Option Addr
  cD : Nat
  AR : Option Addr
  cR : Nat
/-- A surface of the program. -/
structure PrS (w : World) (sb : Nat) (S : Sq) (v : Pv) : Prop where
  hd : At w sb #[.pointer v.px, .int .i64 S.now.ax, .int .i64 S.now.ay, .int .i64 S.now.s, .int .i64 S.now.al, .int .i64 S.now.cp.a, .int .i64 S.now.cp.b, .int .i64 S.now.cp.c, .int .i64 S.now.cp.d, .slice v.AO S.now.op.length v.cO, .string ⟨#[]⟩, .pointer v.pa, .int .i64 S.p.ax, .int .i64 S.p.ay, .int .i64 S.p.s, .int .i64 S.p.al, .int .i64 S.p.cp.a, .int .i64 S.p.cp.b, .int .i64 S.p.cp.c, .int .i64 S.p.cp.d, .slice v.AL v.LO.length v.cL, .string ⟨#[]⟩, .slice v.AD S.dm.length v.cD, .slice v.AR S.fr.length v.cR] 140
  im : StQ w v.px S.now
  at1 : S.so = true → ∃ pm pc, v.pa = some ⟨pm, 0, none⟩ ∧ Img w pm pc S.W S.H S.F
  at0 : S.so = false → v.pa = none
  op : OwR w 0 v.AO v.cO S.now.op
  lo : OwR w 0 v.AL v.cL v.LO
  ll : v.LO.length ≤ 1
  lh : ∀ x y, hasL v.LO x y = hasB S.dc.a S.dc.b S.dc.c S.dc.d x y
  dm : OwR w 0 v.AD v.cD S.dm
  fr : OwI w 0 v.AR v.cR S.fr
theorem StQ.kx {X : Nat → Prop} {w w' : World} {px : Option Addr} {T : Tq} (h : StQ w px T) (g : Kx X w w') (h1 : Xf w X 173) (h2 : Xf w X 52) : StQ w' px T :=
  ⟨fun hs => by obtain ⟨pm, pc, Sp, e, hI⟩ := h.im hs; exact ⟨pm, pc, Sp, e, hI.kx g h1 h2⟩, h.no⟩
theorem PrS.bl {w w' : World} {sb : Nat} {S : Sq} {v : Pv} (h : PrS w sb S v) (g : Bl w w') : PrS w' sb S v :=
  { h with hd := h.hd.bl g, im := h.im.bl g, at1 := fun hs => by obtain ⟨pm, pc, e, hI⟩ := h.at1 hs; exact ⟨pm, pc, e, hI.bl g⟩, op := h.op.bl g, lo := h.lo.bl g, dm := h.dm.bl g, fr := h.fr.bl g }
theorem OwI.kx {X : Nat → Prop} {w w' : World} {B c : Nat} {A : Option Addr} {L : List Int} (h : OwI w B A c L) (g : Kx X w w') (hx : Xf w X 3) : OwI w' B A c L := by
  rcases h.2 with ⟨h1, h2⟩ | ⟨b, cap, cur, h1, h2, h3, h4⟩
  · exact ⟨h.1, .inl ⟨h1, h2⟩⟩
  · exact ⟨h.1, .inr ⟨b, cap, cur, h1, h2, (show At w' b cur 3 from At.kt h3 g hx), h4⟩⟩

theorem newT_p (S : Sq) : (newT S).ax = S.p.ax ∧ (newT S).ay = S.p.ay ∧ (newT S).s = S.p.s ∧ (newT S).al = S.p.al ∧ (newT S).cp = S.p.cp := by
  unfold newT; split <;> exact ⟨rfl, rfl, rfl, rfl, rfl⟩
theorem newT_so (S : Sq) : (newT S).so = S.so := by
  unfold newT; cases S.so <;> rfl
theorem newT_good {n : Nat} {S : Sq} (h : GoodS n S) (hm : mayS S = true) (hr : S.so = true → Rgn (newT S).op (opP S)) : GoodT (newT S) := by
  unfold newT
  cases hs : S.so with
  | false =>
    rw [if_neg (by simp)]
    exact ⟨fun h => (by cases h), fun h => (by cases h), fun h => (by cases h), fun h => (by cases h), fun h => (by cases h), fun _ => ⟨rfl, rfl, rfl, rfl⟩, ⟨[], ⟨Wk.nil, by simp⟩, rfl⟩, fun r hr => (by cases hr), fun x y h => (by cases h)⟩
  | true =>
    have hr := hr hs
    unfold newT at hr
    rw [if_pos hs] at hr
    dsimp only at hr
    rw [if_pos rfl]
    refine ⟨fun _ => h.w1 hs, fun _ => h.h1 hs, fun _ => newF_len S, fun _ => newF_may h hs, fun _ => ?_, fun h => (by cases h), hr.1, reg_in hr.1 fun x y hx => ?_, fun x y hx => ?_⟩
    · unfold mayS at hm
      rw [hs] at hm
      simpa using hm
    · rw [hr.2] at hx
      unfold opP at hx
      exact (Bool.and_eq_true_iff.1 hx).1
    · dsimp only at hx ⊢
      rw [hr.2] at hx
      unfold opP at hx
      have := (Bool.and_eq_true_iff.1 (Bool.and_eq_true_iff.1 hx).2).2
      simpa using this
theorem newT_goodP {n : Nat} {S : Sq} (h : GoodS n S) : GoodP13 (newT S) := by
  obtain ⟨e1, e2, e3, e4, e5⟩ := newT_p S
  refine ⟨?_, ?_, ?_, ?_, ?_⟩
  · rw [e1]; exact h.p.x
  · rw [e2]; exact h.p.y
  · rw [e3]; exact h.p.s
  · rw [e4]; exact h.p.a
  · rw [e5]; exact h.p.c
/-- What is copied. -/
def CpQ (S : Sq) (R : List Rc) : Prop := InR near near R ∧ R = copS S ∧ (S.so = true → Rgn R (copP S)) ∧ (S.so = false → R = [])
theorem CpQ.box {S : Sq} {R : List Rc} (h : CpQ S R) : InBox S.W S.H R := by
  cases hs : S.so with
  | false => rw [h.2.2.2 hs]; intro r hr; cases hr
  | true =>
    have := h.2.2.1 hs
    exact reg_in this.1 fun x y hx => by
      rw [this.2] at hx
      exact (Bool.and_eq_true_iff.1 hx).2
theorem CpQ.len {S : Sq} {R : List Rc} (h : CpQ S R) : R.length ≤ 1000000 := by
  cases hs : S.so with
  | false => rw [h.2.2.2 hs]; simp
  | true => exact near_lenS (h.2.2.1 hs).1 h.1
theorem CpQ.sm {n : Nat} {S : Sq} {R : List Rc} (h : CpQ S R) (hg : GoodS n S) : Sm R := fun r hr => by
  cases hs : S.so with
  | false => rw [h.2.2.2 hs] at hr; cases hr
  | true =>
    obtain ⟨b1, b2, b3, b4, b5, b6⟩ := h.box r hr
    obtain ⟨w1, w2⟩ := hg.w1 hs
    obtain ⟨h1, h2⟩ := hg.h1 hs
    have m1 : 0 ≤ (r.c - r.a) * (r.d - r.b) := Int.mul_nonneg (by omega) (by omega)
    have m2 : (r.c - r.a) * (r.d - r.b) ≤ 16 * 16 := Int.mul_le_mul (by omega) (by omega) (by omega) (by omega)
    refine ⟨by unfold mayB; simp; omega, ?_, ?_⟩ <;> (unfold areaRc; omega)
theorem cpq_rg {S : Sq} {R : List Rc} (h1 : InR near near R) (hs : S.so = true) (h : Rgn R (copP S)) : CpQ S R :=
  ⟨h1, by unfold copS; rw [if_pos hs]; exact h.rg, fun _ => h, fun e => by rw [hs] at e; cases e⟩
theorem newF_cp {n : Nat} {S : Sq} (hg : GoodS n S) : cpR S.W S.F (baseF S) (copS S) = newF S := by
  unfold cpR newF
  rw [baseF_len hg]

end Go.Proofs.YtablogiielclaaaGreat
namespace Go.Proofs.YtablogiielclaaaGreat
open Go.RowKit Go.Sort Go.Deep

theorem stq_xf {X : Nat → Prop} {w : World} {sb : Nat} {cs : Array Value} (h : At w sb cs 140) (hX : ∀ k, X k → k = sb) (u : TypeId) (hne : 140 ≠ u) : Xf w X u := fun k cs' hk h' => by
  rw [hX k hk] at h'
  exact (At.neP h h' hne) rfl
set_option maxRecDepth 100000 in
set_option maxHeartbeats 4000000 in
theorem sfcommitS {w : World} {sb n : Nat} {S : Sq} {v : Pv} (h : PrS w sb S v) (g : GoodS n S) (hm : mayS S = true) :
    Calls Tryz.prog 18 #[.pointer (some ⟨sb, 0, none⟩)] w (fun e w' => ∃ (v' : Pv) (A3 : Option Addr) (c3 : Nat), e = .returned (.tuple #[.agg #[.slice A3 (dmgS S).length c3, .slice v.AR S.fr.length v.cR, .int .i64 (areaL (copS S))], .int .i64 0]) ∧
      PrS w' sb (comS S) v' ∧ v'.AR = none ∧ GoodT (newT S) ∧ OwR w' w.heap.size A3 c3 (dmgS S) ∧ Rgn (dmgS S) (dmgP S) ∧ Kx (fun k => k = sb) w w') := by
  have kx1 : ∀ u, 140 ≠ u → Xf w (fun k => k = sb) u := fun u hu => stq_xf h.hd (fun _ hk => hk) u hu
  obtain ⟨e1, e2, e3, e4, e5⟩ := newT_p S
  have hso := newT_so S
  refine (sfcommitT v.px S.now.ax S.now.ay S.now.s S.now.al S.now.cp.a S.now.cp.b S.now.cp.c S.now.cp.d v.AO S.now.op.length v.cO v.pa S.p.ax S.p.ay S.p.s S.p.al S.p.cp.a S.p.cp.b S.p.cp.c S.p.cp.d v.AL v.LO.length v.cL v.AD S.dm.length v.cD v.AR S.fr.length v.cR w h.hd
    (fun V px => StQ V px (newT S)) (CpQ S) (fun M => M = (newT S).op ∧ (S.so = true → Rgn M (opP S))) (fun R => Rgn R (dmgP S) ∧ GoodT (newT S)) (areaL (copS S))
    (fun hp w' k => ?_) (fun w' k => ?_) (fun w' AC cC1 MC k oC hC => ?_) (fun V V' px' Y hI k x1 x2 => StQ.kx hI k x1 x2) (fun w' px' k hI => ?_) (fun w' px' AC cC1 MC AS cS MS k hI oC hC oS hS => ?_) (fun w' AC cC1 MC oC hC => ?_)).mono ?_
  · have hs : S.so = true := by
      cases e : S.so with
      | false => exact absurd (h.at0 e) hp
      | true => rfl
    obtain ⟨pm, pc, hpa, hI⟩ := h.at1 hs
    have hx := g.p.x
    have hy := g.p.y
    have hz := g.p.s
    have := pmay1 S.p.ax S.p.ay S.p.s S.p.al S.p.cp w' (hI.kx k (kx1 _ (by decide)) (kx1 _ (by decide))) (by unfold I64; omega) (by unfold I64; omega) (by unfold I64; omega)
    unfold mayS at hm
    rw [hs] at hm
    simp at hm
    rw [hm, ← hpa] at this
    exact this
  · cases hs : S.so with
    | false =>
      rw [h.at0 hs]
      refine (sfcopiedN _ _ _ _ _ _ _ _ _ _ _ _ _ _ _ _ _ _ w').mono ?_
      rintro e w2 ⟨rfl, g2⟩
      refine ⟨none, 0, [], rfl, OwR.nil _ _, ⟨fun r hr => (by cases hr), ?_, fun e => (by rw [hs] at e; cases e), fun _ => rfl⟩, g2⟩
      unfold copS; rw [if_neg (by simp [hs])]
    | true =>
      obtain ⟨pm, pc, hpa, hI⟩ := h.at1 hs
      rw [hpa]
      refine (sfcopied1 _ _ _ _ _ _ _ _ _ _ _ _ v.AD v.cD S.dm _ rfl _ _ _ w' (hI.kx k (kx1 _ (by decide)) (kx1 _ (by decide))) (g.w1 hs).2 (g.h1 hs).2 (h.dm.kx k (kx1 _ (by decide))).rs g.dr g.dn).mono ?_
      rintro e w2 ⟨A', c', R, rfl, o, q, g2⟩
      exact ⟨A', c', R, rfl, o, cpq_rg q.1 hs q.2, g2⟩
  · cases hs : S.so with
    | false =>
      rw [h.at0 hs]
      refine (sfcontentN _ _ _ _ w').mono ?_
      rintro e w2 ⟨rfl, rfl⟩
      exact ⟨none, rfl, ⟨fun e => (by rw [hso, hs] at e; cases e), fun _ => rfl⟩, Bl.refl _⟩
    | true =>
      obtain ⟨pm, pc, hpa, hI⟩ := h.at1 hs
      have hI' := hI.kx k (kx1 _ (by decide)) (kx1 _ (by decide))
      have hM' := h.im.kx k (kx1 _ (by decide)) (kx1 _ (by decide))
      rw [hpa]
      refine (sfcontent1 v.px (baseF S) AC cC1 MC w' hI' (baseF_len g) oC.rs (Nat.le_trans hC.len (by omega)) hC.box fun V gV => ?_).mono ?_
      · unfold baseF
        by_cases hb : S.now.so = true ∧ S.now.W = S.W ∧ S.now.H = S.H
        · rw [if_pos hb]
          obtain ⟨p2, c2, Sp, hp2, hJ⟩ := hM'.im hb.1
          rw [hb.2.1, hb.2.2] at hJ
          rw [hp2]
          exact sfaheadE V (hI'.bl gV) (hJ.bl gV)
        · rw [if_neg hb]
          refine sfaheadN v.px V (hI'.bl gV) ?_
          cases hn : S.now.so with
          | false => exact .inl (h.im.no hn)
          | true =>
            obtain ⟨p2, c2, Sp, hp2, hJ⟩ := hM'.im hn
            exact .inr ⟨p2, c2, _, _, _, Sp, hp2, hJ.bl gV, fun hh => hb ⟨hn, hh⟩⟩
      · rintro e w2 ⟨p3, c3, Sp, rfl, hJ, _, _, g2⟩
        rw [hC.2.1, newF_cp g] at hJ
        refine ⟨some ⟨p3, 0, none⟩, rfl, ⟨fun _ => ⟨p3, c3, Sp, rfl, ?_⟩, fun e => (by rw [hso, hs] at e; cases e)⟩, g2⟩
        unfold newT
        rw [if_pos hs]
        exact hJ
  · cases hs : S.so with
    | false =>
      rw [hI.no (by rw [hso, hs])]
      refine (sfsolidN _ _ _ w').mono ?_
      rintro e w2 ⟨rfl, rfl⟩
      refine ⟨none, 0, [], rfl, Nat.le_refl _, OwR.nil _ _, ⟨?_, fun e => (by cases e)⟩, Bl.refl _⟩
      unfold newT; rw [if_neg (by simp [hs])]
    | true =>
      obtain ⟨p3, c3, Sp, rfl, hJ⟩ := hI.im (by rw [hso, hs])
      have eW : (newT S).W = S.W ∧ (newT S).H = S.H ∧ (newT S).F = newF S ∧ (newT S).op = rg (opP S) := by unfold newT; rw [if_pos hs]; exact ⟨rfl, rfl, rfl, rfl⟩
      rw [eW.1, eW.2.1, eW.2.2.1] at hJ
      refine (sfsolid1 v.AL v.cL v.LO w' hJ (fun c hc => (newF_may g hs c hc).1) (h.lo.kx k (kx1 _ (by decide))).rs (Nat.le_trans h.ll (by omega))).mono ?_
      rintro e w2 ⟨A', c', R, rfl, h1, o, q, g2⟩
      have hr : Rgn R (opP S) := q.1.to fun x y => by unfold opP; rw [h.lh]
      exact ⟨A', c', R, rfl, h1, o, ⟨by rw [eW.2.2.2]; exact hr.rg, fun _ => hr⟩, g2⟩
  · have gT := newT_good g hm fun hs => by rw [← hS.1]; exact hS.2 hs
    have := sfchanged1 (T := S.now) (U := newT S) v.AO S.now.op.length v.cO AS MS.length cS AC cC1 MC w' (h.im.kx k (kx1 _ (by decide)) (kx1 _ (by decide))) hI g.t gT g.q (newT_goodP g) oC.rs hC.len
    rw [e1, e2, e3, e4, e5] at this
    refine this.mono ?_
    rintro e w2 ⟨A', c', R, rfl, h1, o, q, g2⟩
    rw [hC.2.1] at q
    exact ⟨A', c', R, rfl, h1, o, ⟨q, gT⟩, g2⟩
  · have := areaR1 AC cC1 MC w' oC.rs (hC.sm g) hC.len
    have e : areaL MC = areaL (copS S) := by rw [hC.2.1]
    rw [e] at this
    exact this
  · rintro e w' ⟨px', AS, cS, MS, A3, c3, M3, rfl, h1, h2, h3, h4, h5, h6, h7⟩
    obtain ⟨hM, hR⟩ := h4
    obtain ⟨hD, gT⟩ := h6
    have hdm : M3 = dmgS S := by unfold dmgS; rw [if_pos hm]; exact hD.rg
    rw [hdm] at h5 hD
    rw [hdm]
    have hc : comS S = { S with now := newT S, p := newT S, dm := [], fr := [] } := by unfold comS; rw [if_pos hm]
    refine ⟨⟨px', AS, cS, v.pa, v.LO, v.AL, v.cL, none, 0, none, 0⟩, A3, c3, rfl, ?_, rfl, gT, h5, hD, h7⟩
    rw [hc]
    refine ⟨?_, h2, fun hs => ?_, h.at0, ?_, h.lo.kx h7 (kx1 _ (by decide)), h.ll, h.lh, OwR.nil _ _, OwI.nil _ _⟩
    · dsimp only
      rw [e1, e2, e3, e4, e5, ← hM]
      exact h1
    · obtain ⟨pm, pc, hpa, hI⟩ := h.at1 hs
      exact ⟨pm, pc, hpa, hI.kx h7 (kx1 _ (by decide)) (kx1 _ (by decide))⟩
    · dsimp only
      rw [← hM]
      exact h3

end Go.Proofs.YtablogiielclaaaGreat
