/-
  What is proved: what copied, content, solid of package surface hand back. No conditions but bounds. what region.Keep hands back: nothing, the one rectangle round all, or a copy. what State and Opaque of package surface hand back. No conditions but bounds.
-/
import Derived.Test.YtablogiielclaaaGreatZz20
import Derived.Test.YtablogiielclaaaGreatZz8
import Derived.Test.YtablogiielclaaaGreatZz19
import Derived.Test.YtablogiielclaaaGreatZz6
import Derived.WalkSpells
namespace Go.Proofs.YtablogiielclaaaGreat
open Go.RowKit Go.Sort Go.Deep

theorem rs_one {w : World} {b : Nat} {a0 b0 c0 d0 : Int} (h : At w b #[.int .i64 a0, .int .i64 b0, .int .i64 c0, .int .i64 d0] 31) : Rs w (some ⟨b, 0, none⟩) [⟨a0, b0, c0, d0⟩] := by
  refine .inr ⟨b, 0, rfl, fun k r hk => ?_⟩
  match k, hk with
  | 0, hk =>
    cases hk
    exact ⟨by simpa using h.cell 0, by simpa using h.cell 1, by simpa using h.cell 2, by simpa using h.cell 3⟩
theorem box_near {W H : Nat} (w1 : 1 ≤ W) (w2 : W ≤ 16) (h1 : 1 ≤ H) (h2 : H ≤ 16) : IsReg [(⟨0, 0, W, H⟩ : Rc)] ∧ InR near near [(⟨0, 0, W, H⟩ : Rc)] := by
  refine ⟨one_reg (by unfold emptyB; simp; omega), fun r hr => ?_⟩
  rw [List.mem_singleton] at hr
  subst hr
  dsimp only
  simp only [near_mem]
  omega
/-- What copied hands back. -/
def CoQ (dm : List Rc) (W H : Nat) (R : List Rc) : Prop := InR near near R ∧ Rgn R (fun x y => hasL dm x y && hasB 0 0 W H x y)
theorem CoQ.box {dm R : List Rc} {W H : Nat} (h : CoQ dm W H R) : InBox W H R := reg_in h.2.1 fun x y hx => by
  rw [h.2.2] at hx
  exact (Bool.and_eq_true_iff.1 hx).2

set_option maxRecDepth 100000 in
set_option maxHeartbeats 2000000 in
theorem sfcopiedN (ax ay s al p q r t : Int) (A : Option Addr) (n c : Nat) (ti : Value) (AD : Option Addr) (nD cD : Nat) (AR : Option Addr) (nR cR : Nat) (w : World) :
    Calls Tryz.prog 84 #[.agg #[.pointer none, .int .i64 ax, .int .i64 ay, .int .i64 s, .int .i64 al, .int .i64 p, .int .i64 q, .int .i64 r, .int .i64 t, .slice A n c, ti, .slice AD nD cD, .slice AR nR cR]] w (RZ w (.slice none 0 0)) := by
  have G0 := (Bl.refl w).alloc (.cells #[.pointer none, .int .i64 ax, .int .i64 ay, .int .i64 s, .int .i64 al, .int .i64 p, .int .i64 q, .int .i64 r, .int .i64 t, .slice A n c, ti, .slice AD nD cD, .slice AR nR cR] 138)
  go_enter Tryz.func84, Tryz.ntmps84
  go_wp2
  go_ret
  exact ⟨rfl, G0⟩
set_option maxRecDepth 100000 in
set_option maxHeartbeats 2000000 in
theorem sfcopied1 {pm pc W H : Nat} {L : List Int} (ax ay s al p q r t : Int) (A : Option Addr) (n c : Nat) (ti : Value) (AD : Option Addr) (cD : Nat) (dm : List Rc) (nD : Nat) (hn : nD = dm.length) (AR : Option Addr) (nR cR : Nat) (w : World) (hI : Img w pm pc W H L) (w2 : W ≤ 16) (h2 : H ≤ 16) (hD : Rs w AD dm) (rD : IsReg dm) (nrD : InR near near dm) :
    Calls Tryz.prog 84 #[.agg #[.pointer (some ⟨pm, 0, none⟩), .int .i64 ax, .int .i64 ay, .int .i64 s, .int .i64 al, .int .i64 p, .int .i64 q, .int .i64 r, .int .i64 t, .slice A n c, ti, .slice AD nD cD, .slice AR nR cR]] w (RR w (CoQ dm W H)) := by
  have G0 := (Bl.refl w).alloc (.cells #[.pointer (some ⟨pm, 0, none⟩), .int .i64 ax, .int .i64 ay, .int .i64 s, .int .i64 al, .int .i64 p, .int .i64 q, .int .i64 r, .int .i64 t, .slice A n c, ti, .slice AD nD cD, .slice AR nR cR] 138)
  have S0 := At.new w #[.pointer (some ⟨pm, 0, none⟩), .int .i64 ax, .int .i64 ay, .int .i64 s, .int .i64 al, .int .i64 p, .int .i64 q, .int .i64 r, .int .i64 t, .slice A n c, ti, .slice AD nD cD, .slice AR nR cR] 138
  obtain ⟨rB, iB⟩ := box_near hI.w1 w2 hI.h1 h2
  have cB := Lib.hid (fun (V : World) (g : Bl (w.alloc (.cells #[.pointer (some ⟨pm, 0, none⟩), .int .i64 ax, .int .i64 ay, .int .i64 s, .int .i64 al, .int .i64 p, .int .i64 q, .int .i64 r, .int .i64 t, .slice A n c, ti, .slice AD nD cD, .slice AR nR cR] 138)) V) => box1 V (hI.bl (G0.trans g)))
  have cQ := Lib.hid (fun (V : World) (B : Option Addr) (g : Bl (w.alloc (.cells #[.pointer (some ⟨pm, 0, none⟩), .int .i64 ax, .int .i64 ay, .int .i64 s, .int .i64 al, .int .i64 p, .int .i64 q, .int .i64 r, .int .i64 t, .slice A n c, ti, .slice AD nD cD, .slice AR nR cR] 138)) V) (hB : Rs V B [⟨0, 0, W, H⟩]) => (show Calls Tryz.prog 142 #[.slice AD nD cD, .slice B 1 1] V (RR V (MQ near near dm [⟨0, 0, W, H⟩] (fun a b => a && b))) from by rw [hn]; exact cutR1 AD B cD 1 dm [⟨0, 0, W, H⟩] near near V (hD.bl (G0.trans g)) hB rD rB grid_near nrD iB))
  have fin := Lib.hid (fun (R : List Rc) (h : MQ near near dm [⟨0, 0, W, H⟩] (fun a b => a && b) R) => (show CoQ dm W H R from ⟨h.inr, h.reg, fun x y => by rw [h.has]; simp [hasL]⟩))
  generalize CoQ dm W H = PQ at *
  clear hn hD rD nrD rB iB hI
  go_enter Tryz.func84, Tryz.ntmps84
  go_upto_region 3 with fail
  obtain ⟨W0, hW⟩ : ∃ W0, W0 = w.alloc (.cells #[.pointer (some ⟨pm, 0, none⟩), .int .i64 ax, .int .i64 ay, .int .i64 s, .int .i64 al, .int .i64 p, .int .i64 q, .int .i64 r, .int .i64 t, .slice A n c, ti, .slice AD nD cD, .slice AR nR cR] 138) := ⟨_, rfl⟩
  rw [← hW] at S0 G0 cB cQ ⊢
  clear hW
  obtain ⟨b0, hb⟩ : ∃ b0, b0 = w.heap.size := ⟨_, rfl⟩
  rw [← hb] at S0 ⊢
  clear hb
  have SK := Lib.hid (fun (V : World) (g : Bl W0 V) => (show V.cell? ⟨b0, 0, none⟩ = some (.pointer (some ⟨pm, 0, none⟩)) ∧ V.cell? ⟨b0, 1, none⟩ = some (.int .i64 ax) ∧ V.cell? ⟨b0, 2, none⟩ = some (.int .i64 ay) ∧ V.cell? ⟨b0, 3, none⟩ = some (.int .i64 s) ∧ V.cell? ⟨b0, 4, none⟩ = some (.int .i64 al) ∧ V.cell? ⟨b0, 5, none⟩ = some (.int .i64 p) ∧ V.cell? ⟨b0, 6, none⟩ = some (.int .i64 q) ∧ V.cell? ⟨b0, 7, none⟩ = some (.int .i64 r) ∧ V.cell? ⟨b0, 8, none⟩ = some (.int .i64 t) ∧ V.cell? ⟨b0, 9, none⟩ = some (.slice A n c) ∧ V.cell? ⟨b0, 10, none⟩ = some (ti) ∧ V.cell? ⟨b0, 11, none⟩ = some (.slice AD nD cD) ∧ V.cell? ⟨b0, 12, none⟩ = some (.slice AR nR cR) ∧ Bl W0 V from ⟨((S0).bl g).cell 0, ((S0).bl g).cell 1, ((S0).bl g).cell 2, ((S0).bl g).cell 3, ((S0).bl g).cell 4, ((S0).bl g).cell 5, ((S0).bl g).cell 6, ((S0).bl g).cell 7, ((S0).bl g).cell 8, ((S0).bl g).cell 9, ((S0).bl g).cell 10, ((S0).bl g).cell 11, ((S0).bl g).cell 12, g⟩))
  clear S0
  go_region_held3 (fun V => V.cell? ⟨b0, 0, none⟩ = some (.pointer (some ⟨pm, 0, none⟩)) ∧ V.cell? ⟨b0, 1, none⟩ = some (.int .i64 ax) ∧ V.cell? ⟨b0, 2, none⟩ = some (.int .i64 ay) ∧ V.cell? ⟨b0, 3, none⟩ = some (.int .i64 s) ∧ V.cell? ⟨b0, 4, none⟩ = some (.int .i64 al) ∧ V.cell? ⟨b0, 5, none⟩ = some (.int .i64 p) ∧ V.cell? ⟨b0, 6, none⟩ = some (.int .i64 q) ∧ V.cell? ⟨b0, 7, none⟩ = some (.int .i64 r) ∧ V.cell? ⟨b0, 8, none⟩ = some (.int .i64 t) ∧ V.cell? ⟨b0, 9, none⟩ = some (.slice A n c) ∧ V.cell? ⟨b0, 10, none⟩ = some (ti) ∧ V.cell? ⟨b0, 11, none⟩ = some (.slice AD nD cD) ∧ V.cell? ⟨b0, 12, none⟩ = some (.slice AR nR cR) ∧ Bl W0 V) ((refine SK.out _ ?_; repeat (first | with_reducible assumption | with_reducible exact Bl.refl _ | with_reducible exact K1 | with_reducible exact K3 | with_reducible refine Bl.drew ?_ | with_reducible refine Bl.alloc ?_ _ | (with_reducible refine Bl.st1 ?_ ?_ _; rotate_left; (first | with_reducible exact Nat.le_refl _ | (simp; omega) | omega))))) ((first | (go_at_call 100; (refine (cB.out _ (by repeat (first | with_reducible assumption | with_reducible exact Bl.refl _ | with_reducible refine Bl.drew ?_ | with_reducible refine Bl.alloc ?_ _ | (with_reducible refine Bl.st1 ?_ ?_ _; rotate_left; (first | with_reducible exact Nat.le_refl _ | (simp; omega) | omega))))).mono ?_); rintro e V1 ⟨rfl, g1⟩; have K1 : Bl W0 V1 := Bl.gr (by repeat (first | with_reducible assumption | with_reducible exact Bl.refl _ | with_reducible refine Bl.drew ?_ | with_reducible refine Bl.alloc ?_ _ | (with_reducible refine Bl.st1 ?_ ?_ _; rotate_left; (first | with_reducible exact Nat.le_refl _ | (simp; omega) | omega)))) g1) | (go_at_call 142; (refine (cQ.out _ _ (by repeat (first | with_reducible assumption | with_reducible exact Bl.refl _ | with_reducible exact K1 | with_reducible refine Bl.drew ?_ | with_reducible refine Bl.alloc ?_ _ | (with_reducible refine Bl.st1 ?_ ?_ _; rotate_left; (first | with_reducible exact Nat.le_refl _ | (simp; omega) | omega)))) (by first | with_reducible exact rs_one (At.new _ _ _) | with_reducible exact rs_one (At.new _ _ _).drew)).mono ?_); rintro e V3 ⟨A3, c3, R3, rfl, o3, hQ3, g3⟩; have K3 : Bl W0 V3 := Bl.trans (by repeat (first | with_reducible assumption | with_reducible exact Bl.refl _ | with_reducible exact K1 | with_reducible refine Bl.drew ?_ | with_reducible refine Bl.alloc ?_ _ | (with_reducible refine Bl.st1 ?_ ?_ _; rotate_left; (first | with_reducible exact Nat.le_refl _ | (simp; omega) | omega)))) g3) | fail))
  all_goals
    go_wp2
    go_ret
    exact ⟨A3, c3, R3, rfl, o3.base (Nat.le_trans G0.size (Nat.le_trans K1.size (by simp))), fin.out _ hQ3, G0.trans K3⟩

/-- What content hands back. -/
def CtQ (w : World) (W H : Nat) (F : List Int) (e : Ending) (w' : World) : Prop := ∃ pm pc Sp, e = .returned (.pointer (some ⟨pm, 0, none⟩)) ∧ ImgX w' pm pc W H F Sp ∧ w.heap.size ≤ pm ∧ w.heap.size ≤ pc ∧ Bl w w'
set_option maxRecDepth 100000 in
set_option maxHeartbeats 1000000 in
theorem sfcontentN (px : Option Addr) (A : Option Addr) (n c : Nat) (w : World) :
    Calls Tryz.prog 85 #[.pointer px, .pointer none, .slice A n c] w (fun e w' => e = .returned (.pointer none) ∧ w = w') := by
  go_enter Tryz.func85, Tryz.ntmps85
  go_wp2
  go_ret
  exact ⟨rfl, rfl⟩
set_option maxRecDepth 100000 in
set_option maxHeartbeats 4000000 in
theorem sfcontent1 {pm pc W H : Nat} {L : List Int} (px : Option Addr) (B : List Int) (A : Option Addr) (c : Nat) (C : List Rc) (w : World) (hI : Img w pm pc W H L) (hB : B.length = W * H) (hC : Rs w A C) (hl : C.length ≤ 100000000) (hb : InBox W H C)
    (cA : ∀ w', Bl w w' → Calls Tryz.prog 143 #[.pointer px, .pointer (some ⟨pm, 0, none⟩)] w' (AhQ w' W H B)) :
    Calls Tryz.prog 85 #[.pointer px, .pointer (some ⟨pm, 0, none⟩), .slice A C.length c] w (CtQ w W H (cpR W L B C)) := by
  have hw1 := hI.w1
  have hlen := hI.len
  have hlm := hI.hd.lt
  have hlc := hI.cs.lt
  have hCL : ∀ (k : Nat) (r : Rc), C[k]? = some r → ∃ x0 y0 x1 y1 : Nat, r = ⟨x0, y0, x1, y1⟩ ∧ x0 < x1 ∧ x1 ≤ W ∧ y0 < y1 ∧ y1 ≤ H := fun k r hk => by
    obtain ⟨b1, b2, b3, b4, b5, b6⟩ := hb r (List.mem_of_getElem? hk)
    obtain ⟨ra, rb, rc, rd⟩ := r
    dsimp only at b1 b2 b3 b4 b5 b6
    exact ⟨ra.toNat, rb.toNat, rc.toNat, rd.toNat, by simp only [Rc.mk.injEq]; omega, by omega, by omega, by omega, by omega⟩
  obtain ⟨N, hN⟩ : ∃ N, N = C.length := ⟨_, rfl⟩
  rw [← hN] at hl ⊢
  replace hN := Lib.hid hN
  go_enter Tryz.func85, Tryz.ntmps85
  go_wp2_with fail
  refine (cA _ (Bl.refl _)).mono ?_
  rintro e v1 ⟨p2, c2, Sp, rfl, I2, h1, h2, g1⟩
  go_wp2
  go_loopw [17] (fun i wr => ∃ (k : Nat), k ≤ N ∧ i = .int .i64 k ∧ ImgX wr p2 c2 W H (cpR W L B (C.take k)) Sp ∧ Bl w wr) (fun i _ => N - (intOf i).toNat)
  case atStart => exact ⟨0, Nat.zero_le _, rfl, by rw [List.take_zero, cpR_nil]; exact I2, g1⟩
  case round =>
    obtain ⟨k, hk, rfl, Ik, Gk⟩ := hrel
    by_cases hlt : k < N
    · obtain ⟨r, hr⟩ := list_at (show k < C.length by rw [← hN.out]; exact hlt)
      obtain ⟨b, off, rfl, hrow⟩ := (hC.bl Gk).opened (by have := hN.out; omega)
      obtain ⟨e1, e2, e3, e4⟩ := hrow k r hr
      obtain ⟨x0, y0, x1, y1, rfl, b1, b2, b3, b4⟩ := hCL k r hr
      (try dsimp only at e1 e2 e3 e4)
      have hmore := fun (ts : List Nat) (h : ∀ t, t ∈ ts ↔ t < y1 - y0) => cpR_more (L := L) (B := B) (R := C.take k) hw1 hlen hB (rfl : (⟨(x0 : Int), (y0 : Int), (x1 : Int), (y1 : Int)⟩ : Rc) = ⟨x0, y0, x1, y1⟩) b1 b2 b3 b4 h
      rw [← take_more hr] at hmore
      have cC := fun (V : World) (g : Bl wr V) => copyX V (Ik.bl g) (hI.bl (Gk.trans g)) (by omega) x0 y0 x1 y1 0 0 (by omega) (by omega) x0 y0 x1 y1 x0 y0 ⟨x0, y0, x1, y1⟩ (by
        unfold cutR
        (try dsimp only)
        rw [if_neg (by simp [emptyB]; omega)]
        simp only [Rc.mk.injEq]
        omega) (by
        unfold cutR
        (try dsimp only)
        rw [if_neg (by simp [emptyB]; omega)]
        simp only [Rc.mk.injEq]
        omega) (by omega) (by omega) (by omega) (by omega) (by omega) (by omega)
      have HM := Lib.hid hmore
      clear hmore hrow hr
      go_wp2_with fail
      refine (cC _ ((Bl.refl _).alloc _)).mono ?_
      rintro e v4 ⟨ts, rfl, g4, I4, hts⟩
      rw [HM.out ts hts] at I4
      go_wp2
      go_roundw
      case rel => exact ⟨k + 1, by omega, by go_num, I4, (Gk.alloc _).grown g4 (fun j hj => by cases hj; exact h2)⟩
      case measure => simp [intOf]; omega
    · obtain rfl : k = N := by omega
      rw [hN.out, List.take_length] at Ik
      go_wp2
      go_ret
      exact ⟨p2, c2, Sp, rfl, Ik, h1, h2, Gk⟩

/-- What solid hands back. -/
def SdQ (W H : Nat) (F : List Int) (LW M : List Rc) : Prop := Rgn M (fun x y => hasB 0 0 W H x y && (hasL LW x y && pA (atV W H F x y) == 255)) ∧ InBox W H M
set_option maxRecDepth 100000 in
set_option maxHeartbeats 1000000 in
theorem sfsolidN (A : Option Addr) (n c : Nat) (w : World) :
    Calls Tryz.prog 86 #[.pointer none, .slice A n c] w (fun e w' => e = .returned (.slice none 0 0) ∧ w = w') := by
  go_enter Tryz.func86, Tryz.ntmps86
  go_wp2
  go_ret
  exact ⟨rfl, rfl⟩
set_option maxRecDepth 100000 in
set_option maxHeartbeats 1000000 in
theorem sfsolid1 {pm pc W H : Nat} {F : List Int} {Sp : List Value} (A : Option Addr) (c : Nat) (LW : List Rc) (w : World) (hI : ImgX w pm pc W H F Sp) (h32 : ∀ c ∈ F, C32 c) (hA : Rs w A LW) (hl : LW.length ≤ 1000000) :
    Calls Tryz.prog 86 #[.pointer (some ⟨pm, 0, none⟩), .slice A LW.length c] w (WQ w (SdQ W H F LW)) := by
  have w1 := hI.w1
  have w2 := hI.w2
  have h1 := hI.h1
  have h2 := hI.h2
  have hM : lyMay W H 1 255 0 0 = true := by
    unfold lyMay inB
    simp only [decide_eq_true_eq]
    omega
  have cS := fun (V : World) (g : Gr w V) => psolid1X 0 0 1 255 ⟨0, 0, W, H⟩ A c LW V (hI.gr g) h32 hM (hA.bl g.bl) hl
  have cB := boxX w hI
  have fin := Lib.hid (fun (M : List Rc) (h : SoQ ⟨0, 0, W, H⟩ W H F 1 0 0 255 LW M) => (show SdQ W H F LW M from ⟨soq_rgn h, reg_in (soq_rgn h).1 fun x y hx => by
    rw [(soq_rgn h).2] at hx
    exact (Bool.and_eq_true_iff.1 hx).1⟩))
  generalize SdQ W H F LW = PQ at *
  generalize SoQ ⟨0, 0, W, H⟩ W H F 1 0 0 255 LW = PS at *
  generalize LW.length = n at *
  go_enter Tryz.func86, Tryz.ntmps86
  go_wp2_with fail
  refine cB.mono ?_
  rintro e v1 ⟨rfl, g1⟩
  go_wp2_with fail
  refine (cS _ g1).mono ?_
  rintro e v2 ⟨A3, c3, R3, rfl, hc3, o3, hQ3, g3⟩
  go_wp2
  go_ret
  exact ⟨A3, c3, R3, rfl, hc3, o3.base g1.size, fin.out _ hQ3, g1.bl.trans g3⟩

end Go.Proofs.YtablogiielclaaaGreat
namespace Go.Proofs.YtablogiielclaaaGreat
open Go.RowKit Go.Sort

theorem RowR.cells {w : World} {b off : Nat} {L : List Rc} (h : RowR w b off L) : ∀ (j : Nat) (u : Value), (cR L)[j]? = some u → w.cell? (Addr.add ⟨b, off, none⟩ j) = some u := by
  intro j u hj
  have hl : j < L.length * 4 := by have := get_lt hj; rwa [cR_len] at this
  obtain ⟨r, hr⟩ := list_at (l := L) (k := j / 4) (by omega)
  have hg := cR_get L (j / 4) r (j % 4) hr (by omega)
  rw [show j / 4 * 4 + j % 4 = j from by omega, hj] at hg
  have hadd : (⟨b, off, none⟩ : Addr).add j = ⟨b, off + j, none⟩ := by unfold Addr.add; split <;> simp_all
  rw [hadd]
  obtain ⟨h1, h2, h3, h4⟩ := h (j / 4) r hr
  obtain hm | hm | hm | hm : j % 4 = 0 ∨ j % 4 = 1 ∨ j % 4 = 2 ∨ j % 4 = 3 := by omega
  · rw [hm] at hg; simp [c4] at hg; subst hg; rw [show off + j = off + j / 4 * 4 from by omega]; exact h1
  · rw [hm] at hg; simp [c4] at hg; subst hg; rw [show off + j = off + j / 4 * 4 + 1 from by omega]; exact h2
  · rw [hm] at hg; simp [c4] at hg; subst hg; rw [show off + j = off + j / 4 * 4 + 2 from by omega]; exact h3
  · rw [hm] at hg; simp [c4] at hg; subst hg; rw [show off + j = off + j / 4 * 4 + 3 from by omega]; exact h4

theorem wp_app_src {ops : Array Oper} {rest : List Oper} {o : Oper} {a : Act} {w : World} {Q : Exit → Act → World → Prop} (hgd : o.guard = none) (s x : Operand)
    (ho : o.op = .call { callee := .builtin .append, args := #[s, x], argTypes := #[32, 32] }) (g1 : Nat) (hs : a.eval s = .slice (some ⟨g1, 0, none⟩) 0 0) (B : Nat) (hown : OwR w B (some ⟨g1, 0, none⟩) 0 [])
    (A0 : Option Addr) (M : List Rc) (c0 : Nat) (hx : a.eval x = .slice A0 M.length c0) (hM : Rs w A0 M) (hne : A0 ≠ none) (hlen : M.length ≤ 1000000000000) (hB : B ≤ w.heap.size)
    (h : ∀ A' c' w', OwR w' B A' c' M → Apd w w' (some ⟨g1, 0, none⟩) A' → wpList Tryz.prog ops Q rest (a.put o.dst (.slice A' M.length c')) w') :
    wpList Tryz.prog ops Q (o :: rest) a w := by
  obtain ⟨i0, hi, hz0, hz1, hz2⟩ := info_parts infoR
  rcases Nat.eq_zero_or_pos M.length with hm | hm
  · have hr := run_app_empty (w := w) (ty := o.type) Tryz.underlying32 hi hown A0 c0 (fun h => absurd h hne)
    have hM0 : M = [] := List.eq_nil_of_length_eq_zero hm
    subst hM0
    refine wpList_plain hgd fun K hK => ?_
    unfold Oper.wp execOp
    simp only [List.length_nil] at hx hr
    simp only [ho, resolve, invoke, builtin, Sem.run_bind, Sem.run_pure, Result.andThen_ok, List.map_toArray, List.map_cons, List.map_nil, hs, hx, hr]
    exact hK _ _ (h (some ⟨g1, 0, none⟩) 0 w hown ⟨⟨rfl, rfl, rfl, Nat.le_refl _, fun _ _ _ => rfl⟩, .inl rfl⟩)
  · obtain ⟨b, off, rfl, hrow⟩ := hM.opened hm
    refine wpList_append_lies (P := Tryz.prog) w hgd s x 32 ho B 31 i0 _ 4 32 Tryz.underlying32 hi hz0 hz1 hz2 rfl (by decide) (.slice (some ⟨g1, 0, none⟩) 0 0) 0 (cR []) hs hown
      ⟨b, off, none⟩ M.length c0 (cR M) hx (cR_len M) hrow.cells (cR_one _) hm (by unfold maxLen; omega) (by omega) hB w.heap.size rfl ?_
    intro g cap w' h1 h2 h3 h4
    rw [Nat.zero_add] at h1 ⊢
    refine h (some ⟨g, 0, none⟩) cap w' h1 ⟨?_, ?_⟩
    · rw [slice_block] at h2; exact h2
    · rw [slice_block] at h3
      rcases h3 with h3 | h3
      · exact .inl h3
      · right; show some g = _; rw [h3]

set_option maxHeartbeats 2000000 in
theorem clone1 (A : Option Addr) (c : Nat) (L : List Rc) (w : World) (hA : Rs w A L) (hl : L.length ≤ 100000000) (hz : A = none → L = []) :
    Calls Tryz.prog 92 #[.slice A L.length c] w (RR w (fun R => R = L)) := by
  have qT : ∀ (w : World) (a : Option Addr) (n c n' c' : Nat), (binOp .eql 32 (.slice a n c) (.slice none n' c')).run Tryz.prog w = .ok (.bool a.isNone) w := fun w a n c n' c' => Lib.run_eql_slice_nil w _ _ a n c n' c' Tryz.underlying32
  cases A with
  | none =>
    obtain rfl := hz rfl
    go_enter Tryz.func92, Tryz.ntmps92
    go_wp2
    go_ret
    exact ⟨none, 0, [], rfl, OwR.nil _ _, rfl, Bl.refl w⟩
  | some a =>
    have own : OwR (w.alloc (.cells #[] 31)) w.heap.size (some ⟨w.heap.size, 0, none⟩) 0 [] := ⟨rfl, .inr ⟨w.heap.size, 0, #[], rfl, Nat.le_refl _, heap_alloc_new w _, Nat.le_refl _, Nat.zero_le _, rfl, rfl⟩⟩
    have hA1 := hA.bl ((Bl.refl w).alloc (.cells #[] 31))
    go_enter Tryz.func92, Tryz.ntmps92
    go_wp2_with (at_builtin; refine wp_app_src rfl (.tmp 5) (.tmp 6) rfl w.heap.size rfl w.heap.size own (some a) L c rfl hA1 (by simp) (by omega) (by simp) ?_; intro A' c' w' own2 ap2)
    go_ret
    exact ⟨A', c', L, rfl, own2, rfl, ap2.bl ((Bl.refl w).alloc _) (.inr ⟨w.heap.size, rfl, Nat.le_refl _, by simp⟩) (Nat.le_refl _)⟩

theorem Rs.fn {w : World} {b off : Nat} {L : List Rc} (h : RowR w b off L) : Row w b off L.length (fun k => L.getD k ⟨0, 0, 0, 0⟩) := fun k hk => by
  have := h k L[k] (List.getElem?_eq_getElem hk)
  simpa [List.getD, List.getElem?_eq_getElem hk] using this

end Go.Proofs.YtablogiielclaaaGreat
namespace Go.Proofs.YtablogiielclaaaGreat
open Go.RowKit Go.Sort Go.Deep

theorem setRow_by (w : World) (r : Nat) (cs : Array Value) : w.grownBy (w.setRow r cs) (some r) :=
  ⟨rfl, rfl, rfl, by simp [World.setRow], fun k _ hne => setRow_other w r k cs (by intro e; exact hne (by rw [e]))⟩
set_option maxRecDepth 100000 in
set_option maxHeartbeats 4000000 in
theorem sfstateN {sb : Nat} {v11 v12 v13 v14 v15 v16 v17 v18 v19 v20 v21 v22 v23 : Value} (ax ay s al p q r t : Int) (A : Option Addr) (c : Nat) (L : List Rc) (w : World) (h : At w sb #[.pointer none, .int .i64 ax, .int .i64 ay, .int .i64 s, .int .i64 al, .int .i64 p, .int .i64 q, .int .i64 r, .int .i64 t, .slice A L.length c, .string ⟨#[]⟩, v11, v12, v13, v14, v15, v16, v17, v18, v19, v20, v21, v22, v23] 140) (hA : Rs w A L) (hl : L.length ≤ 100000000) (hz : A = none → L = []) :
    Calls Tryz.prog 22 #[.pointer (some ⟨sb, 0, none⟩)] w (fun e w' => ∃ A' c', e = .returned (.agg #[.pointer none, .int .i64 ax, .int .i64 ay, .int .i64 s, .int .i64 al, .int .i64 p, .int .i64 q, .int .i64 r, .int .i64 t, .slice A' L.length c', .string ⟨#[]⟩]) ∧ OwR w' w.heap.size A' c' L ∧ Bl w w') := by
  have g0 := (Bl.refl w).alloc (.cells #[.pointer none, .int .i64 0, .int .i64 0, .int .i64 0, .int .i64 0, .int .i64 0, .int .i64 0, .int .i64 0, .int .i64 0, .slice none 0 0, .string ⟨#[]⟩] 60)
  have R0 := At.new w #[.pointer none, .int .i64 0, .int .i64 0, .int .i64 0, .int .i64 0, .int .i64 0, .int .i64 0, .int .i64 0, .int .i64 0, .slice none 0 0, .string ⟨#[]⟩] 60
  have h1 := h.alloc (.cells #[.pointer none, .int .i64 0, .int .i64 0, .int .i64 0, .int .i64 0, .int .i64 0, .int .i64 0, .int .i64 0, .int .i64 0, .slice none 0 0, .string ⟨#[]⟩] 60)
  have k0 := h1.cell 0; have k1 := h1.cell 1; have k2 := h1.cell 2; have k3 := h1.cell 3; have k4 := h1.cell 4; have k5 := h1.cell 5; have k6 := h1.cell 6; have k7 := h1.cell 7; have k8 := h1.cell 8; have k9 := h1.cell 9; have k10 := h1.cell 10
  have cC := fun (V : World) (g : Bl w V) => clone1 A c L V (hA.bl g) hl hz
  generalize hn : L.length = n at *
  replace hn := Lib.hid hn
  go_enter Tryz.func22, Tryz.ntmps22
  go_wp2_with fail
  refine (cC _ (g0.alloc _)).mono ?_
  rintro e v2 ⟨A2, c2, L2, rfl, o2, rfl, g2⟩
  have T2 := (At.newAt (w := w.alloc (.cells #[.pointer none, .int .i64 0, .int .i64 0, .int .i64 0, .int .i64 0, .int .i64 0, .int .i64 0, .int .i64 0, .int .i64 0, .slice none 0 0, .string ⟨#[]⟩] 60)) (n := w.heap.size + 1) (by simp) #[.pointer none, .int .i64 ax, .int .i64 ay, .int .i64 s, .int .i64 al, .int .i64 p, .int .i64 q, .int .i64 r, .int .i64 t, .slice A n c, .string ⟨#[]⟩] 60).bl g2
  have R2 := (R0.alloc _).bl g2
  have G2 := (g0.alloc _).trans g2
  have o3 := o2.base (B' := w.heap.size) (by simp; omega)
  have t9 := T2.free 9
  have t9c := T2.cell 9
  go_upto_region 5 with fail
  have T3 := T2.put 9 (.slice A2 L2.length c2)
  have R3 := R2.far (p := ⟨w.heap.size + 1, 9, none⟩) (by simp) (.slice A2 L2.length c2)
  have G3 := G2.st1 (p := ⟨w.heap.size + 1, 9, none⟩) (by simp) (.slice A2 L2.length c2)
  have o4 := o3.grown (By.set (p := ⟨w.heap.size + 1, 9, none⟩) (By.refl v2 _) (.slice A2 L2.length c2)) (by
    rcases o2.addr with ⟨rfl, _⟩ | ⟨g, rfl, h1, _⟩
    · exact .inl rfl
    · right
      simp at h1 ⊢
      omega)
  generalize v2.setCell ⟨w.heap.size + 1, 9, none⟩ (.slice A2 L2.length c2) = W at *
  simp at T3
  refine wp_region_lit ?_
  refine wpList_load_row rfl _ _ rfl (w.heap.size + 1) rfl 60 #[.pointer none, .int .i64 ax, .int .i64 ay, .int .i64 s, .int .i64 al, .int .i64 p, .int .i64 q, .int .i64 r, .int .i64 t, .slice A2 L2.length c2, .string ⟨#[]⟩] (0, 0) _ T3 Tryz.underlying60 rfl (by kernel_rfl) ?_
  refine wpList_store_row rfl 60 _ _ rfl w.heap.size #[.pointer none, .int .i64 ax, .int .i64 ay, .int .i64 s, .int .i64 al, .int .i64 p, .int .i64 q, .int .i64 r, .int .i64 t, .slice A2 L2.length c2, .string ⟨#[]⟩] rfl rfl 60 _ R3 (by kernel_rfl) rfl (by simp [Value.oneCell']) ?_
  have G5 := G3.srow (Nat.le_refl _) #[.pointer none, .int .i64 ax, .int .i64 ay, .int .i64 s, .int .i64 al, .int .i64 p, .int .i64 q, .int .i64 r, .int .i64 t, .slice A2 L2.length c2, .string ⟨#[]⟩]
  have R5 := R3.setRow #[.pointer none, .int .i64 ax, .int .i64 ay, .int .i64 s, .int .i64 al, .int .i64 p, .int .i64 q, .int .i64 r, .int .i64 t, .slice A2 L2.length c2, .string ⟨#[]⟩]
  have o5 := o4.grown (row := some w.heap.size) (setRow_by W w.heap.size #[.pointer none, .int .i64 ax, .int .i64 ay, .int .i64 s, .int .i64 al, .int .i64 p, .int .i64 q, .int .i64 r, .int .i64 t, .slice A2 L2.length c2, .string ⟨#[]⟩]) (by
    rcases o2.addr with ⟨rfl, _⟩ | ⟨g, rfl, h1, _⟩
    · exact .inl rfl
    · right
      simp at h1 ⊢
      omega)
  generalize W.setRow w.heap.size #[.pointer none, .int .i64 ax, .int .i64 ay, .int .i64 s, .int .i64 al, .int .i64 p, .int .i64 q, .int .i64 r, .int .i64 t, .slice A2 L2.length c2, .string ⟨#[]⟩] = W2 at *
  go_wp2
  exact bodyPost_ret (results_cell_row rfl _ _ w.heap.size 60 #[.pointer none, .int .i64 ax, .int .i64 ay, .int .i64 s, .int .i64 al, .int .i64 p, .int .i64 q, .int .i64 r, .int .i64 t, .slice A2 L2.length c2, .string ⟨#[]⟩] (0, 0) _ rfl R5 Tryz.underlying60 rfl (by kernel_rfl)) rfl ⟨A2, c2, by rw [hn.out], o5, G5⟩

end Go.Proofs.YtablogiielclaaaGreat
