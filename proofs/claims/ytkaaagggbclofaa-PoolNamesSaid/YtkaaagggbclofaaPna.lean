/-
  What is proved: the walk of the statement PoolNames. No conditions but what an argument is.
-/
import Derived.Test.YtkaaagggbclofaaPlw
import Derived.Test.YtkaaagggbclofaaZz7
namespace Go.Proofs.Ytkaaagggbclofaa
open Go.ChangeShapes Go.WideShapes Go.ChangeAt Go.RowKit Go.Joins Go.Sort Go.Deep Go.Maps

def bN (nm : Bool) (q : Nat) (x : Int) : Bf := ⟨7, nm, q, 1, 1, [x]⟩
theorem may_255 {a b c : Int} (ha : U8 a) (hb : U8 b) (hc : U8 c) : mayC (colB 255 a b c) = true := by
  unfold U8 at ha hb hc
  unfold mayC pA pR pG pB colB
  rw [decide_eq_true_iff]
  refine ⟨?_, ?_, ?_⟩ <;> omega
theorem wt_one (x : Int) {a b c : Int} (ha : U8 a) (hb : U8 b) (hc : U8 c) : wtL 1 1 [x] 0 0 1 1 [255, a, b, c] = [colB 255 a b c] ∧ wtE 1 1 0 0 1 1 [255, a, b, c] = 0 := by
  have e1 : fitB 1 1 0 0 1 1 = true := by decide
  have e2 : areaI 0 0 1 1 = 1 := by decide
  have e3 : colAt [255, a, b, c] 0 = colB 255 a b c := rfl
  have e4 : okL [255, a, b, c] 1 = true := by
    rw [okL_iff]
    intro j hj
    obtain rfl : j = 0 := by omega
    rw [e3]; exact may_255 ha hb hc
  unfold wtL wtE
  rw [e1, e2]
  simp [e4, wrL, e3]
theorem nm_mk : mkS [] 7 1 1 = [bN true 0 0] ∧ mkN [] 7 1 1 = 0 ∧ mkE [] 7 1 1 = 0 := by simp [mkS, mkN, mkE, plF, badW, newB, bN]
theorem nm_w1 (x y : Int) (p r s t : Int) (bs : List Int) (h1 : wtL 1 1 [x] p r s t bs = [y]) (h2 : wtE 1 1 p r s t bs = 0) : wrS12 [bN true 0 x] 7 p r s t bs = [bN true 0 y] ∧ wrE12 [bN true 0 x] 7 p r s t bs = 0 := by simp [wrS12, wrE12, plF, bN, h1, h2]
theorem nm_ho (x : Int) : hoS [bN true 0 x] 0 = [bN true 1 x] := by simp [hoS, atS, bN, Bf.th]
theorem nm_ds (x : Int) : dsS [bN true 1 x] 7 = [bN false 1 x] ∧ fiE [bN true 1 x] 7 = 0 := by simp [dsS, fiE, plF, bN]
theorem nm_mk2 (x : Int) : mkS [bN false 1 x] 7 1 1 = [bN false 1 x, bN true 0 0] ∧ mkN [bN false 1 x] 7 1 1 = 1 ∧ mkE [bN false 1 x] 7 1 1 = 0 := by simp [mkS, mkN, mkE, plF, badW, newB, bN]
theorem nm_w2 (u x y : Int) (p r s t : Int) (bs : List Int) (h1 : wtL 1 1 [x] p r s t bs = [y]) (h2 : wtE 1 1 p r s t bs = 0) : wrS12 [bN false 1 u, bN true 0 x] 7 p r s t bs = [bN false 1 u, bN true 0 y] ∧ wrE12 [bN false 1 u, bN true 0 x] 7 p r s t bs = 0 := by simp [wrS12, wrE12, plF, bN, h1, h2]
theorem nm_le (x y : Int) : leS [bN false 1 x, bN true 0 y] 0 = [bN false 0 x, bN true 0 y] ∧ leI [bN false 1 x, bN true 0 y] 0 = 7 ∧ leB [bN false 1 x, bN true 0 y] 0 = false := by simp [leS, leI, leB, atS, bN, Bf.th]
theorem nm_fi (x y : Int) : plN 7 [bN false 0 x, bN true 0 y] = 1 ∧ fiE [bN false 0 x, bN true 0 y] 7 = 0 := by simp [plN, fiE, plF, bN]
theorem nm_th (x y : Int) : (thL [bN false 0 x, bN true 0 y]).length = 1 := by
  unfold thL
  rw [List.length_map]
  rfl
set_option maxRecDepth 100000 in
theorem color1 (a b c : Int) (ha : U8 a) (hb : U8 b) (hc : U8 c) (w : World) : Calls Try.prog 22 #[.agg #[.int .u8 a, .int .u8 b, .int .u8 c]] w (Rt w (.int .u32 (colB 255 a b c))) := by
  unfold U8 at ha hb hc
  have B0 := At.new w #[.int .u8 a, .int .u8 b, .int .u8 c] 54
  have c0 := B0.cell 0
  have c1 := B0.cell 1
  have c2 := B0.cell 2
  have g0 := (Gr.refl w).alloc (.cells #[.int .u8 a, .int .u8 b, .int .u8 c] 54)
  have e1 : IntKind.i64.wrap a = a := IntWalk.i64_in _ (by omega)
  have e2 : IntKind.i64.wrap b = b := IntWalk.i64_in _ (by omega)
  have e3 : IntKind.i64.wrap c = c := IntWalk.i64_in _ (by omega)
  have f1 : wrap64 a = a := by unfold wrap64; omega
  have f2 : wrap64 b = b := by unfold wrap64; omega
  have f3 : wrap64 c = c := by unfold wrap64; omega
  have k1 : wrap64 (a * 65536) = a * 65536 := by unfold wrap64; omega
  have k2 : wrap64 (4278190080 + a * 65536) = 4278190080 + a * 65536 := by unfold wrap64; omega
  have k3 : wrap64 (b * 256) = b * 256 := by unfold wrap64; omega
  have k4 : wrap64 (4278190080 + a * 65536 + b * 256) = 4278190080 + a * 65536 + b * 256 := by unfold wrap64; omega
  have k5 : wrap64 (4278190080 + a * 65536 + b * 256 + c) = 4278190080 + a * 65536 + b * 256 + c := by unfold wrap64; omega
  have m1 : IntKind.i64.wrap (a * 65536) = a * 65536 := IntWalk.i64_in _ (by omega)
  have m2 : IntKind.i64.wrap (4278190080 + a * 65536) = 4278190080 + a * 65536 := IntWalk.i64_in _ (by omega)
  have m3 : IntKind.i64.wrap (b * 256) = b * 256 := IntWalk.i64_in _ (by omega)
  have m4 : IntKind.i64.wrap (4278190080 + a * 65536 + b * 256) = 4278190080 + a * 65536 + b * 256 := IntWalk.i64_in _ (by omega)
  have m5 : IntKind.i64.wrap (4278190080 + a * 65536 + b * 256 + c) = 4278190080 + a * 65536 + b * 256 + c := IntWalk.i64_in _ (by omega)
  have hv : colB 255 a b c = 4278190080 + a * 65536 + b * 256 + c := by unfold colB; omega
  have u1 : IntKind.u32.wrap (4278190080 + a * 65536 + b * 256 + c) = 4278190080 + a * 65536 + b * 256 + c := by
    rw [← hv]; unfold colB; simp [IntKind.wrap, IntKind.signed, IntKind.bits]; omega
  rw [hv]
  clear hv ha hb hc B0
  go_enter Try.func22, Try.ntmps22
  go_wp2
  go_ret
  exact ⟨rfl, g0⟩

theorem PlR.notT {w : World} {pp nb bb n : Nat} {Q : List Pq} {S : List Bf} (h : PlR w pp nb bb Q S n) {b : Nat} {cs : Array Value} {t : TypeId} (hb : At w b cs t) (h1 : 66 ≠ t) (h2 : 87 ≠ t) (h3 : 56 ≠ t) : ¬ PlX pp nb bb Q b := by
  obtain ⟨⟨N, M, h, _, _⟩, _⟩ := h
  rintro (rfl | rfl | rfl | ⟨q, hq, hk⟩)
  · exact (h.hd.neP hb h1) rfl
  · exact (h.np.ne hb) rfl
  · exact (h.bp.ne hb) rfl
  · obtain ⟨j, hj⟩ := List.getElem?_of_mem hq
    obtain ⟨s, hs⟩ := list_at (l := S) (k := j) (by rw [← h.ln]; exact (List.getElem?_eq_some_iff.1 hj).1)
    have hc := h.bf j s q hs hj
    rcases hk with rfl | rfl
    · exact (hc.1.neP hb h2) rfl
    · exact (hc.2.cs.neP hb h3) rfl
theorem row4 {V : World} {b : Nat} {x0 x1 x2 x3 : Int} (hb : At V b #[.int .u8 x0, .int .u8 x1, .int .u8 x2, .int .u8 x3] 5) : Ns .u8 V (some ⟨b, 0, none⟩) [x0, x1, x2, x3] := .inr ⟨b, 0, rfl, fun i x hi => by
  rw [Nat.zero_add, hb.cell]
  match i, hi with
  | 0, hi => simp at hi; subst hi; rfl
  | 1, hi => simp at hi; subst hi; rfl
  | 2, hi => simp at hi; subst hi; rfl
  | 3, hi => simp at hi; subst hi; rfl⟩
set_option maxRecDepth 100000 in
set_option maxHeartbeats 4000000 in
theorem names_core (a0 a1 a2 b0 b1 b2 : Int) (w : World) (ha0 : U8 a0) (ha1 : U8 a1) (ha2 : U8 a2) (hb0 : U8 b0) (hb1 : U8 b1) (hb2 : U8 b2) : Calls Try.prog 5 #[.agg #[.int .u8 a0, .int .u8 a1, .int .u8 a2], .agg #[.int .u8 b0, .int .u8 b1, .int .u8 b2]] w fun e w' => e = .returned (.bool true) ∧ Bl w w' := by
  have cl := fun V => plives1 V
  have z0 : I64 0 := by unfold I64; omega
  have z1 : I64 1 := by unfold I64; omega
  have z7 : I64 7 := by unfold I64; omega
  have u255 : U8 255 := by unfold U8; omega
  have cA := fun V => color1 a0 a1 a2 ha0 ha1 ha2 V
  have cB := fun V => color1 b0 b1 b2 hb0 hb1 hb2 V
  have wA := wt_one 0 ha0 ha1 ha2
  have wB := wt_one 0 hb0 hb1 hb2
  have m8A : ∀ x ∈ [255, a0, a1, a2], U8 x := by simp; exact ⟨u255, ha0, ha1, ha2⟩
  have m8B : ∀ x ∈ [255, b0, b1, b2], U8 x := by simp; exact ⟨u255, hb0, hb1, hb2⟩
  generalize colB 255 a0 a1 a2 = ka at *
  generalize colB 255 b0 b1 b2 = kb at *
  have cM := Lib.hid (fun V pp nb bb Q n (h : PlR V pp nb bb Q [] n) (hn : n ≤ 1000) => (show Calls Try.prog _ _ V (PmQ V pp nb bb Q [bN true 0 0] (n + 1) (.tuple #[.int .i64 0, .int .i64 0])) from by have := plMake1 h hn 7 1 1 z7; rw [nm_mk.1, nm_mk.2.1, nm_mk.2.2] at this; exact this))
  have cW1 := Lib.hid (fun V pp nb bb Q n b (hb : At V b #[.int .u8 255, .int .u8 a0, .int .u8 a1, .int .u8 a2] 5) (h : PlR V pp nb bb Q [bN true 0 0] n) (hn : n ≤ 1000) => (show Calls Try.prog _ #[.pointer (some ⟨pp, 0, none⟩), .int .i64 7, .agg #[.int .i64 0, .int .i64 0, .int .i64 1, .int .i64 1], .slice (some ⟨b, 0, none⟩) 4 4] V (PlQ V pp nb bb Q [bN true 0 ka] (n + 1) (.int .i64 0)) from by
    have := plWrite1 h hn 7 z7 0 0 1 1 (some ⟨b, 0, none⟩) [255, a0, a1, a2] 4 (row4 hb) m8A (by simp) (by unfold maxLen; omega); rw [(nm_w1 _ _ _ _ _ _ _ wA.1 wA.2).1, (nm_w1 _ _ _ _ _ _ _ wA.1 wA.2).2] at this; exact this))
  have cH := Lib.hid (fun V pp nb bb Q n (h : PlR V pp nb bb Q [bN true 0 ka] n) (hn : n ≤ 1000) => (show Calls Try.prog _ #[.pointer (some ⟨pp, 0, none⟩), .int .i64 0] V (PlQ V pp nb bb Q [bN true 1 ka] (n + 1) (.int .i64 (hoE [bN true 0 ka] 0))) from by have := plHold1 h hn 0 z0; rw [nm_ho] at this; exact this))
  have cD := Lib.hid (fun V pp nb bb Q n (h : PlR V pp nb bb Q [bN true 1 ka] n) (hn : n ≤ 1000) => (show Calls Try.prog _ #[.pointer (some ⟨pp, 0, none⟩), .int .i64 7] V (PlQ V pp nb bb Q [bN false 1 ka] (n + 1) (.int .i64 0)) from by have := plDestroy1 h hn 7 z7; rw [(nm_ds ka).1, (nm_ds ka).2] at this; exact this))
  have cM2 := Lib.hid (fun V pp nb bb Q n (h : PlR V pp nb bb Q [bN false 1 ka] n) (hn : n ≤ 1000) => (show Calls Try.prog _ _ V (PmQ V pp nb bb Q [bN false 1 ka, bN true 0 0] (n + 1) (.tuple #[.int .i64 1, .int .i64 0])) from by have := plMake1 h hn 7 1 1 z7; rw [(nm_mk2 ka).1, (nm_mk2 ka).2.1, (nm_mk2 ka).2.2] at this; exact this))
  have cW2 := Lib.hid (fun V pp nb bb Q n b (hb : At V b #[.int .u8 255, .int .u8 b0, .int .u8 b1, .int .u8 b2] 5) (h : PlR V pp nb bb Q [bN false 1 ka, bN true 0 0] n) (hn : n ≤ 1000) => (show Calls Try.prog _ #[.pointer (some ⟨pp, 0, none⟩), .int .i64 7, .agg #[.int .i64 0, .int .i64 0, .int .i64 1, .int .i64 1], .slice (some ⟨b, 0, none⟩) 4 4] V (PlQ V pp nb bb Q [bN false 1 ka, bN true 0 kb] (n + 1) (.int .i64 0)) from by
    have := plWrite1 h hn 7 z7 0 0 1 1 (some ⟨b, 0, none⟩) [255, b0, b1, b2] 4 (row4 hb) m8B (by simp) (by unfold maxLen; omega); rw [(nm_w2 _ _ _ _ _ _ _ _ wB.1 wB.2).1, (nm_w2 _ _ _ _ _ _ _ _ wB.1 wB.2).2] at this; exact this))
  have cI0 := Lib.hid (fun V pp nb bb Q n (h : PlR V pp nb bb Q [bN false 1 ka, bN true 0 kb] n) => plImg1 h 0 (bN false 1 ka) z0 rfl rfl)
  have cI1 := Lib.hid (fun V pp nb bb Q n (h : PlR V pp nb bb Q [bN false 1 ka, bN true 0 kb] n) => plImg1 h 1 (bN true 0 kb) z1 rfl rfl)
  have cP := fun (V : World) (pm pc : Nat) (x : Int) (hI : Img V pm pc 1 1 [x]) => at1 V hI 0 0 (by omega) (by omega) x rfl
  have cL := Lib.hid (fun V pp nb bb Q n (h : PlR V pp nb bb Q [bN false 1 ka, bN true 0 kb] n) (hn : n ≤ 1000) => (show Calls Try.prog _ #[.pointer (some ⟨pp, 0, none⟩), .int .i64 0] V (PlQ V pp nb bb Q [bN false 0 ka, bN true 0 kb] (n + 1) (.tuple #[.int .i64 7, .bool false])) from by have := plLet1 h hn 0 z0; rw [(nm_le ka kb).1, (nm_le ka kb).2.1, (nm_le ka kb).2.2] at this; exact this))
  have cF := Lib.hid (fun V pp nb bb Q n (h : PlR V pp nb bb Q [bN false 0 ka, bN true 0 kb] n) => (show Calls Try.prog _ #[.pointer (some ⟨pp, 0, none⟩), .int .i64 7] V (Rt V (.tuple #[.int .i64 1, .int .i64 0])) from by have := plFind1 h 7 z7; rw [(nm_fi ka kb).1, (nm_fi ka kb).2] at this; exact this))
  have cT := Lib.hid (fun V pp nb bb Q n (h : PlR V pp nb bb Q [bN false 0 ka, bN true 0 kb] n) (hn : n ≤ 1000) => plThere1 h hn)
  have hth := nm_th ka kb
  generalize hoE [bN true 0 ka] 0 = hv at *
  have AA := (At.new w #[.int .u8 a0, .int .u8 a1, .int .u8 a2] 54).alloc (.cells #[.int .u8 b0, .int .u8 b1, .int .u8 b2] 54)
  have AB := At.newAt (w := w.alloc (.cells #[.int .u8 a0, .int .u8 a1, .int .u8 a2] 54)) (n := w.heap.size + 1) (by simp) #[.int .u8 b0, .int .u8 b1, .int .u8 b2] 54
  have GW := ((Bl.refl w).alloc (.cells #[.int .u8 a0, .int .u8 a1, .int .u8 a2] 54)).alloc (.cells #[.int .u8 b0, .int .u8 b1, .int .u8 b2] 54)
  clear wA wB m8A m8B ha0 ha1 ha2 hb0 hb1 hb2 u255 z0 z1 z7
  go_enter Try.func5, Try.ntmps5
  go_wp2_with fail
  refine (plNewL _ _ (Bl.refl _)).mono ?_
  rintro e w1 ⟨pp, nb, bb, rfl, L1⟩
  generalize (w.alloc (.cells #[.int .u8 a0, .int .u8 a1, .int .u8 a2] 54)).alloc (.cells #[.int .u8 b0, .int .u8 b1, .int .u8 b2] 54) = W0 at *
  have L2 := L1.bl ((Bl.refl w1).alloc (.cells #[.int .i64 0, .int .i64 0, .int .i64 1, .int .i64 1] 31))
  have R2 := At.new w1 #[.int .i64 0, .int .i64 0, .int .i64 1, .int .i64 1] 31
  generalize hW2 : w1.alloc (.cells #[.int .i64 0, .int .i64 0, .int .i64 1, .int .i64 1] 31) = W2 at *
  go_wp2_with fail
  try rw [hW2]
  replace hW2 := Lib.hid hW2
  generalize w1.heap.size = rb at *
  clear L1
  refine (cM.out _ _ _ _ _ _ L2.r (by omega)).mono ?_
  rintro e w3 k3
  have R3 := R2.kx k3.choose_spec.2.2.1 (L2.r.notT R2 (by decide) (by decide) (by decide))
  obtain ⟨Q3, rfl, L3⟩ := L2.stepM k3
  clear k3 L2 R2
  have r0 := R3.cell 0
  have r1 := R3.cell 1
  have r2 := R3.cell 2
  have r3 := R3.cell 3
  have a0c := (AA.bl L3.g).cell 0
  have a1c := (AA.bl L3.g).cell 1
  have a2c := (AA.bl L3.g).cell 2
  go_wp2_with fail
  clear r0 r1 r2 r3 a0c a1c a2c
  have R4 := R3.alloc (.cells #[.int .u8 255, .int .u8 a0, .int .u8 a1, .int .u8 a2] 5)
  have L4 := L3.bl ((Bl.refl w3).alloc (.cells #[.int .u8 255, .int .u8 a0, .int .u8 a1, .int .u8 a2] 5))
  have B4 := At.new w3 #[.int .u8 255, .int .u8 a0, .int .u8 a1, .int .u8 a2] 5
  clear L3 R3
  refine (cW1.out _ _ _ _ _ _ _ B4 L4.r (by omega)).mono ?_
  rintro e w5 k5
  have R5 := R4.kx k5.2.2 (L4.r.notT R4 (by decide) (by decide) (by decide))
  obtain ⟨rfl, L5⟩ := L4.step k5
  clear k5 L4 R4
  clear B4
  go_wp2_with fail
  refine (cH.out _ _ _ _ _ _ L5.r (by omega)).mono ?_
  rintro e w6 k6
  have R6 := R5.kx k6.2.2 (L5.r.notT R5 (by decide) (by decide) (by decide))
  obtain ⟨rfl, L6⟩ := L5.step k6
  clear k6 L5 R5
  go_wp2_with fail
  refine (cD.out _ _ _ _ _ _ L6.r (by omega)).mono ?_
  rintro e w7 k7
  have R7 := R6.kx k7.2.2 (L6.r.notT R6 (by decide) (by decide) (by decide))
  obtain ⟨rfl, L7⟩ := L6.step k7
  clear k7 L6 R6
  go_wp2_with fail
  refine (cM2.out _ _ _ _ _ _ L7.r (by omega)).mono ?_
  rintro e w8 k8
  have R8 := R7.kx k8.choose_spec.2.2.1 (L7.r.notT R7 (by decide) (by decide) (by decide))
  obtain ⟨Q8, rfl, L8⟩ := L7.stepM k8
  clear k8 L7 R7
  have r0 := R8.cell 0
  have r1 := R8.cell 1
  have r2 := R8.cell 2
  have r3 := R8.cell 3
  have a0c := (AB.bl L8.g).cell 0
  have a1c := (AB.bl L8.g).cell 1
  have a2c := (AB.bl L8.g).cell 2
  go_wp2_with fail
  clear r0 r1 r2 r3 a0c a1c a2c
  have R9 := R8.alloc (.cells #[.int .u8 255, .int .u8 b0, .int .u8 b1, .int .u8 b2] 5)
  have L9 := L8.bl ((Bl.refl w8).alloc (.cells #[.int .u8 255, .int .u8 b0, .int .u8 b1, .int .u8 b2] 5))
  have B9 := At.new w8 #[.int .u8 255, .int .u8 b0, .int .u8 b1, .int .u8 b2] 5
  clear L8 R8
  refine (cW2.out _ _ _ _ _ _ _ B9 L9.r (by omega)).mono ?_
  rintro e w10 k10
  have R10 := R9.kx k10.2.2 (L9.r.notT R9 (by decide) (by decide) (by decide))
  obtain ⟨rfl, L10⟩ := L9.step k10
  clear k10 L9 R9
  clear B9
  obtain ⟨m0, c0, I0, cI0x⟩ := cI0.out _ _ _ _ _ _ L10.r
  go_wp2_with fail
  refine (cI0x).mono ?_
  rintro e w11 ⟨rfl, k11⟩
  have R11 := R10.gr k11
  have L11 := L10.bl k11.bl
  replace I0 := I0.gr k11
  obtain ⟨m1, c1, I1, cI1x⟩ := cI1.out _ _ _ _ _ _ L11.r
  go_wp2_with fail
  refine (cI1x).mono ?_
  rintro e w12 ⟨rfl, k12⟩
  have R12 := R11.gr k12
  have L12 := L11.bl k12.bl
  replace I0 := I0.gr k12
  replace I1 := I1.gr k12
  go_wp2_with fail
  refine (cP _ _ _ _ I0).mono ?_
  rintro e w13 ⟨rfl, k13⟩
  have R13 := R12.gr k13
  have L13 := L12.bl k13.bl
  replace I1 := I1.gr k13
  go_wp2_with fail
  refine (cP _ _ _ _ I1).mono ?_
  rintro e w14 ⟨rfl, k14⟩
  have R14 := R13.gr k14
  have L14 := L13.bl k14.bl
  go_wp2_with fail
  refine (cL.out _ _ _ _ _ _ L14.r (by omega)).mono ?_
  rintro e w15 k15
  have R15 := R14.kx k15.2.2 (L14.r.notT R14 (by decide) (by decide) (by decide))
  obtain ⟨rfl, L15⟩ := L14.step k15
  clear k15 L14 R14
  go_wp2_with fail
  refine (cF.out _ _ _ _ _ _ L15.r).mono ?_
  rintro e w16 ⟨rfl, k16⟩
  have R16 := R15.gr k16
  have L16 := L15.bl k16.bl
  have a0c := (AA.bl L16.g).cell 0
  have a1c := (AA.bl L16.g).cell 1
  have a2c := (AA.bl L16.g).cell 2
  go_wp2_with fail
  refine (cA _).mono ?_
  rintro e w17 ⟨rfl, k17⟩
  have R17 := R16.gr k17
  have L17 := L16.bl k17.bl
  clear a0c a1c a2c
  have a0c := (AB.bl L17.g).cell 0
  have a1c := (AB.bl L17.g).cell 1
  have a2c := (AB.bl L17.g).cell 2
  go_wp2_with fail
  refine (cB _).mono ?_
  rintro e w18 ⟨rfl, k18⟩
  have R18 := R17.gr k18
  have L18 := L17.bl k18.bl
  have cTx := cT.out _ _ _ _ _ _ L18.r (by omega)
  rw [hth] at cTx
  go_wp2_with fail
  refine cTx.mono ?_
  rintro e v3 ⟨A3, c3, rfl, _, k3⟩
  go_wp2_with fail
  refine (cl _).mono ?_
  rintro e v4 ⟨rfl, k4⟩
  go_wp2
  go_ret
  exact ⟨rfl, ((GW.trans L18.g).trans k3).trans k4⟩

end Go.Proofs.Ytkaaagggbclofaa
