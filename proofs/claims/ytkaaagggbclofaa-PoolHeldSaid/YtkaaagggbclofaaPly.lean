/-
  What is proved: the walk of the statement PoolHeld. No conditions but what an argument is.
-/
import Derived.Test.YtkaaagggbclofaaPlw
namespace Go.Proofs.Ytkaaagggbclofaa
open Go.ChangeShapes Go.WideShapes Go.ChangeAt Go.RowKit Go.Joins Go.Sort Go.Deep Go.Maps

/-- The buffer 7 of one point, named or not, held so often. -/
def bH (nm : Bool) (q : Nat) : Bf := ⟨7, nm, q, 1, 1, [0]⟩
theorem bH_mk : mkS [] 7 1 1 = [bH true 0] ∧ mkN [] 7 1 1 = 0 ∧ mkE [] 7 1 1 = 0 := by simp [mkS, mkN, mkE, plF, badW, newB, bH]
theorem bH_ho (q : Nat) : hoS [bH true q] 0 = [bH true (q + 1)] ∧ hoE [bH true q] 0 = 0 := by simp [hoS, hoE, atS, bH, Bf.th]
theorem bH_ds (q : Nat) : dsS [bH true q] 7 = [bH false q] ∧ fiE [bH true q] 7 = 0 := by simp [dsS, fiE, plF, bH]
theorem bH_w1 (q : Nat) (p r s t : Int) (bs : List Int) : wrS12 [bH true (q + 1)] 7 p r s t bs = [bH true (q + 1)] ∧ wrE12 [bH true (q + 1)] 7 p r s t bs = 8 := by simp [wrS12, wrE12, plF, bH]
theorem bH_w0 (q : Nat) (p r s t : Int) (bs : List Int) : wrS12 [bH false q] 7 p r s t bs = [bH false q] ∧ wrE12 [bH false q] 7 p r s t bs = 5 := by simp [wrS12, wrE12, plF, bH]
theorem bH_hd (nm : Bool) (q : Nat) : hdN [bH nm (q + 1)] 0 = ((q + 1 : Nat) : Int) := by simp [hdN, atS, bH, Bf.th]
theorem bH_le (nm : Bool) (q : Nat) : leS [bH nm (q + 1)] 0 = [bH nm q] ∧ leI [bH nm (q + 1)] 0 = 7 ∧ leB [bH nm (q + 1)] 0 = (nm && decide (q = 0)) := by simp [leS, leI, leB, atS, bH, Bf.th]
theorem bH_l0 (nm : Bool) : leS [bH nm 0] 0 = [bH nm 0] ∧ leI [bH nm 0] 0 = 0 ∧ leB [bH nm 0] 0 = false := by cases nm <;> simp [leS, leI, leB, atS, bH, Bf.th]
theorem PlL.up {w0 w : World} {pp nb bb n m : Nat} {Q : List Pq} {S : List Bf} (h : PlL w0 w pp nb bb Q S n) (hn : n ≤ m) : PlL w0 w pp nb bb Q S m := ⟨h.r.up hn, h.g, h.x⟩
theorem thL_le1 (s : Bf) : (thL [s]).length ≤ 1 := by
  unfold thL
  rw [List.length_map]
  exact List.length_filter_le _ _
theorem bH_th (nm : Bool) : (thL [bH nm 0]).length ≤ 1 := thL_le1 _
set_option maxRecDepth 100000 in
set_option maxHeartbeats 4000000 in
theorem held_core (n0 b0 b1 b2 b3 n2 : Int) (w : World) (hn0 : I64 n0) (hn2 : I64 n2) (hb0 : U8 b0) (hb1 : U8 b1) (hb2 : U8 b2) (hb3 : U8 b3) : Calls Try.prog 4 #[.int .i64 n0, .agg #[.int .u8 b0, .int .u8 b1, .int .u8 b2, .int .u8 b3], .int .i64 n2] w fun e w' => e = .returned (.bool true) ∧ Bl w w' := by
  have cl := fun V => plives1 V
  have z0 : I64 0 := by unfold I64; omega
  have z7 : I64 7 := by unfold I64; omega
  have cA := fun V => around1 n0 9 V hn0 (by omega)
  have cB := fun V => around1 n2 20 V hn2 (by omega)
  have hA := around_bd n0 9 (by omega)
  have hB := around_bd n2 20 (by omega)
  obtain ⟨N, hN⟩ : ∃ N : Nat, (N : Int) = 1 + around n0 9 := ⟨(1 + around n0 9).toNat, by omega⟩
  obtain ⟨Wh, hWh⟩ : ∃ Wh : Nat, (Wh : Int) = around n2 20 := ⟨(around n2 20).toNat, by omega⟩
  rw [← hWh] at cB
  have hN1 : 1 ≤ N := by omega
  have hN9 : N ≤ 9 := by omega
  generalize around n0 9 = an at *
  have sN : IntKind.i64.wrap (1 + an) = (N : Int) := by rw [hN]; exact IntWalk.i64_in _ (by omega)
  have sN2 : wrap64 (1 + an) = (N : Int) := by rw [hN]; unfold wrap64; omega
  replace hN := Lib.hid hN
  replace hWh := Lib.hid hWh
  clear hA hB
  obtain ⟨f1, f2, f3⟩ := bH_mk
  have cM := Lib.hid (fun V pp nb bb Q n (h : PlR V pp nb bb Q [] n) (hn : n ≤ 1000) => (show Calls Try.prog _ _ V (PmQ V pp nb bb Q [bH true 0] (n + 1) (.tuple #[.int .i64 0, .int .i64 0])) from by have := plMake1 h hn 7 1 1 z7; rw [f1, f2, f3] at this; exact this))
  have cH := Lib.hid (fun V pp nb bb Q n q (h : PlR V pp nb bb Q [bH true q] n) (hn : n ≤ 1000) => (show Calls Try.prog _ #[.pointer (some ⟨pp, 0, none⟩), .int .i64 0] V (PlQ V pp nb bb Q [bH true (q + 1)] (n + 1) (.int .i64 0)) from by have := plHold1 h hn 0 z0; rw [(bH_ho q).1, (bH_ho q).2] at this; exact this))
  have cD := Lib.hid (fun V pp nb bb Q n q (h : PlR V pp nb bb Q [bH true q] n) (hn : n ≤ 1000) => (show Calls Try.prog _ #[.pointer (some ⟨pp, 0, none⟩), .int .i64 7] V (PlQ V pp nb bb Q [bH false q] (n + 1) (.int .i64 0)) from by have := plDestroy1 h hn 7 z7; rw [(bH_ds q).1, (bH_ds q).2] at this; exact this))
  have nsB := fun (V : World) (b : Nat) (hb : At V b #[.int .u8 b0, .int .u8 b1, .int .u8 b2, .int .u8 b3] 38) => (show Ns .u8 V (some ⟨b, 0, none⟩) [b0, b1, b2, b3] from .inr ⟨b, 0, rfl, fun i x hi => by
    rw [Nat.zero_add, hb.cell]
    match i, hi with
    | 0, hi => simp at hi; subst hi; rfl
    | 1, hi => simp at hi; subst hi; rfl
    | 2, hi => simp at hi; subst hi; rfl
    | 3, hi => simp at hi; subst hi; rfl⟩)
  have b8 : ∀ x ∈ [b0, b1, b2, b3], U8 x := by simp; exact ⟨hb0, hb1, hb2, hb3⟩
  have cW1 := Lib.hid (fun V pp nb bb Q n q b (hb : At V b #[.int .u8 b0, .int .u8 b1, .int .u8 b2, .int .u8 b3] 38) (h : PlR V pp nb bb Q [bH true (q + 1)] n) (hn : n ≤ 1000) => (show Calls Try.prog _ #[.pointer (some ⟨pp, 0, none⟩), .int .i64 7, .agg #[.int .i64 0, .int .i64 0, .int .i64 1, .int .i64 1], .slice (some ⟨b, 0, none⟩) 4 4] V (PlQ V pp nb bb Q [bH true (q + 1)] (n + 1) (.int .i64 8)) from by
    have := plWrite1 h hn 7 z7 0 0 1 1 (some ⟨b, 0, none⟩) [b0, b1, b2, b3] 4 (nsB V b hb) b8 (by simp) (by unfold maxLen; omega); rw [(bH_w1 q _ _ _ _ _).1, (bH_w1 q _ _ _ _ _).2] at this; exact this))
  have cW0 := Lib.hid (fun V pp nb bb Q n q b (hb : At V b #[.int .u8 b0, .int .u8 b1, .int .u8 b2, .int .u8 b3] 38) (h : PlR V pp nb bb Q [bH false q] n) (hn : n ≤ 1000) => (show Calls Try.prog _ #[.pointer (some ⟨pp, 0, none⟩), .int .i64 7, .agg #[.int .i64 0, .int .i64 0, .int .i64 1, .int .i64 1], .slice (some ⟨b, 0, none⟩) 4 4] V (PlQ V pp nb bb Q [bH false q] (n + 1) (.int .i64 5)) from by
    have := plWrite1 h hn 7 z7 0 0 1 1 (some ⟨b, 0, none⟩) [b0, b1, b2, b3] 4 (nsB V b hb) b8 (by simp) (by unfold maxLen; omega); rw [(bH_w0 q _ _ _ _ _).1, (bH_w0 q _ _ _ _ _).2] at this; exact this))
  have cQ := Lib.hid (fun V pp nb bb Q n nm q (h : PlR V pp nb bb Q [bH nm (q + 1)] n) => (show Calls Try.prog _ #[.pointer (some ⟨pp, 0, none⟩), .int .i64 0] V (Rt V (.int .i64 ((q + 1 : Nat) : Int))) from by have := plHeld1 h 0 z0; rw [bH_hd] at this; exact this))
  have cL := Lib.hid (fun V pp nb bb Q n nm q (h : PlR V pp nb bb Q [bH nm (q + 1)] n) (hn : n ≤ 1000) => (show Calls Try.prog _ #[.pointer (some ⟨pp, 0, none⟩), .int .i64 0] V (PlQ V pp nb bb Q [bH nm q] (n + 1) (.tuple #[.int .i64 7, .bool (nm && decide (q = 0))])) from by have := plLet1 h hn 0 z0; rw [(bH_le nm q).1, (bH_le nm q).2.1, (bH_le nm q).2.2] at this; exact this))
  have cL0 := Lib.hid (fun V pp nb bb Q n nm (h : PlR V pp nb bb Q [bH nm 0] n) (hn : n ≤ 1000) => (show Calls Try.prog _ #[.pointer (some ⟨pp, 0, none⟩), .int .i64 0] V (PlQ V pp nb bb Q [bH nm 0] (n + 1) (.tuple #[.int .i64 0, .bool false])) from by have := plLet1 h hn 0 z0; rw [(bH_l0 nm).1, (bH_l0 nm).2.1, (bH_l0 nm).2.2] at this; exact this))
  have cI0 := Lib.hid (fun V pp nb bb Q n (h : PlR V pp nb bb Q [bH false 0] n) => plImg0 h 0 z0 (by simp [atS, bH, Bf.th]))
  have cI1 := Lib.hid (fun V pp nb bb Q n (h : PlR V pp nb bb Q [bH true 0] n) => plImg1 h 0 (bH true 0) z0 rfl rfl)
  have cT := Lib.hid (fun V pp nb bb Q n nm (h : PlR V pp nb bb Q [bH nm 0] n) (hn : n ≤ 1000) => plThere1 h hn)
  clear nsB b8 f1 f2 f3 z0 z7 hb0 hb1 hb2 hb3 hn0 hn2
  go_enter Try.func4, Try.ntmps4
  go_wp2_with fail
  have A0 := At.new w #[.int .u8 b0, .int .u8 b1, .int .u8 b2, .int .u8 b3] 38
  refine (plNewL (w.alloc (.cells #[.int .u8 b0, .int .u8 b1, .int .u8 b2, .int .u8 b3] 38)) _ (Bl.refl _)).mono ?_
  rintro e w1 ⟨pp, nb, bb, rfl, L1⟩
  have GW : Bl w (w.alloc (.cells #[.int .u8 b0, .int .u8 b1, .int .u8 b2, .int .u8 b3] 38)) := (Bl.refl w).alloc _
  generalize w.alloc (.cells #[.int .u8 b0, .int .u8 b1, .int .u8 b2, .int .u8 b3] 38) = W0 at *
  generalize w.heap.size = ab at *
  go_wp2_with fail
  refine (cA _).mono ?_
  rintro e w' ⟨rfl, rfl⟩
  go_wp2_with fail
  refine (cB _).mono ?_
  rintro e w' ⟨rfl, rfl⟩
  go_wp2_with fail
  refine (cM.out _ _ _ _ _ _ L1.r (by omega)).mono ?_
  rintro e w2 k2
  obtain ⟨Q, rfl, L2⟩ := L1.stepM k2
  clear k2 L1 cA cB cM
  go_wp2_with fail
  go_loopw [10] (fun iv wr => ∃ q : Nat, q ≤ N ∧ iv = .int .i64 (q : Int) ∧ PlL W0 wr pp nb bb Q [bH true q] (1 + q)) (fun iv _ => N - (intOf iv).toNat)
  case atStart => exact ⟨0, by omega, rfl, L2⟩
  case round =>
    clear L2
    obtain ⟨q, hq, rfl, L⟩ := hrel
    by_cases hlt : q < N
    · have q1 : decide ((q : Int) < (N : Int)) = true := by simpa using hlt
      go_wp2_with fail
      refine (cH.out _ _ _ _ _ _ _ L.r (by omega)).mono ?_
      rintro e v2 k2
      obtain ⟨rfl, L2⟩ := L.step k2
      clear k2 L
      go_wp2
      go_roundw
      case rel => exact ⟨q + 1, by omega, by go_num, by rw [show 1 + (q + 1) = 1 + q + 1 by omega]; exact L2⟩
      case measure => simp [intOf]; omega
    · obtain rfl : q = N := by omega
      have q1 : decide ((q : Int) < (q : Int)) = false := by simp
      clear hlt hq
      go_wp2_with fail
      go_loopw [11] (fun iv wr => ∃ r u : Nat, r + u = q ∧ r ≤ q ∧ iv = .int .i64 (r : Int) ∧ PlL W0 wr pp nb bb Q [bH (decide (r ≤ Wh)) u] (11 + 3 * r)) (fun iv _ => q - (intOf iv).toNat)
      case atStart => exact ⟨0, q, by omega, by omega, rfl, by simpa using PlL.up L (by omega)⟩
      case round =>
        clear L
        obtain ⟨r, u, hru, hr, rfl, L⟩ := hrel
        by_cases hlt2 : r < q
        · obtain ⟨u, rfl⟩ : ∃ v, u = v + 1 := ⟨u - 1, by omega⟩
          have q3 : decide ((r : Int) < (q : Int)) = true := by simpa using hlt2
          have hnx : (decide (r + 1 ≤ Wh)) = decide (r < Wh) := by congr 1
          have sU : IntKind.i64.wrap ((q : Int) - (r : Int)) = ((u + 1 : Nat) : Int) := by rw [show (q : Int) - (r : Int) = ((u + 1 : Nat) : Int) by omega]; exact IntWalk.i64_in _ (by omega)
          have sU2 : wrap64 ((q : Int) - (r : Int)) = ((u + 1 : Nat) : Int) := by rw [show (q : Int) - (r : Int) = ((u + 1 : Nat) : Int) by omega]; unfold wrap64; omega
          have sV : IntKind.i64.wrap ((q : Int) - 1) = (q : Int) - 1 := IntWalk.i64_in _ (by omega)
          have sV2 : wrap64 ((q : Int) - 1) = (q : Int) - 1 := by unfold wrap64; omega
          have sE : ((r : Int) == (q : Int) - 1) = decide (u = 0) := by
            by_cases hu : u = 0
            · have : (r : Int) = (q : Int) - 1 := by omega
              simp [hu, this]
            · have : ¬ (r : Int) = (q : Int) - 1 := by omega
              simp [hu, this]
          replace hru := Lib.hid hru
          replace hnx := Lib.hid hnx
          generalize hub : decide (u = 0) = ub at *
          replace hub := Lib.hid hub
          have cLx := Lib.hid (fun V pp nb bb Q n nm (h : PlR V pp nb bb Q [bH nm (u + 1)] n) (hn : n ≤ 1000) => (show Calls Try.prog _ #[.pointer (some ⟨pp, 0, none⟩), .int .i64 0] V (PlQ V pp nb bb Q [bH nm u] (n + 1) (.tuple #[.int .i64 7, .bool (nm && ub)])) from by have := cL.out V pp nb bb Q n nm u h hn; rw [hub.out] at this; exact this))
          rcases Nat.lt_trichotomy r Wh with hw | hw | hw
          · have d1 : decide (r ≤ Wh) = true := by simp; omega
            have d2 : decide (r < Wh) = true := by simp; omega
            have d3 : ((r : Int) == (Wh : Int)) = false := by simp; omega
            have d4 : decide ((r : Int) < (Wh : Int)) = true := by simp; omega
            rw [d1] at L
            clear d1
            replace hw := Lib.hid hw
            go_wp2_with fail
            refine (cW1.out _ _ _ _ _ _ _ _ (A0.bl L.g) L.r (by omega)).mono ?_
            rintro e v2 k2
            obtain ⟨rfl, L2⟩ := L.step k2
            clear k2 L
            go_wp2_with fail
            refine (cQ.out _ _ _ _ _ _ _ _ L2.r).mono ?_
            rintro e v3 ⟨rfl, k3⟩
            have L3 := L2.bl k3.bl
            clear k3 L2
            go_wp2_with fail
            refine (cLx.out _ _ _ _ _ _ _ L3.r (by omega)).mono ?_
            rintro e v4 k4
            obtain ⟨rfl, L4⟩ := L3.step k4
            clear k4 L3
            go_wp2
            go_roundw
            case rel => exact ⟨r + 1, u, by have := hru.out; omega, by omega, by go_num, by rw [hnx.out, d2]; exact PlL.up L4 (by omega)⟩
            case measure => simp [intOf]; omega
          · have d1 : decide (r ≤ Wh) = true := by simp; omega
            have d2 : decide (r < Wh) = false := by simp; omega
            have d3 : ((r : Int) == (Wh : Int)) = true := by simp; omega
            have d4 : decide ((r : Int) < (Wh : Int)) = false := by simp; omega
            rw [d1] at L
            clear d1
            replace hw := Lib.hid hw
            go_wp2_with fail
            refine (cD.out _ _ _ _ _ _ _ L.r (by omega)).mono ?_
            rintro e v1 k1
            obtain ⟨rfl, L1⟩ := L.step k1
            clear k1 L
            go_wp2_with fail
            refine (cW0.out _ _ _ _ _ _ _ _ (A0.bl L1.g) L1.r (by omega)).mono ?_
            rintro e v2 k2
            obtain ⟨rfl, L2⟩ := L1.step k2
            clear k2 L1
            go_wp2_with fail
            refine (cQ.out _ _ _ _ _ _ _ _ L2.r).mono ?_
            rintro e v3 ⟨rfl, k3⟩
            have L3 := L2.bl k3.bl
            clear k3 L2
            go_wp2_with fail
            refine (cLx.out _ _ _ _ _ _ _ L3.r (by omega)).mono ?_
            rintro e v4 k4
            obtain ⟨rfl, L4⟩ := L3.step k4
            clear k4 L3
            go_wp2
            go_roundw
            case rel => exact ⟨r + 1, u, by have := hru.out; omega, by omega, by go_num, by rw [hnx.out, d2]; exact PlL.up L4 (by omega)⟩
            case measure => simp [intOf]; omega
          · have d1 : decide (r ≤ Wh) = false := by simp; omega
            have d2 : decide (r < Wh) = false := by simp; omega
            have d3 : ((r : Int) == (Wh : Int)) = false := by simp; omega
            have d4 : decide ((r : Int) < (Wh : Int)) = false := by simp; omega
            rw [d1] at L
            clear d1
            replace hw := Lib.hid hw
            go_wp2_with fail
            refine (cW0.out _ _ _ _ _ _ _ _ (A0.bl L.g) L.r (by omega)).mono ?_
            rintro e v2 k2
            obtain ⟨rfl, L2⟩ := L.step k2
            clear k2 L
            go_wp2_with fail
            refine (cQ.out _ _ _ _ _ _ _ _ L2.r).mono ?_
            rintro e v3 ⟨rfl, k3⟩
            have L3 := L2.bl k3.bl
            clear k3 L2
            go_wp2_with fail
            refine (cLx.out _ _ _ _ _ _ _ L3.r (by omega)).mono ?_
            rintro e v4 k4
            obtain ⟨rfl, L4⟩ := L3.step k4
            clear k4 L3
            go_wp2
            go_roundw
            case rel => exact ⟨r + 1, u, by have := hru.out; omega, by omega, by go_num, by rw [hnx.out, d2]; exact PlL.up L4 (by omega)⟩
            case measure => simp [intOf]; omega
        · obtain rfl : r = q := by omega
          obtain rfl : u = 0 := by omega
          have q3 : decide ((r : Int) < (r : Int)) = false := by simp
          clear hlt2 hru hr
          cases hnm : decide (r ≤ Wh)
          · have d4 : decide ((r : Int) ≤ (Wh : Int)) = false := by simp at hnm ⊢; omega
            rw [hnm] at L
            go_wp2_with fail
            refine (cI0.out _ _ _ _ _ _ L.r).mono ?_
            rintro e v1 ⟨rfl, k1⟩
            have L1 := L.bl k1.bl
            clear k1 L
            go_wp2_with fail
            refine (cL0.out _ _ _ _ _ _ _ L1.r (by omega)).mono ?_
            rintro e v2 k2
            obtain ⟨rfl, L2⟩ := L1.step k2
            clear k2 L1
            have q5 : decide (((thL [bH false 0]).length : Int) ≤ 1) = true := by have := bH_th false; simp; omega
            have q6 : decide ((thL [bH false 0]).length ≤ 1) = true := by have := bH_th false; simpa using this
            have cTx := cT.out _ _ _ _ _ _ _ L2.r (by omega)
            generalize (thL [bH false 0]).length = tn at *
            go_wp2_with fail
            refine cTx.mono ?_
            rintro e v3 ⟨A3, c3, rfl, _, k3⟩
            go_wp2_with fail
            refine (cl _).mono ?_
            rintro e v4 ⟨rfl, k4⟩
            go_wp2
            go_ret
            exact ⟨rfl, ((GW.trans L2.g).trans k3).trans k4⟩
          · have d4 : decide ((r : Int) ≤ (Wh : Int)) = true := by simp at hnm ⊢; omega
            rw [hnm] at L
            obtain ⟨qm, qc, _, cIm⟩ := cI1.out _ _ _ _ _ _ L.r
            go_wp2_with fail
            refine cIm.mono ?_
            rintro e v1 ⟨rfl, k1⟩
            have L1 := L.bl k1.bl
            clear k1 L cIm
            go_wp2_with fail
            refine (cL0.out _ _ _ _ _ _ _ L1.r (by omega)).mono ?_
            rintro e v2 k2
            obtain ⟨rfl, L2⟩ := L1.step k2
            clear k2 L1
            have q5 : decide (((thL [bH true 0]).length : Int) ≤ 1) = true := by have := bH_th true; simp; omega
            have q6 : decide ((thL [bH true 0]).length ≤ 1) = true := by have := bH_th true; simpa using this
            have cTx := cT.out _ _ _ _ _ _ _ L2.r (by omega)
            generalize (thL [bH true 0]).length = tn at *
            go_wp2_with fail
            refine cTx.mono ?_
            rintro e v3 ⟨A3, c3, rfl, _, k3⟩
            go_wp2_with fail
            refine (cl _).mono ?_
            rintro e v4 ⟨rfl, k4⟩
            go_wp2
            go_ret
            exact ⟨rfl, ((GW.trans L2.g).trans k3).trans k4⟩
end Go.Proofs.Ytkaaagggbclofaa
