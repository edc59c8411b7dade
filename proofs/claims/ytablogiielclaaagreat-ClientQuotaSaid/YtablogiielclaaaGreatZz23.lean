/-
  What is proved: what buffer and surface of package client make of a client where they are done. Conditions: numbers are ints; few buffers. rows of ints as a generic row; what Same of the document's rows of ints hands back. No conditions but bounds. what Opaque, Damage and Frame of package surface do. No conditions but bounds. what a world keeps of which nothing has turned but some blocks. No conditions. that the document's own 'May' holds for every region. region.May holds for every region. what the rectangle round a region is. No conditions. what Damage and Frame of package surface do. No conditions but bounds. what Frame of package surface does. No conditions but bounds.
-/
import Derived.Test.YtablogiielclaaaGreatZz20
import Derived.Test.YtablogiielclaaaGreatZz22
import Derived.Test.YtablogiielclaaaGreatZz19
import Derived.Test.YtablogiielclaaaGreatZz2
import Derived.Test.YtablogiielclaaaGreatZz21
import Derived.Test.YtablogiielclaaaGreatZz9
import Derived.Test.YtablogiielclaaaGreatZz8
import Derived.BigQuiet
import Derived.Deep.QuietTactic
import Derived.Shelf.SlSortCmp.QuietGrown
import Derived.StillTailTactics
namespace Go.Proofs.YtablogiielclaaaGreat
open Go.ChangeShapes Go.WideShapes Go.ChangeAt Go.RowKit Go.Joins Go.Sort Go.Deep Go.Maps

theorem Kx.drewK {X : Nat → Prop} {a b : World} (h : Kx X a b) : Kx X a b.drew := h.gr (Bl.refl b).drew
theorem addIE_ok0 {L : List Ik} {i k : Int} (h : addIE 32 L i k = 0) : addIL 32 L i k = insL (i, k) L := by unfold addIL; rw [if_pos h]
theorem step_updW {ops : Array Oper} {o : Oper} {a : Act} {w : World} {K : Act → World → Prop} {Q : Exit → Act → World → Prop} {E : Prop} (hgd : o.guard = none) (m x v : Operand) (hop : o.op = Op.mapUpdate 186 m x v) (b : Nat) (M : List Ik) (i : Int) (k : Nat)
    (hm : a.eval m = .map (some b)) (hx : a.eval x = .int .i64 i) (hv : a.eval v = .pointer (some ⟨k, 0, none⟩)) (h : Pm w b M) (hi : I64 i) (hno : hasI M i = false) (hl : M.length < maxLen)
    (hK : ∀ w', Pm w' b (insL (i, (k : Int)) M) → w.grownBy w' (some b) → K (a.put o.dst undef) w') : if Region.wanted o (yielded ops a.tmps) = true then Oper.wp Tryz.prog o a w K Q else E := by
  rw [if_pos (by simp [Region.wanted, hgd])]
  obtain ⟨w', hrun, r1, r2⟩ := World.ownsMap.update h keyInt Tryz.underlying186 hl (keyOf_int_mk Tryz.underlying3 (wf64 hi)) (show pElem (.pointer (some ⟨k, 0, none⟩)) = some (.lit (.int .i64 (k : Int)), []) from rfl)
  rw [put_dmap hno] at r1
  unfold Oper.wp
  simp [execOp, hop, hm, hx, hv, hrun, Result.andThen]
  exact hK _ (Pm.of r1) r2
section
variable {w : World} {cb n : Nat} {v : Cv} {L : List Ik} {S : List Bf} {M : List Ik}
set_option maxRecDepth 100000 in
set_option maxHeartbeats 1000000 in
/-- A buffer is made. -/
theorem clbuf1 (h : ClR w cb v L S n M) (hn : n ≤ 1000) (op i r0 r1 r2 r3 : Int) (H1 H2 : Nat) (s : ByteArray) (D : Option Addr) (m c : Nat) (hi : I64 i) (he : addIE 32 L i 1 = 0) (hf : plF i S = none) (q1 : 1 ≤ H1) (q2 : H1 ≤ 256) (q3 : 1 ≤ H2) (q4 : H2 ≤ 256) :
    Calls Tryz.prog 169 #[.pointer (some ⟨cb, 0, none⟩), .agg #[.int .i64 op, .int .i64 i, .int .i64 (H1 : Int), .int .i64 (H2 : Int), .int .i64 r0, .int .i64 r1, .int .i64 r2, .int .i64 r3, .string s, .slice D m c]] w fun e w' => ∃ Q', e = .returned (.tuple #[.slice none 0 0, .slice none 0 0, .int .i64 0]) ∧ ClR w' cb { v with Q := Q' } (insL (i, 1) L) (S ++ [newB i H1 H2]) (n + 1) M ∧ Kx (ClX v) w w' ∧ ∀ k, ClX { v with Q := Q' } k → ClX v k ∨ w.heap.size ≤ k := by
  have hL := addIE_ok0 he
  go_enter Tryz.func169, Tryz.ntmps169
  go_upto_region 1 with fail
  generalize hW : World.alloc w _ = W
  have R1 : At W w.heap.size #[.int .i64 op, .int .i64 i, .int .i64 (H1 : Int), .int .i64 (H2 : Int), .int .i64 r0, .int .i64 r1, .int .i64 r2, .int .i64 r3, .string s, .slice D m c] 101 := by rw [← hW]; exact At.new w _ _
  have G : Bl w W := by rw [← hW]; exact (Bl.refl w).alloc _
  have hr : w.heap.size < W.heap.size := R1.lt
  clear hW
  have hC := h.bl G
  have cA := Lib.hid (fun (V : World) (g : Bl W V) => (show Calls Tryz.prog 223 #[.pointer (some ⟨v.ia, 0, none⟩), .int .i64 i, .int .i64 1] V (fun e w' => e = .returned (.int .i64 0) ∧ Tb w' v.ia v.ib 32 (insL (i, 1) L) ∧ V.grownBy w' (some v.ib)) from by
    have := idAdd1 (hC.tb.bl g) i 1 hi (by unfold I64; omega)
    rw [he, hL] at this
    exact this))
  have SK := Lib.hid (fun (V : World) (g : W.grownBy V (some v.ib)) => (show V.cell? ⟨cb, 0, none⟩ = some (.pointer (some ⟨v.ia, 0, none⟩)) ∧ V.cell? ⟨w.heap.size, 1, none⟩ = some (.int .i64 i) ∧ W.grownBy V (some v.ib) from
    ⟨(hC.hd.grown g (fun e => hC.tb.mp.no _ _ (by rw [← Option.some.inj e]; exact hC.hd))).cell 0, (R1.grown g (fun e => hC.tb.mp.no _ _ (by rw [← Option.some.inj e]; exact R1))).cell 1, g⟩))
  clear hL he
  go_region_held3 (fun V => V.cell? ⟨cb, 0, none⟩ = some (.pointer (some ⟨v.ia, 0, none⟩)) ∧ V.cell? ⟨w.heap.size, 1, none⟩ = some (.int .i64 i) ∧ W.grownBy V (some v.ib)) ((refine SK.out _ ?_; repeat (first | with_reducible assumption | with_reducible exact by_refl _ _ | with_reducible exact By.refl _ _ | with_reducible exact By.trans (by_drew (by_refl _ _)) gA | with_reducible exact By.trans (by_refl _ _) gA | with_reducible apply by_drew))) ((first | (go_at_call 223; (refine (cA.out _ (by first | with_reducible exact Bl.refl _ | with_reducible exact (Bl.refl _).drew)).mono ?_); rintro e V7 ⟨rfl, tA, gA⟩) | fail))
  clear SK cA
  have gB : W.grownBy V7 (some v.ib) := By.trans (by_drew (by_refl _ _)) gA
  go_upto_region 4 with fail
  have hC7 := hC.ids gB tA
  have R7 := R1.grown gB (fun e => hC.tb.mp.no _ _ (by rw [← Option.some.inj e]; exact R1))
  have k7 : Kx (ClX v) w V7 := (Kx.bl G).then (Kx.by gB (.inl rfl))
  have s7 := gB.size
  clear gA tA gB
  have cM := Lib.hid (fun (V : World) (g : Bl V7 V) => plMakeN (hC7.pl.bl g) hn i H1 H2 hi hf q1 q2 q3 q4)
  have SK4 := Lib.hid (fun (V : World) (g : Kx (PlX v.pp v.nb v.bb v.Q) V7 V) => (show V.cell? ⟨cb, 1, none⟩ = some (.pointer (some ⟨v.pp, 0, none⟩)) ∧ V.cell? ⟨w.heap.size, 1, none⟩ = some (.int .i64 i) ∧ V.cell? ⟨w.heap.size, 2, none⟩ = some (.int .i64 (H1 : Int)) ∧ V.cell? ⟨w.heap.size, 3, none⟩ = some (.int .i64 (H2 : Int)) ∧ Kx (PlX v.pp v.nb v.bb v.Q) V7 V from
    ⟨(hC7.hd.kx g (hC7.pl.notT hC7.hd (by decide) (by decide) (by decide))).cell 1, (R7.kx g (hC7.pl.notT R7 (by decide) (by decide) (by decide))).cell 1, (R7.kx g (hC7.pl.notT R7 (by decide) (by decide) (by decide))).cell 2, (R7.kx g (hC7.pl.notT R7 (by decide) (by decide) (by decide))).cell 3, g⟩))
  clear hf q1 q2 q3 q4
  go_region_held3 (fun V => V.cell? ⟨cb, 1, none⟩ = some (.pointer (some ⟨v.pp, 0, none⟩)) ∧ V.cell? ⟨w.heap.size, 1, none⟩ = some (.int .i64 i) ∧ V.cell? ⟨w.heap.size, 2, none⟩ = some (.int .i64 (H1 : Int)) ∧ V.cell? ⟨w.heap.size, 3, none⟩ = some (.int .i64 (H2 : Int)) ∧ Kx (PlX v.pp v.nb v.bb v.Q) V7 V) ((refine SK4.out _ ?_; repeat (first | with_reducible assumption | with_reducible exact Kx.refl _ _ | with_reducible exact (Kx.refl _ _).drewK | with_reducible exact kN | with_reducible apply Kx.drewK))) ((first | (go_at_call 224; (refine (cM.out _ (by first | with_reducible exact Bl.refl _ | with_reducible exact (Bl.refl _).drew)).mono ?_); rintro e V8 ⟨Q', rfl, p8, k8, x8⟩; have kN : Kx (PlX v.pp v.nb v.bb v.Q) V7 V8 := (Kx.bl (Bl.refl V7).drew).then k8) | fail))
  clear SK4 cM
  go_wp2
  go_ret3
  have hx : ∀ j, PlX v.pp v.nb v.bb Q' j → PlX v.pp v.nb v.bb v.Q j ∨ V7.heap.size ≤ j := x8
  have hsz : w.heap.size ≤ V7.heap.size := k7.size
  refine ⟨Q', rfl, hC7.pool kN p8 hx, k7.then (kN.up fun k hk => .inr (.inr hk)), fun k hk => ?_⟩
  rcases hk with hk | hk | hk
  · exact .inl (.inl hk)
  · exact .inl (.inr (.inl hk))
  · rcases hx k hk with h' | h'
    · exact .inl (.inr (.inr h'))
    · exact .inr (Nat.le_trans hsz h')
set_option maxHeartbeats 1000000 in
/-- A surface's id is refused. -/
theorem clsurf0 (h : ClR w cb v L S n M) (op i a b r0 r1 r2 r3 : Int) (s : ByteArray) (D : Option Addr) (m c : Nat) (hi : I64 i) (e0 : Int) (he : addIE 32 L i 2 = e0) (hne : e0 ≠ 0) :
    Calls Tryz.prog 172 #[.pointer (some ⟨cb, 0, none⟩), .agg #[.int .i64 op, .int .i64 i, .int .i64 a, .int .i64 b, .int .i64 r0, .int .i64 r1, .int .i64 r2, .int .i64 r3, .string s, .slice D m c]] w fun e w' => e = .returned (.tuple #[.slice none 0 0, .slice none 0 0, .int .i64 e0]) ∧ ClR w' cb v L S n M ∧ Kx (ClX v) w w' := by
  have hb1 : (e0 != 0) = true := by simpa using hne
  have hL : addIL 32 L i 2 = L := by unfold addIL; rw [if_neg (by rw [he]; exact hne)]
  go_enter Tryz.func172, Tryz.ntmps172
  go_upto_region 1 with fail
  generalize hW : World.alloc w _ = W
  have R1 : At W w.heap.size #[.int .i64 op, .int .i64 i, .int .i64 a, .int .i64 b, .int .i64 r0, .int .i64 r1, .int .i64 r2, .int .i64 r3, .string s, .slice D m c] 101 := by rw [← hW]; exact At.new w _ _
  have G : Bl w W := by rw [← hW]; exact (Bl.refl w).alloc _
  have hr : w.heap.size < W.heap.size := R1.lt
  clear hW
  have hC := h.bl G
  have cA := Lib.hid (fun (V : World) (g : Bl W V) => (show Calls Tryz.prog 223 #[.pointer (some ⟨v.ia, 0, none⟩), .int .i64 i, .int .i64 2] V (fun e w' => e = .returned (.int .i64 e0) ∧ Tb w' v.ia v.ib 32 L ∧ V.grownBy w' (some v.ib)) from by
    have := idAdd1 (hC.tb.bl g) i 2 hi (by unfold I64; omega)
    rw [he, hL] at this
    exact this))
  have SK := Lib.hid (fun (V : World) (g : W.grownBy V (some v.ib)) => (show V.cell? ⟨cb, 0, none⟩ = some (.pointer (some ⟨v.ia, 0, none⟩)) ∧ V.cell? ⟨w.heap.size, 1, none⟩ = some (.int .i64 i) ∧ W.grownBy V (some v.ib) from
    ⟨(hC.hd.grown g (fun e => hC.tb.mp.no _ _ (by rw [← Option.some.inj e]; exact hC.hd))).cell 0, (R1.grown g (fun e => hC.tb.mp.no _ _ (by rw [← Option.some.inj e]; exact R1))).cell 1, g⟩))
  clear hL he
  go_region_held3 (fun V => V.cell? ⟨cb, 0, none⟩ = some (.pointer (some ⟨v.ia, 0, none⟩)) ∧ V.cell? ⟨w.heap.size, 1, none⟩ = some (.int .i64 i) ∧ W.grownBy V (some v.ib)) ((refine SK.out _ ?_; repeat (first | with_reducible assumption | with_reducible exact by_refl _ _ | with_reducible exact By.refl _ _ | with_reducible exact By.trans (by_drew (by_refl _ _)) gA | with_reducible exact By.trans (by_refl _ _) gA | with_reducible apply by_drew))) ((first | (go_at_call 223; (refine (cA.out _ (by first | with_reducible exact Bl.refl _ | with_reducible exact (Bl.refl _).drew)).mono ?_); rintro e V7 ⟨rfl, tA, gA⟩) | fail))
  clear SK cA
  have gB : W.grownBy V7 (some v.ib) := By.trans (by_drew (by_refl _ _)) gA
  go_wp2
  go_ret3
  exact ⟨rfl, hC.ids gB tA, (Kx.bl G).then (Kx.by gB (.inl rfl))⟩
/-- A window, and its surface, as they are made. -/
def WinQ (w : World) (wb sb : Nat) : Prop := At w wb #[.pointer (some ⟨sb, 0, none⟩), .int .i64 (-1), .int .i64 (-1), .int .i64 0, .int .i64 0] 305 ∧ At w sb #[.pointer none, .int .i64 0, .int .i64 0, .int .i64 1, .int .i64 255, .int .i64 (-1048576), .int .i64 (-1048576), .int .i64 1048576, .int .i64 1048576, .slice none 0 0, .string ⟨#[]⟩, .pointer none, .int .i64 0, .int .i64 0, .int .i64 1, .int .i64 255, .int .i64 (-1048576), .int .i64 (-1048576), .int .i64 1048576, .int .i64 1048576, .slice none 0 0, .string ⟨#[]⟩, .slice none 0 0, .slice none 0 0] 140
theorem surf_fin {w0 V7 U V9 : World} {L' : List Ik} {i : Int} {sb wb : Nat} (hC7 : ClR V7 cb v L' S n M) (k7 : Kx (ClX v) w0 V7) (B : Bl V7 U) (SB : At U sb #[.pointer none, .int .i64 0, .int .i64 0, .int .i64 1, .int .i64 255, .int .i64 (-1048576), .int .i64 (-1048576), .int .i64 1048576, .int .i64 1048576, .slice none 0 0, .string ⟨#[]⟩, .pointer none, .int .i64 0, .int .i64 0, .int .i64 1, .int .i64 255, .int .i64 (-1048576), .int .i64 (-1048576), .int .i64 1048576, .int .i64 1048576, .slice none 0 0, .string ⟨#[]⟩, .slice none 0 0, .slice none 0 0] 140) (WB : At U wb #[.pointer (some ⟨sb, 0, none⟩), .int .i64 (-1), .int .i64 (-1), .int .i64 0, .int .i64 0] 305) (hwb : V7.heap.size ≤ wb) (hsb : V7.heap.size ≤ sb) (P9 : Pm V9 v.wm (insL (i, (wb : Int)) M)) (g9 : U.grownBy V9 (some v.wm)) :
    ∃ wb sb : Nat, ClR V9 cb v L' S n (insL (i, (wb : Int)) M) ∧ WinQ V9 wb sb ∧ Kx (ClX v) w0 V9 ∧ w0.heap.size ≤ wb ∧ w0.heap.size ≤ sb := by
  have hw := hC7.wd.bl B
  exact ⟨wb, sb, (hC7.bl B).wins g9 P9, ⟨WB.grown g9 (fun e => hw.no _ _ (by rw [← Option.some.inj e]; exact WB)), SB.grown g9 (fun e => hw.no _ _ (by rw [← Option.some.inj e]; exact SB))⟩, (k7.gr B).then (Kx.by g9 (.inr (.inl rfl))), Nat.le_trans k7.size hwb, Nat.le_trans k7.size hsb⟩
set_option maxRecDepth 100000 in
set_option maxHeartbeats 1000000 in
/-- A surface is made. -/
theorem clsurf1 (h : ClR w cb v L S n M) (op i a b r0 r1 r2 r3 : Int) (s : ByteArray) (D : Option Addr) (m c : Nat) (hi : I64 i) (he : addIE 32 L i 2 = 0) (hM : hasI M i = false) (hMl : M.length < maxLen) :
    Calls Tryz.prog 172 #[.pointer (some ⟨cb, 0, none⟩), .agg #[.int .i64 op, .int .i64 i, .int .i64 a, .int .i64 b, .int .i64 r0, .int .i64 r1, .int .i64 r2, .int .i64 r3, .string s, .slice D m c]] w fun e w' => e = .returned (.tuple #[.slice none 0 0, .slice none 0 0, .int .i64 0]) ∧ ∃ wb sb : Nat, ClR w' cb v (insL (i, 2) L) S n (insL (i, (wb : Int)) M) ∧ WinQ w' wb sb ∧ Kx (ClX v) w w' ∧ w.heap.size ≤ wb ∧ w.heap.size ≤ sb := by
  have hL := addIE_ok0 he
  go_enter Tryz.func172, Tryz.ntmps172
  go_upto_region 1 with fail
  generalize hW : World.alloc w _ = W
  have R1 : At W w.heap.size #[.int .i64 op, .int .i64 i, .int .i64 a, .int .i64 b, .int .i64 r0, .int .i64 r1, .int .i64 r2, .int .i64 r3, .string s, .slice D m c] 101 := by rw [← hW]; exact At.new w _ _
  have G : Bl w W := by rw [← hW]; exact (Bl.refl w).alloc _
  have hr : w.heap.size < W.heap.size := R1.lt
  clear hW
  have hC := h.bl G
  have cA := Lib.hid (fun (V : World) (g : Bl W V) => (show Calls Tryz.prog 223 #[.pointer (some ⟨v.ia, 0, none⟩), .int .i64 i, .int .i64 2] V (fun e w' => e = .returned (.int .i64 0) ∧ Tb w' v.ia v.ib 32 (insL (i, 2) L) ∧ V.grownBy w' (some v.ib)) from by
    have := idAdd1 (hC.tb.bl g) i 2 hi (by unfold I64; omega)
    rw [he, hL] at this
    exact this))
  have SK := Lib.hid (fun (V : World) (g : W.grownBy V (some v.ib)) => (show V.cell? ⟨cb, 0, none⟩ = some (.pointer (some ⟨v.ia, 0, none⟩)) ∧ V.cell? ⟨w.heap.size, 1, none⟩ = some (.int .i64 i) ∧ W.grownBy V (some v.ib) from
    ⟨(hC.hd.grown g (fun e => hC.tb.mp.no _ _ (by rw [← Option.some.inj e]; exact hC.hd))).cell 0, (R1.grown g (fun e => hC.tb.mp.no _ _ (by rw [← Option.some.inj e]; exact R1))).cell 1, g⟩))
  clear hL he
  go_region_held3 (fun V => V.cell? ⟨cb, 0, none⟩ = some (.pointer (some ⟨v.ia, 0, none⟩)) ∧ V.cell? ⟨w.heap.size, 1, none⟩ = some (.int .i64 i) ∧ W.grownBy V (some v.ib)) ((refine SK.out _ ?_; repeat (first | with_reducible assumption | with_reducible exact by_refl _ _ | with_reducible exact By.refl _ _ | with_reducible exact By.trans (by_drew (by_refl _ _)) gA | with_reducible exact By.trans (by_refl _ _) gA | with_reducible apply by_drew))) ((first | (go_at_call 223; (refine (cA.out _ (by first | with_reducible exact Bl.refl _ | with_reducible exact (Bl.refl _).drew)).mono ?_); rintro e V7 ⟨rfl, tA, gA⟩) | fail))
  clear SK cA
  have gB : W.grownBy V7 (some v.ib) := By.trans (by_drew (by_refl _ _)) gA
  go_upto_region 4 with fail
  have hC7 := hC.ids gB tA
  have R7 := R1.grown gB (fun e => hC.tb.mp.no _ _ (by rw [← Option.some.inj e]; exact R1))
  have k7 : Kx (ClX v) w V7 := (Kx.bl G).then (Kx.by gB (.inl rfl))
  have s7 := gB.size
  clear gA tA gB
  have SK := Lib.hid (fun (V : World) (g : Bl V7 V) => (show At V cb #[.pointer (some ⟨v.ia, 0, none⟩), .pointer (some ⟨v.pp, 0, none⟩), .map (some v.wm)] 188 ∧ At V w.heap.size #[.int .i64 op, .int .i64 i, .int .i64 a, .int .i64 b, .int .i64 r0, .int .i64 r1, .int .i64 r2, .int .i64 r3, .string s, .slice D m c] 101 from ⟨hC7.hd.bl g, R7.bl g⟩))
  have SKU := Lib.hid (fun (U V : World) (g : Bl V7 U) (g9 : U.grownBy V (some v.wm)) => (show At V cb #[.pointer (some ⟨v.ia, 0, none⟩), .pointer (some ⟨v.pp, 0, none⟩), .map (some v.wm)] 188 ∧ At V w.heap.size #[.int .i64 op, .int .i64 i, .int .i64 a, .int .i64 b, .int .i64 r0, .int .i64 r1, .int .i64 r2, .int .i64 r3, .string s, .slice D m c] 101 from ⟨(hC7.hd.bl g).grown g9 (fun e => (hC7.wd.bl g).no _ _ (by rw [← Option.some.inj e]; exact hC7.hd.bl g)), (R7.bl g).grown g9 (fun e => (hC7.wd.bl g).no _ _ (by rw [← Option.some.inj e]; exact R7.bl g))⟩))
  refine wp_region_held_drew (S := fun V => At V cb #[.pointer (some ⟨v.ia, 0, none⟩), .pointer (some ⟨v.pp, 0, none⟩), .map (some v.wm)] 188 ∧ At V w.heap.size #[.int .i64 op, .int .i64 i, .int .i64 a, .int .i64 b, .int .i64 r0, .int .i64 r1, .int .i64 r2, .int .i64 r3, .string s, .slice D m c] 101) (by kernel_rfl) (SK.out _ (Bl.refl _).drew) (fun hHeld => ?_)
  have B0 : Bl V7 V7.drew := (Bl.refl _).drew
  have hs7 : V7.heap.size ≤ V7.drew.heap.size := B0.size
  generalize V7.drew = U0 at *
  refine wpAnyH_take (i := 0) (v := ?_) rfl (by kernel_rfl) (by kernel_rfl) (by kernel_rfl) (fun _ _ _ h => h) (Or.inl ⟨by rfl, ?hy3001⟩) (by assumption) ?rest3001
  case hy3001 => intro w' hSw; go_simp; (try with_reducible rfl)
  try simp only [Act.put, List.setIfInBounds_toArray, List.set_cons_zero, List.set_cons_succ, List.getElem_toArray, List.getElem_cons_zero]
  refine wpAnyH_take (i := 1) (v := ?_) rfl (by kernel_rfl) (by kernel_rfl) (by kernel_rfl) (fun _ _ _ h => h) (Or.inl ⟨by rfl, ?hy3002⟩) (by assumption) ?rest3002
  case hy3002 => intro w' hSw; go_simp; (try with_reducible rfl)
  try simp only [Act.put, List.setIfInBounds_toArray, List.set_cons_zero, List.set_cons_succ, List.getElem_toArray, List.getElem_cons_succ, List.getElem_cons_zero]
  refine wpAnyH_take (i := 2) (v := ?_) rfl (by kernel_rfl) (by kernel_rfl) (by kernel_rfl) (fun _ _ _ h => h) (Or.inl ⟨by rfl, ?hy3003⟩) (by assumption) ?rest3003
  case hy3003 => intro w' hSw; go_simp; (try with_reducible rfl)
  try simp only [Act.put, List.setIfInBounds_toArray, List.set_cons_zero, List.set_cons_succ, List.getElem_toArray, List.getElem_cons_succ, List.getElem_cons_zero]
  refine wpAnyH_take (i := 3) (v := ?_) rfl (by kernel_rfl) (by kernel_rfl) (by kernel_rfl) (fun _ _ _ h => h) (Or.inl ⟨by rfl, ?hy3004⟩) (by assumption) ?rest3004
  case hy3004 => intro w' hSw; have hc : w'.cell? ⟨cb, 2, none⟩ = some (.map (some v.wm)) := hSw.1.cell 2; go_simp; (try with_reducible rfl)
  try simp only [Act.put, List.setIfInBounds_toArray, List.set_cons_zero, List.set_cons_succ, List.getElem_toArray, List.getElem_cons_succ, List.getElem_cons_zero]
  refine wpAnyH_take (i := 4) (v := ?_) rfl (by kernel_rfl) (by kernel_rfl) (by kernel_rfl) (fun _ _ _ h => h) (Or.inl ⟨by rfl, ?hy3005⟩) (by assumption) ?rest3005
  case hy3005 => intro w' hSw; go_simp; (try with_reducible rfl)
  try simp only [Act.put, List.setIfInBounds_toArray, List.set_cons_zero, List.set_cons_succ, List.getElem_toArray, List.getElem_cons_succ, List.getElem_cons_zero]
  refine wpAnyH_take (i := 5) (v := ?_) rfl (by kernel_rfl) (by kernel_rfl) (by kernel_rfl) (fun _ _ _ h => h) (Or.inl ⟨by rfl, ?hy3006⟩) (by assumption) ?rest3006
  case hy3006 => intro w' hSw; have hc : w'.cell? ⟨w.heap.size, 1, none⟩ = some (.int .i64 i) := hSw.2.cell 1; go_simp; (try with_reducible rfl)
  try simp only [Act.put, List.setIfInBounds_toArray, List.set_cons_zero, List.set_cons_succ, List.getElem_toArray, List.getElem_cons_succ, List.getElem_cons_zero]
  refine wpAnyH_ready (rs := [6]) (by kernel_rfl) (by simp) (AllReadyH.cons rfl (fun K9 hK9 => ?_) AllReadyH.nil)
  go_simp
  refine (sfnew1 _).mono ?_
  rintro e U1 ⟨sb, rfl, hsb, SB, g2⟩
  have B3 : Bl V7 U1 := Bl.trans B0 g2
  refine hK9.out _ _ ((by first | exact SK.out _ B3 | exact SKU.out _ _ B3 gw9)) (fun _ => ?_)
  clear hK9 K9
  try simp only [Act.put, List.setIfInBounds_toArray, List.set_cons_zero, List.set_cons_succ, List.getElem_toArray, List.getElem_cons_succ, List.getElem_cons_zero]
  refine wpAnyH_take (i := 7) (v := ?_) rfl (by kernel_rfl) (by kernel_rfl) (by kernel_rfl) (fun _ _ _ h => h) (Or.inl ⟨by rfl, ?hy3007⟩) (by assumption) ?rest3007
  case hy3007 => intro w' hSw; go_simp; (try with_reducible rfl)
  try simp only [Act.put, List.setIfInBounds_toArray, List.set_cons_zero, List.set_cons_succ, List.getElem_toArray, List.getElem_cons_succ, List.getElem_cons_zero]
  refine wpAnyH_ready (rs := [8]) (by kernel_rfl) (by simp) (AllReadyH.cons rfl (fun K9 hK9 => ?_) AllReadyH.nil)
  go_simp
  have B5 : Bl V7 _ := Bl.alloc B3 (.cells #[.pointer (some ⟨sb, 0, none⟩), .int .i64 (-1), .int .i64 (-1), .int .i64 0, .int .i64 0] 305)
  have Y7 := SB.alloc (.cells #[.pointer (some ⟨sb, 0, none⟩), .int .i64 (-1), .int .i64 (-1), .int .i64 0, .int .i64 0] 305)
  have Y8 := At.new U1 #[.pointer (some ⟨sb, 0, none⟩), .int .i64 (-1), .int .i64 (-1), .int .i64 0, .int .i64 0] 305
  have n9 : sb ≠ U1.heap.size := Nat.ne_of_lt SB.lt
  have hswb : V7.heap.size ≤ U1.heap.size := Bl.size B3
  generalize U1.alloc (.cells #[.pointer (some ⟨sb, 0, none⟩), .int .i64 (-1), .int .i64 (-1), .int .i64 0, .int .i64 0] 305) = U4 at *
  generalize U1.heap.size = b6 at *
  refine hK9.out _ _ ((by first | exact SK.out _ B5 | exact SKU.out _ _ B5 gw9)) (fun _ => ?_)
  clear hK9 K9
  try simp only [Act.put, List.setIfInBounds_toArray, List.set_cons_zero, List.set_cons_succ, List.getElem_toArray, List.getElem_cons_succ, List.getElem_cons_zero]
  refine wpAnyH_ready (rs := [9]) (by kernel_rfl) (by simp) (AllReadyH.cons rfl (fun K9 hK9 => ?_) AllReadyH.nil)
  have Pm9 := hC7.wd.bl B5
  refine step_updW rfl _ _ _ rfl v.wm M i b6 rfl rfl rfl Pm9 hi hM hMl ?_
  intro V9 Pw9 gw9
  refine hK9.out _ _ ((by first | exact SK.out _ B5 | exact SKU.out _ _ B5 gw9)) (fun _ => ?_)
  clear hK9 K9
  try simp only [Act.put, List.getElem_toArray, List.getElem_cons_succ, List.getElem_cons_zero]
  refine wpAnyH_done (by kernel_rfl) ?_ _
  go_wp2
  go_ret3
  refine ⟨rfl, surf_fin hC7 k7 B5 Y7 Y8 hswb (Nat.le_trans hs7 hsb) Pw9 gw9⟩
end

end Go.Proofs.YtablogiielclaaaGreat
namespace Go.Proofs.YtablogiielclaaaGreat
open Go.ChangeShapes Go.WideShapes Go.ChangeAt Go.RowKit Go.Joins Go.Sort Go.Deep

def shI : Shp Int := ⟨1, fun x => [.int .i64 x], fun _ => rfl, fun x u h => by simp at h; subst h; rfl, by omega⟩
abbrev OwInt := shI.Ow 3
end Go.Proofs.YtablogiielclaaaGreat
namespace Go.Proofs.YtablogiielclaaaGreat
open Go.RowKit Go.Sort Go.Deep

/-- What is kept of a region. -/
def kpL (L : List Rc) : List Rc := if L.length ≤ 64 then L else [hullR (fun k => L.getD k ⟨0, 0, 0, 0⟩) L.length]
end Go.Proofs.YtablogiielclaaaGreat
namespace Go.Proofs.YtablogiielclaaaGreat
open Go.RowKit Go.Sort Go.Deep

theorem OwR.kx {X : Nat → Prop} {w w' : World} {B c : Nat} {A : Option Addr} {L : List Rc} (h : OwR w B A c L) (g : Kx X w w') (hx : Xf w X 31) : OwR w' B A c L := by
  rcases h.2 with ⟨h1, h2⟩ | ⟨b, cap, cur, h1, h2, h3, h4⟩
  · exact ⟨h.1, .inl ⟨h1, h2⟩⟩
  · exact ⟨h.1, .inr ⟨b, cap, cur, h1, h2, (show At w' b cur 31 from At.kt h3 g hx), h4⟩⟩
theorem ImgX.kx {X : Nat → Prop} {w w' : World} {pm pc W H : Nat} {L : List Int} {Sp : List Value} (h : ImgX w pm pc W H L Sp) (g : Kx X w w') (h1 : Xf w X 173) (h2 : Xf w X 52) : ImgX w' pm pc W H L Sp :=
  { h with hd := h.hd.kt g h1, cs := h.cs.kt g h2 }
theorem Img.kx {X : Nat → Prop} {w w' : World} {pm pc W H : Nat} {L : List Int} (h : Img w pm pc W H L) (g : Kx X w w') (h1 : Xf w X 173) (h2 : Xf w X 52) : Img w' pm pc W H L := (h.x.kx g h1 h2).o

end Go.Proofs.YtablogiielclaaaGreat
namespace Go.Proofs.YtablogiielclaaaGreat
open Go.RowKit Go.Sort

/-- Where the document's May stands in a region: behind j rectangles of band b. -/
def MayI (B : List Bn) (fr i : Nat) : Prop := (i = 0 ∧ fr = 0) ∨ ∃ B1 b B2 j, B = B1 ++ b :: B2 ∧ fr = (rectsL B1).length ∧ i = fr + j ∧ 1 ≤ j ∧ 2 * j ≤ b.E.length
end Go.Proofs.YtablogiielclaaaGreat
namespace Go.Proofs.YtablogiielclaaaGreat
open Go.RowKit Go.Sort

def flwB (p r : Rc) : Bool := if p.b = r.b ∧ p.d = r.d then decide (p.c < r.a) else decide (p.d ≤ r.b)

end Go.Proofs.YtablogiielclaaaGreat
namespace Go.Proofs.YtablogiielclaaaGreat
open Go.ChangeShapes Go.WideShapes Go.ChangeAt Go.RowKit Go.Joins Go.Sort Go.Deep

/-- What the least rectangle round rectangles that have points is. -/
structure HullQ (f : Nat → Rc) (k : Nat) (H : Rc) : Prop where
  a : ∃ i, i ≤ k ∧ (f i).a = H.a
  b : ∃ i, i ≤ k ∧ (f i).b = H.b
  c : ∃ i, i ≤ k ∧ (f i).c = H.c
  d : ∃ i, i ≤ k ∧ (f i).d = H.d
  le : ∀ i, i ≤ k → H.a ≤ (f i).a ∧ H.b ≤ (f i).b ∧ (f i).c ≤ H.c ∧ (f i).d ≤ H.d
def PtR (r : Rc) : Prop := r.a < r.c ∧ r.b < r.d
theorem PtR.ne {r : Rc} (h : PtR r) : emptyB r.a r.b r.c r.d = false := by
  unfold PtR at h; unfold emptyB; simp; omega
/-- The hull of a region. -/
structure HlQ (L : List Rc) (H : Rc) : Prop where
  left : ∃ r ∈ L, r.a = H.a
  right : ∃ r ∈ L, r.c = H.c
  top : ∀ r, L[0]? = some r → r.b = H.b
  low : ∀ r, L[L.length - 1]? = some r → r.d = H.d
  inn : ∀ r ∈ L, H.a ≤ r.a ∧ H.b ≤ r.b ∧ r.c ≤ H.c ∧ r.d ≤ H.d
  pt : PtR H
  mem : ∀ X Y, InR X Y L → InR X Y [H]
def lf (f : Rc → Int) (z : Int) (L : List Rc) (k : Nat) : Bool := (L.take k).any fun r => f r == z
end Go.Proofs.YtablogiielclaaaGreat
namespace Go.Proofs.YtablogiielclaaaGreat
open Go.RowKit Go.Sort Go.Deep

/-- The damage with one rectangle more. -/
noncomputable def dmL (dm : List Rc) (r : Rc) : List Rc := kpL (rg fun x y => hasL dm x y || hasB r.a r.b r.c r.d x y)
theorem near_lenS {R : List Rc} (h : IsReg R) (hi : InR near near R) : R.length ≤ 1000000 := reg_len h hi grid_near
def NearR (r : Rc) : Prop := -4 ≤ r.a ∧ r.a ≤ 31 ∧ -4 ≤ r.b ∧ r.b ≤ 31 ∧ -4 ≤ r.c ∧ r.c ≤ 31 ∧ -4 ≤ r.d ∧ r.d ≤ 31
theorem NearR.ne {r : Rc} (h : NearR r) : InNe near near [r] := fun q hq _ => by
  rw [List.mem_singleton] at hq
  subst hq
  unfold NearR at h
  simp only [near_mem]
  omega

/-- What a union of the damage and one rectangle is. -/
def UnQ (dm : List Rc) (r : Rc) (R : List Rc) : Prop := InR near near R ∧ Rgn R (fun x y => hasL dm x y || hasB r.a r.b r.c r.d x y)
end Go.Proofs.YtablogiielclaaaGreat
namespace Go.Proofs.YtablogiielclaaaGreat
open Go.RowKit Go.Sort Go.Deep

/-- The surface's own block, and that in which its frames lie. -/
def SfX (sb : Nat) (A : Option Addr) (k : Nat) : Prop := k = sb ∨ A.map (·.block) = some k
end Go.Proofs.YtablogiielclaaaGreat
