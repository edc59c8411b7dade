/-
  What is proved: what find of package client tells, and what commit makes of a surface that was just made. Conditions: numbers are ints.
-/
import Derived.Test.YtablogiielclaaaGreatZz23
import Derived.Test.YtablogiielclaaaGreatZz21
import Derived.Test.YtablogiielclaaaGreatZz25
import Derived.Great.BuildSlice
namespace Go.Proofs.YtablogiielclaaaGreat
open Go.ChangeShapes Go.WideShapes Go.ChangeAt Go.RowKit Go.Joins Go.Sort Go.Deep Go.Maps

theorem run_lookW {w : World} {b : Nat} {M : List Ik} {i : Int} (h : Pm w b M) (hi : I64 i) {q : Nat} (hn : kindL M i = q) (ht : hasI M i = true) : (Instr.lookup 186 (.map (some b)) (.int .i64 i) false).run Tryz.prog w = .ok (.pointer (some ⟨q, 0, none⟩)) w := by
  obtain ⟨v, ps, hrun, hv⟩ := World.ownsMap.lookup (zd := .lit (.int .i64 (-1))) (zp := []) h keyInt Tryz.underlying186 (show (zeroValue 303).run Tryz.prog w = .ok (.pointer none) w from by kernel_rfl) rfl (keyOf_int_mk Tryz.underlying3 (wf64 hi))
  rw [hrun]
  rw [atKey_dmap, ht, hn] at hv
  rcases pElem_inv hv with ⟨c, rfl, hc⟩ | ⟨rfl, hc⟩
  · simp at hc
    obtain rfl : q = c := by omega
    rfl
  · simp at hc
section
variable {ops : Array Oper} {rest : List Oper} {o : Oper} {a : Act} {w : World} {Q : Exit → Act → World → Prop}
theorem wp_lookW (hgd : o.guard = none) (m x : Operand) (hop : o.op = Op.lookup 186 m x false) (b : Nat) (M : List Ik) (i : Int) (hm : a.eval m = .map (some b)) (hx : a.eval x = .int .i64 i) (h : Pm w b M) (hi : I64 i)
    (q : Nat) (hn : kindL M i = q) (ht : hasI M i = true) (hK : wpList Tryz.prog ops Q rest (a.put o.dst (.pointer (some ⟨q, 0, none⟩))) w) : wpList Tryz.prog ops Q (o :: rest) a w := by
  refine wpList_plain hgd fun K' hK' => ?_
  unfold Oper.wp
  simp [execOp, hop, hm, hx, run_lookW h hi hn ht, Result.andThen]
  exact hK' _ _ hK
end
section
variable {w : World} {cb n : Nat} {v : Cv} {L : List Ik} {S : List Bf} {M : List Ik}
theorem clfind1 (h : ClR w cb v L S n M) (i : Int) (hi : I64 i) (wb : Nat) (hf : findE L i 2 = 0) (hk : kindL M i = wb) (hm : hasI M i = true) :
    Calls Tryz.prog 230 #[.pointer (some ⟨cb, 0, none⟩), .int .i64 i] w (Rt w (.tuple #[.pointer (some ⟨wb, 0, none⟩), .int .i64 0])) := by
  have cF := idFind1 h.tb i 2 hi
  rw [hf] at cF
  have c0 := h.hd.cell 0
  go_enter Tryz.func230, Tryz.ntmps230
  go_wp2_with fail
  refine cF.mono ?_
  rintro e w1 ⟨rfl, g1⟩
  have c2 := (h.hd.gr g1).cell 2
  go_wp2_with (at_lookup; refine wp_lookW rfl _ _ rfl v.wm M i rfl rfl (h.wd.bl g1.bl) hi wb hk hm ?_)
  go_ret2
  exact ⟨rfl, g1⟩
theorem cltake0 (cb wb sb : Nat) (h : At w wb #[.pointer (some ⟨sb, 0, none⟩), .int .i64 (-1), .int .i64 (-1), .int .i64 0, .int .i64 0] 305) :
    Calls Tryz.prog 243 #[.pointer (some ⟨cb, 0, none⟩), .pointer (some ⟨wb, 0, none⟩)] w (Rt w (.slice none 0 0)) := by
  have c1 := h.cell 1
  have c2 := h.cell 2
  go_enter Tryz.func243, Tryz.ntmps243
  go_wp2
  go_ret
  exact ⟨rfl, Gr.refl _⟩
end
def nvP : Pv := ⟨none, none, 0, none, [], none, 0, none, 0, none, 0⟩
theorem no_has (x y : Int) : hasL [] x y = hasB 0 0 0 0 x y := by
  cases h : hasB 0 0 0 0 x y
  · rfl
  · simp [hasB] at h; omega
theorem prs_new {w : World} {sb wb : Nat} (h : WinQ w wb sb) : PrS w sb firstS nvP :=
  ⟨h.2, ⟨fun e => (by cases e), fun _ => rfl⟩, fun e => (by cases e), fun _ => rfl, OwR.nil _ _, OwR.nil _ _, Nat.zero_le _, fun x y => no_has x y, OwR.nil _ _, OwI.nil _ _⟩
theorem com_first : comS firstS = firstS := by
  unfold comS
  rw [if_pos (by rfl)]
  unfold newT
  rw [if_neg (by simp [firstS])]
  rfl
theorem newW {w' : World} {sb : Nat} {v' : Pv} (p : PrS w' sb firstS v') (_hr : v'.AR = none) : ∃ (AO : Option Addr) (cO : Nat) (v11 v12 v13 v14 v15 v16 v17 v18 v19 v20 v21 v22 v23 : Value), At w' sb #[.pointer none, .int .i64 0, .int .i64 0, .int .i64 1, .int .i64 255, .int .i64 (-1048576), .int .i64 (-1048576), .int .i64 1048576, .int .i64 1048576, .slice AO 0 cO, .string ⟨#[]⟩, v11, v12, v13, v14, v15, v16, v17, v18, v19, v20, v21, v22, v23] 140 ∧ OwR w' 0 AO cO [] := by
  have h := p.hd
  rw [p.im.no rfl] at h
  exact ⟨v'.AO, v'.cO, _, _, _, _, _, _, _, _, _, _, _, _, _, h, p.op⟩
section
variable {w : World} {cb n : Nat} {v : Cv} {L : List Ik} {S : List Bf} {M : List Ik}
set_option maxRecDepth 100000 in
set_option maxHeartbeats 4000000 in
/-- A surface that was just made is committed. -/
theorem clcommit0 (h : ClR w cb v L S n M) (op i a b r0 r1 r2 r3 : Int) (s : ByteArray) (D : Option Addr) (m c : Nat) (hi : I64 i) (wb sb : Nat) (hf : findE L i 2 = 0) (hk : kindL M i = wb) (hm : hasI M i = true) (hW : WinQ w wb sb) :
    Calls Tryz.prog 185 #[.pointer (some ⟨cb, 0, none⟩), .agg #[.int .i64 op, .int .i64 i, .int .i64 a, .int .i64 b, .int .i64 r0, .int .i64 r1, .int .i64 r2, .int .i64 r3, .string s, .slice D m c]] w fun e w' => ∃ (k : Nat) (A9 : Option Addr) (c9 : Nat) (A3 : Option Addr) (nD c3 : Nat), e = .returned (.tuple #[.slice none 0 0, .slice (some ⟨k, 0, none⟩) 1 1, .int .i64 0]) ∧ At w' k #[.int .i64 0, .int .i64 i, .pointer none, .int .i64 0, .int .i64 0, .int .i64 1, .int .i64 255, .int .i64 (-1048576), .int .i64 (-1048576), .int .i64 1048576, .int .i64 1048576, .slice A9 0 c9, .string ⟨#[]⟩, .slice A3 nD c3, .slice none 0 0, .int .i64 (-1), .int .i64 0, .int .i64 0, .int .i64 0, .int .i64 0] 121 ∧ Kx (fun k => k = sb ∨ k = wb) w w' := by
  have nsb : sb ≠ wb := hW.2.neP hW.1 (by decide)
  go_enter Tryz.func185, Tryz.ntmps185
  go_upto_region 1 with fail
  generalize hW : World.alloc w _ = W
  have R1 : At W w.heap.size #[.int .i64 op, .int .i64 i, .int .i64 a, .int .i64 b, .int .i64 r0, .int .i64 r1, .int .i64 r2, .int .i64 r3, .string s, .slice D m c] 101 := by rw [← hW]; exact At.new w _ _
  have G : Bl w W := by rw [← hW]; exact (Bl.refl w).alloc _
  have hr : w.heap.size < W.heap.size := R1.lt
  clear hW
  have hC := h.bl G
  have W1 := hW.1.bl G
  have P1 : PrS W sb firstS nvP := (prs_new hW).bl G
  have cF := Lib.hid (clfind1 hC i hi wb hf hk hm)
  have d1 := R1.cell 1
  have gF := Lib.hid (firstS_good)
  clear hf hk hm h hC
  go_wp2_with fail
  refine (cF.out).mono ?_
  rintro e w1 ⟨rfl, g1⟩
  have w10 := (W1.gr g1).cell 0
  have cC := Lib.hid (sfcommitS (P1.bl g1.bl) gF.out rfl)
  go_wp2_with fail
  refine (cC.out).mono ?_
  rintro e w2 ⟨v', A3, c3, rfl, P2, hAR, _, _, _, k2⟩
  rw [com_first] at P2
  rw [show (Value.slice nvP.AR firstS.fr.length nvP.cR) = Value.slice none 0 0 from rfl]
  obtain ⟨AO, cO, v11, v12, v13, v14, v15, v16, v17, v18, v19, v20, v21, v22, v23, hS2, hO2⟩ := newW P2 hAR
  have W2 := (W1.gr g1).kx k2 (Ne.symm nsb)
  have R2 := (R1.gr g1).kx k2 (fun e => (R1.neP (hW.2.bl G) (by decide)) e)
  clear d1 w10 cF cC P1 P2
  obtain ⟨nD, hnD⟩ : ∃ x, x = (dmgS firstS).length := ⟨_, rfl⟩
  obtain ⟨na, hna⟩ : ∃ x, x = areaL (copS firstS) := ⟨_, rfl⟩
  rw [← hnD, ← hna]
  replace hnD := Lib.hid hnD
  replace hna := Lib.hid hna
  have D2 := At.new w2 #[.slice A3 nD c3, .slice none 0 0, .int .i64 na] 48
  go_upto_region 7 with fail
  generalize hV7 : World.alloc w2 _ = V7
  have W7 : At V7 wb #[.pointer (some ⟨sb, 0, none⟩), .int .i64 (-1), .int .i64 (-1), .int .i64 0, .int .i64 0] 305 := by rw [← hV7]; exact W2.alloc _
  have R7 : At V7 w.heap.size #[.int .i64 op, .int .i64 i, .int .i64 a, .int .i64 b, .int .i64 r0, .int .i64 r1, .int .i64 r2, .int .i64 r3, .string s, .slice D m c] 101 := by rw [← hV7]; exact R2.alloc _
  have D7 : At V7 w2.heap.size #[.slice A3 nD c3, .slice none 0 0, .int .i64 na] 48 := by rw [← hV7]; exact D2
  have S7 : At V7 sb #[.pointer none, .int .i64 0, .int .i64 0, .int .i64 1, .int .i64 255, .int .i64 (-1048576), .int .i64 (-1048576), .int .i64 1048576, .int .i64 1048576, .slice AO 0 cO, .string ⟨#[]⟩, v11, v12, v13, v14, v15, v16, v17, v18, v19, v20, v21, v22, v23] 140 := by rw [← hV7]; exact hS2.alloc _
  have O7 : OwR V7 0 AO cO [] := by rw [← hV7]; exact hO2.bl ((Bl.refl _).alloc _)
  have K7 : Kx (fun k => k = sb) w V7 := by rw [← hV7]; exact (((Kx.bl G).then (Kx.bl g1.bl)).then k2).gr ((Bl.refl _).alloc _)
  clear hV7 W2 R2 D2 hS2 hO2 W1 R1 G g1 k2
  obtain ⟨db, hdb⟩ : ∃ x, x = w2.heap.size := ⟨_, rfl⟩
  rw [← hdb] at D7 ⊢
  clear hdb
  go_wp2_with fail
  refine (cltake0 cb wb sb W7).mono ?_
  rintro e V8 ⟨rfl, g8⟩
  go_upto_region 8 with fail
  have W8 := W7.gr g8
  have R8 := R7.gr g8
  have D8 := D7.gr g8
  have hS8 := S7.gr g8
  have hO8 := O7.bl g8.bl
  have K8x := K7.gr g8.bl
  clear W7 R7 D7 S7 O7 K7 g8
  rename_i K8 hK8
  have REST8 : ∀ (y0 y1 y2 y3 y4 y5 y6 y8 y9 y12 y13 y14 y15 y16 y17 y18 y19 y20 y21 y22 y23 y24 y25 y26 y27 y28 y29 y30 y31 y32 y33 y34 y35 y36 y37 y38 y39 y40 y41 y42 y43 y44 y45 y46 y47 y48 y49 y50 y51 y52 y53 y54 y55 y56 y57 y58 y59 y60 y61 y62 y63 y64 y65 y66 y67 y68 : Value) (A9 : Option Addr) (c9 : Nat) (V : World) (eb : Nat), Bl V8 V → At V eb #[.int .i64 0, .int .i64 i, .pointer none, .int .i64 0, .int .i64 0, .int .i64 1, .int .i64 255, .int .i64 (-1048576), .int .i64 (-1048576), .int .i64 1048576, .int .i64 1048576, .slice A9 0 c9, .string ⟨#[]⟩, .slice A3 nD c3, .slice none 0 0, .int .i64 (-1), .int .i64 0, .int .i64 0, .int .i64 0, .int .i64 0] 121 → V8.heap.size ≤ eb → K8 { tmps := #[y0, y1, y2, y3, y4, y5, y6, .pointer (some ⟨wb, 0, none⟩), y8, y9, .slice none 0 0, .pointer (some ⟨eb, 0, none⟩), y12, y13, y14, y15, y16, y17, y18, y19, y20, y21, y22, y23, y24, y25, y26, y27, y28, y29, y30, y31, y32, y33, y34, y35, y36, y37, y38, y39, y40, y41, y42, y43, y44, y45, y46, y47, y48, y49, y50, y51, y52, y53, y54, y55, y56, y57, y58, y59, y60, y61, y62, y63, y64, y65, y66, y67, y68], defers := [] } V := by
    intro y0 y1 y2 y3 y4 y5 y6 y8 y9 y12 y13 y14 y15 y16 y17 y18 y19 y20 y21 y22 y23 y24 y25 y26 y27 y28 y29 y30 y31 y32 y33 y34 y35 y36 y37 y38 y39 y40 y41 y42 y43 y44 y45 y46 y47 y48 y49 y50 y51 y52 y53 y54 y55 y56 y57 y58 y59 y60 y61 y62 y63 y64 y65 y66 y67 y68 A9 c9 V eb gV hE he
    refine hK8 _ _ ?_
    clear hK8
    have W9 := W8.bl gV
    have ne9 : eb ≠ wb := hE.neP W9 (by decide)
    have x3 := W9.cell 3; have x4 := W9.cell 4
    have f3 := W9.free 3; have f4 := W9.free 4
    go_upto_region 10 with fail
    have E9 := (hE.far (p := ⟨wb, 3, none⟩) ne9 (.int .i64 0)).far (p := ⟨wb, 4, none⟩) ne9 (.int .i64 0)
    have K9x : Kx (fun k => k = sb ∨ k = wb) w ((V.setCell ⟨wb, 3, none⟩ (.int .i64 0)).setCell ⟨wb, 4, none⟩ (.int .i64 0)) := (((K8x.gr gV).up (fun k hk => Or.inl hk)).then (Kx.by (X := fun k => k = sb ∨ k = wb) (By.set (p := ⟨wb, 4, none⟩) (By.set (p := ⟨wb, 3, none⟩) (By.refl _ _) _) _) (Or.inr rfl)))
    clear x3 x4 f3 f4 W9
    generalize (V.setCell ⟨wb, 3, none⟩ (.int .i64 0)).setCell ⟨wb, 4, none⟩ (.int .i64 0) = V9 at *
    have SK := Lib.hid (fun (V : World) (g : Bl V9 V) => (show At V eb #[.int .i64 0, .int .i64 i, .pointer none, .int .i64 0, .int .i64 0, .int .i64 1, .int .i64 255, .int .i64 (-1048576), .int .i64 (-1048576), .int .i64 1048576, .int .i64 1048576, .slice A9 0 c9, .string ⟨#[]⟩, .slice A3 nD c3, .slice none 0 0, .int .i64 (-1), .int .i64 0, .int .i64 0, .int .i64 0, .int .i64 0] 121 from E9.bl g))
    refine wp_region_held_drew (S := fun V => At V eb #[.int .i64 0, .int .i64 i, .pointer none, .int .i64 0, .int .i64 0, .int .i64 1, .int .i64 255, .int .i64 (-1048576), .int .i64 (-1048576), .int .i64 1048576, .int .i64 1048576, .slice A9 0 c9, .string ⟨#[]⟩, .slice A3 nD c3, .slice none 0 0, .int .i64 (-1), .int .i64 0, .int .i64 0, .int .i64 0, .int .i64 0] 121) (by kernel_rfl) (SK.out _ (Bl.refl _).drew) (fun hHeld => ?_)
    have B0 : Bl V9 V9.drew := (Bl.refl _).drew
    generalize V9.drew = U0 at *
    refine wpAnyH_take (i := 0) (v := ?_) rfl (by kernel_rfl) (by kernel_rfl) (by kernel_rfl) (fun _ _ _ h => h) (Or.inl ⟨by rfl, ?hy5001⟩) (by assumption) ?rest5001
    case hy5001 => intro w' hSw; go_simp; (try with_reducible rfl)
    try simp only [Act.put, List.setIfInBounds_toArray, List.set_cons_zero, List.set_cons_succ, List.getElem_toArray, List.getElem_cons_zero]
    refine wpAnyH_take (i := 1) (v := .agg #[.int .i64 0, .int .i64 i, .pointer none, .int .i64 0, .int .i64 0, .int .i64 1, .int .i64 255, .int .i64 (-1048576), .int .i64 (-1048576), .int .i64 1048576, .int .i64 1048576, .slice A9 0 c9, .string ⟨#[]⟩, .slice A3 nD c3, .slice none 0 0, .int .i64 (-1), .int .i64 0, .int .i64 0, .int .i64 0, .int .i64 0]) rfl (by kernel_rfl) (by kernel_rfl) (by kernel_rfl) (fun _ _ _ h => h) (yieldsIf_load_mid (by rfl) 121 _ rfl eb 0 rfl [.int .i64 0, .int .i64 i, .pointer none, .int .i64 0, .int .i64 0, .int .i64 1, .int .i64 255, .int .i64 (-1048576), .int .i64 (-1048576), .int .i64 1048576, .int .i64 1048576, .slice A9 0 c9, .string ⟨#[]⟩, .slice A3 nD c3, .slice none 0 0, .int .i64 (-1), .int .i64 0, .int .i64 0, .int .i64 0, .int .i64 0] _ (fun V hS => At.range (cs := [.int .i64 0, .int .i64 i, .pointer none, .int .i64 0, .int .i64 0, .int .i64 1, .int .i64 255, .int .i64 (-1048576), .int .i64 (-1048576), .int .i64 1048576, .int .i64 1048576, .slice A9 0 c9, .string ⟨#[]⟩, .slice A3 nD c3, .slice none 0 0, .int .i64 (-1), .int .i64 0, .int .i64 0, .int .i64 0, .int .i64 0]) hS 0 _ (fun j v hj => by rw [Nat.zero_add]; exact hj)) Tryz.underlying121 rfl (by kernel_rfl)) (by assumption) ?_
    try simp only [Act.put, List.setIfInBounds_toArray, List.set_cons_zero, List.set_cons_succ, List.getElem_toArray, List.getElem_cons_succ, List.getElem_cons_zero]
    refine wpAnyH_take (i := 3) (v := ?_) rfl (by kernel_rfl) (by kernel_rfl) (by kernel_rfl) (fun _ _ _ h => h) (Or.inl ⟨by rfl, ?hy5002⟩) (by assumption) ?rest5002
    case hy5002 => intro w' hSw; go_simp; (try with_reducible rfl)
    try simp only [Act.put, List.setIfInBounds_toArray, List.set_cons_zero, List.set_cons_succ, List.getElem_toArray, List.getElem_cons_succ, List.getElem_cons_zero]
    refine wpAnyH_ready (rs := [2]) (by kernel_rfl) (by simp) (AllReadyH.cons rfl (fun K9 hK9 => ?_) AllReadyH.nil)
    go_simp
    have B2 : Bl V9 _ := Bl.alloc B0 (.cells #[.int .i64 0, .int .i64 i, .pointer none, .int .i64 0, .int .i64 0, .int .i64 1, .int .i64 255, .int .i64 (-1048576), .int .i64 (-1048576), .int .i64 1048576, .int .i64 1048576, .slice A9 0 c9, .string ⟨#[]⟩, .slice A3 nD c3, .slice none 0 0, .int .i64 (-1), .int .i64 0, .int .i64 0, .int .i64 0, .int .i64 0] 121)
    have Y4 := At.new U0 #[.int .i64 0, .int .i64 i, .pointer none, .int .i64 0, .int .i64 0, .int .i64 1, .int .i64 255, .int .i64 (-1048576), .int .i64 (-1048576), .int .i64 1048576, .int .i64 1048576, .slice A9 0 c9, .string ⟨#[]⟩, .slice A3 nD c3, .slice none 0 0, .int .i64 (-1), .int .i64 0, .int .i64 0, .int .i64 0, .int .i64 0] 121
    have hsnb : V9.heap.size ≤ U0.heap.size := Bl.size B0
    generalize U0.alloc (.cells #[.int .i64 0, .int .i64 i, .pointer none, .int .i64 0, .int .i64 0, .int .i64 1, .int .i64 255, .int .i64 (-1048576), .int .i64 (-1048576), .int .i64 1048576, .int .i64 1048576, .slice A9 0 c9, .string ⟨#[]⟩, .slice A3 nD c3, .slice none 0 0, .int .i64 (-1), .int .i64 0, .int .i64 0, .int .i64 0, .int .i64 0] 121) = U1 at *
    generalize U0.heap.size = b3 at *
    refine hK9.out _ _ (SK.out _ B2) (fun _ => ?_)
    clear hK9 K9
    try simp only [Act.put, List.setIfInBounds_toArray, List.set_cons_zero, List.set_cons_succ, List.getElem_toArray, List.getElem_cons_succ, List.getElem_cons_zero]
    refine wpAnyH_take (i := 4) (v := ?_) rfl (by kernel_rfl) (by kernel_rfl) (by kernel_rfl) (fun _ _ _ h => h) (Or.inl ⟨by rfl, ?hy5003⟩) (by assumption) ?rest5003
    case hy5003 => intro w' hSw; go_simp; (try with_reducible rfl)
    try simp only [Act.put, List.setIfInBounds_toArray, List.set_cons_zero, List.set_cons_succ, List.getElem_toArray, List.getElem_cons_succ, List.getElem_cons_zero]
    refine wpAnyH_take (i := 5) (v := ?_) rfl (by kernel_rfl) (by kernel_rfl) (by kernel_rfl) (fun _ _ _ h => h) (Or.inl ⟨by rfl, ?hy5004⟩) (by assumption) ?rest5004
    case hy5004 => intro w' hSw; go_simp; (try with_reducible rfl)
    try simp only [Act.put, List.setIfInBounds_toArray, List.set_cons_zero, List.set_cons_succ, List.getElem_toArray, List.getElem_cons_succ, List.getElem_cons_zero]
    refine wpAnyH_done (by kernel_rfl) ?_ _
    go_wp2
    go_ret3
    exact ⟨_, A9, c9, A3, nD, c3, rfl, Y4, K9x.gr B2⟩

  have SK := Lib.hid (fun (V : World) (g : Bl V8 V) => (show At V wb #[.pointer (some ⟨sb, 0, none⟩), .int .i64 (-1), .int .i64 (-1), .int .i64 0, .int .i64 0] 305 ∧ At V w.heap.size #[.int .i64 op, .int .i64 i, .int .i64 a, .int .i64 b, .int .i64 r0, .int .i64 r1, .int .i64 r2, .int .i64 r3, .string s, .slice D m c] 101 ∧ At V db #[.slice A3 nD c3, .slice none 0 0, .int .i64 na] 48 from ⟨W8.bl g, R8.bl g, D8.bl g⟩))
  refine wp_region_held_drew (S := fun V => At V wb #[.pointer (some ⟨sb, 0, none⟩), .int .i64 (-1), .int .i64 (-1), .int .i64 0, .int .i64 0] 305 ∧ At V w.heap.size #[.int .i64 op, .int .i64 i, .int .i64 a, .int .i64 b, .int .i64 r0, .int .i64 r1, .int .i64 r2, .int .i64 r3, .string s, .slice D m c] 101 ∧ At V db #[.slice A3 nD c3, .slice none 0 0, .int .i64 na] 48) (by kernel_rfl) (SK.out _ (Bl.refl _).drew) (fun hHeld => ?_)
  have B0 : Bl V8 V8.drew := (Bl.refl _).drew
  generalize V8.drew = U0 at *
  refine wpAnyH_take (i := 0) (v := ?_) rfl (by kernel_rfl) (by kernel_rfl) (by kernel_rfl) (fun _ _ _ h => h) (Or.inl ⟨by rfl, ?hy4001⟩) (by assumption) ?rest4001
  case hy4001 => intro w' hSw; go_simp; (try with_reducible rfl)
  try simp only [Act.put, List.setIfInBounds_toArray, List.set_cons_zero, List.set_cons_succ, List.getElem_toArray, List.getElem_cons_zero]
  refine wpAnyH_take (i := 1) (v := ?_) rfl (by kernel_rfl) (by kernel_rfl) (by kernel_rfl) (fun _ _ _ h => h) (Or.inl ⟨by rfl, ?hy4002⟩) (by assumption) ?rest4002
  case hy4002 => intro w' hSw; have hc : w'.cell? ⟨w.heap.size, 1, none⟩ = some (.int .i64 i) := hSw.2.1.cell 1; go_simp; (try with_reducible rfl)
  try simp only [Act.put, List.setIfInBounds_toArray, List.set_cons_zero, List.set_cons_succ, List.getElem_toArray, List.getElem_cons_succ, List.getElem_cons_zero]
  refine wpAnyH_take (i := 2) (v := ?_) rfl (by kernel_rfl) (by kernel_rfl) (by kernel_rfl) (fun _ _ _ h => h) (Or.inl ⟨by rfl, ?hy4003⟩) (by assumption) ?rest4003
  case hy4003 => intro w' hSw; go_simp; (try with_reducible rfl)
  try simp only [Act.put, List.setIfInBounds_toArray, List.set_cons_zero, List.set_cons_succ, List.getElem_toArray, List.getElem_cons_succ, List.getElem_cons_zero]
  refine wpAnyH_take (i := 3) (v := ?_) rfl (by kernel_rfl) (by kernel_rfl) (by kernel_rfl) (fun _ _ _ h => h) (Or.inl ⟨by rfl, ?hy4004⟩) (by assumption) ?rest4004
  case hy4004 => intro w' hSw; go_simp; (try with_reducible rfl)
  try simp only [Act.put, List.setIfInBounds_toArray, List.set_cons_zero, List.set_cons_succ, List.getElem_toArray, List.getElem_cons_succ, List.getElem_cons_zero]
  refine wpAnyH_take (i := 4) (v := ?_) rfl (by kernel_rfl) (by kernel_rfl) (by kernel_rfl) (fun _ _ _ h => h) (Or.inl ⟨by rfl, ?hy4005⟩) (by assumption) ?rest4005
  case hy4005 => intro w' hSw; go_simp; (try with_reducible rfl)
  try simp only [Act.put, List.setIfInBounds_toArray, List.set_cons_zero, List.set_cons_succ, List.getElem_toArray, List.getElem_cons_succ, List.getElem_cons_zero]
  refine wpAnyH_take (i := 5) (v := ?_) rfl (by kernel_rfl) (by kernel_rfl) (by kernel_rfl) (fun _ _ _ h => h) (Or.inl ⟨by rfl, ?hy4006⟩) (by assumption) ?rest4006
  case hy4006 => intro w' hSw; have hc : w'.cell? ⟨wb, 0, none⟩ = some (.pointer (some ⟨sb, 0, none⟩)) := hSw.1.cell 0; go_simp; (try with_reducible rfl)
  try simp only [Act.put, List.setIfInBounds_toArray, List.set_cons_zero, List.set_cons_succ, List.getElem_toArray, List.getElem_cons_succ, List.getElem_cons_zero]
  refine wpAnyH_take (i := 7) (v := ?_) rfl (by kernel_rfl) (by kernel_rfl) (by kernel_rfl) (fun _ _ _ h => h) (Or.inl ⟨by rfl, ?hy4007⟩) (by assumption) ?rest4007
  case hy4007 => intro w' hSw; go_simp; (try with_reducible rfl)
  try simp only [Act.put, List.setIfInBounds_toArray, List.set_cons_zero, List.set_cons_succ, List.getElem_toArray, List.getElem_cons_succ, List.getElem_cons_zero]
  refine wpAnyH_take (i := 8) (v := ?_) rfl (by kernel_rfl) (by kernel_rfl) (by kernel_rfl) (fun _ _ _ h => h) (Or.inl ⟨by rfl, ?hy4008⟩) (by assumption) ?rest4008
  case hy4008 => intro w' hSw; have hc : w'.cell? ⟨db, 0, none⟩ = some (.slice A3 nD c3) := hSw.2.2.cell 0; go_simp; (try with_reducible rfl)
  try simp only [Act.put, List.setIfInBounds_toArray, List.set_cons_zero, List.set_cons_succ, List.getElem_toArray, List.getElem_cons_succ, List.getElem_cons_zero]
  refine wpAnyH_take (i := 9) (v := ?_) rfl (by kernel_rfl) (by kernel_rfl) (by kernel_rfl) (fun _ _ _ h => h) (Or.inl ⟨by rfl, ?hy4009⟩) (by assumption) ?rest4009
  case hy4009 => intro w' hSw; go_simp; (try with_reducible rfl)
  try simp only [Act.put, List.setIfInBounds_toArray, List.set_cons_zero, List.set_cons_succ, List.getElem_toArray, List.getElem_cons_succ, List.getElem_cons_zero]
  refine wpAnyH_take (i := 10) (v := ?_) rfl (by kernel_rfl) (by kernel_rfl) (by kernel_rfl) (fun _ _ _ h => h) (Or.inl ⟨by rfl, ?hy4010⟩) (by assumption) ?rest4010
  case hy4010 => intro w' hSw; have hc : w'.cell? ⟨db, 1, none⟩ = some (.slice none 0 0) := hSw.2.2.cell 1; go_simp; (try with_reducible rfl)
  try simp only [Act.put, List.setIfInBounds_toArray, List.set_cons_zero, List.set_cons_succ, List.getElem_toArray, List.getElem_cons_succ, List.getElem_cons_zero]
  refine wpAnyH_take (i := 11) (v := ?_) rfl (by kernel_rfl) (by kernel_rfl) (by kernel_rfl) (fun _ _ _ h => h) (Or.inl ⟨by rfl, ?hy4011⟩) (by assumption) ?rest4011
  case hy4011 => intro w' hSw; go_simp; (try with_reducible rfl)
  try simp only [Act.put, List.setIfInBounds_toArray, List.set_cons_zero, List.set_cons_succ, List.getElem_toArray, List.getElem_cons_succ, List.getElem_cons_zero]
  refine wpAnyH_take (i := 12) (v := ?_) rfl (by kernel_rfl) (by kernel_rfl) (by kernel_rfl) (fun _ _ _ h => h) (Or.inl ⟨by rfl, ?hy4012⟩) (by assumption) ?rest4012
  case hy4012 => intro w' hSw; go_simp; (try with_reducible rfl)
  try simp only [Act.put, List.setIfInBounds_toArray, List.set_cons_zero, List.set_cons_succ, List.getElem_toArray, List.getElem_cons_succ, List.getElem_cons_zero]
  refine wpAnyH_take (i := 13) (v := ?_) rfl (by kernel_rfl) (by kernel_rfl) (by kernel_rfl) (fun _ _ _ h => h) (Or.inl ⟨by rfl, ?hy4013⟩) (by assumption) ?rest4013
  case hy4013 => intro w' hSw; go_simp; (try with_reducible rfl)
  try simp only [Act.put, List.setIfInBounds_toArray, List.set_cons_zero, List.set_cons_succ, List.getElem_toArray, List.getElem_cons_succ, List.getElem_cons_zero]
  refine wpAnyH_take (i := 14) (v := ?_) rfl (by kernel_rfl) (by kernel_rfl) (by kernel_rfl) (fun _ _ _ h => h) (Or.inl ⟨by rfl, ?hy4014⟩) (by assumption) ?rest4014
  case hy4014 => intro w' hSw; have hc : w'.cell? ⟨wb, 2, none⟩ = some (.int .i64 (-1)) := hSw.1.cell 2; go_simp; (try with_reducible rfl)
  try simp only [Act.put, List.setIfInBounds_toArray, List.set_cons_zero, List.set_cons_succ, List.getElem_toArray, List.getElem_cons_succ, List.getElem_cons_zero]
  refine wpAnyH_take (i := 15) (v := ?_) rfl (by kernel_rfl) (by kernel_rfl) (by kernel_rfl) (fun _ _ _ h => h) (Or.inl ⟨by rfl, ?hy4015⟩) (by assumption) ?rest4015
  case hy4015 => intro w' hSw; go_simp; (try with_reducible rfl)
  try simp only [Act.put, List.setIfInBounds_toArray, List.set_cons_zero, List.set_cons_succ, List.getElem_toArray, List.getElem_cons_succ, List.getElem_cons_zero]
  refine wpAnyH_take (i := 16) (v := ?_) rfl (by kernel_rfl) (by kernel_rfl) (by kernel_rfl) (fun _ _ _ h => h) (Or.inl ⟨by rfl, ?hy4016⟩) (by assumption) ?rest4016
  case hy4016 => intro w' hSw; go_simp; (try with_reducible rfl)
  try simp only [Act.put, List.setIfInBounds_toArray, List.set_cons_zero, List.set_cons_succ, List.getElem_toArray, List.getElem_cons_succ, List.getElem_cons_zero]
  refine wpAnyH_take (i := 17) (v := ?_) rfl (by kernel_rfl) (by kernel_rfl) (by kernel_rfl) (fun _ _ _ h => h) (Or.inl ⟨by rfl, ?hy4017⟩) (by assumption) ?rest4017
  case hy4017 => intro w' hSw; go_simp; (try with_reducible rfl)
  try simp only [Act.put, List.setIfInBounds_toArray, List.set_cons_zero, List.set_cons_succ, List.getElem_toArray, List.getElem_cons_succ, List.getElem_cons_zero]
  refine wpAnyH_take (i := 18) (v := ?_) rfl (by kernel_rfl) (by kernel_rfl) (by kernel_rfl) (fun _ _ _ h => h) (Or.inl ⟨by rfl, ?hy4018⟩) (by assumption) ?rest4018
  case hy4018 => intro w' hSw; have hc : w'.cell? ⟨wb, 3, none⟩ = some (.int .i64 0) := hSw.1.cell 3; go_simp; (try with_reducible rfl)
  try simp only [Act.put, List.setIfInBounds_toArray, List.set_cons_zero, List.set_cons_succ, List.getElem_toArray, List.getElem_cons_succ, List.getElem_cons_zero]
  refine wpAnyH_take (i := 19) (v := ?_) rfl (by kernel_rfl) (by kernel_rfl) (by kernel_rfl) (fun _ _ _ h => h) (Or.inl ⟨by rfl, ?hy4019⟩) (by assumption) ?rest4019
  case hy4019 => intro w' hSw; go_simp; (try with_reducible rfl)
  try simp only [Act.put, List.setIfInBounds_toArray, List.set_cons_zero, List.set_cons_succ, List.getElem_toArray, List.getElem_cons_succ, List.getElem_cons_zero]
  refine wpAnyH_take (i := 20) (v := ?_) rfl (by kernel_rfl) (by kernel_rfl) (by kernel_rfl) (fun _ _ _ h => h) (Or.inl ⟨by rfl, ?hy4020⟩) (by assumption) ?rest4020
  case hy4020 => intro w' hSw; go_simp; (try with_reducible rfl)
  try simp only [Act.put, List.setIfInBounds_toArray, List.set_cons_zero, List.set_cons_succ, List.getElem_toArray, List.getElem_cons_succ, List.getElem_cons_zero]
  refine wpAnyH_take (i := 21) (v := ?_) rfl (by kernel_rfl) (by kernel_rfl) (by kernel_rfl) (fun _ _ _ h => h) (Or.inl ⟨by rfl, ?hy4021⟩) (by assumption) ?rest4021
  case hy4021 => intro w' hSw; go_simp; (try with_reducible rfl)
  try simp only [Act.put, List.setIfInBounds_toArray, List.set_cons_zero, List.set_cons_succ, List.getElem_toArray, List.getElem_cons_succ, List.getElem_cons_zero]
  refine wpAnyH_take (i := 22) (v := ?_) rfl (by kernel_rfl) (by kernel_rfl) (by kernel_rfl) (fun _ _ _ h => h) (Or.inl ⟨by rfl, ?hy4022⟩) (by assumption) ?rest4022
  case hy4022 => intro w' hSw; have hc : w'.cell? ⟨wb, 4, none⟩ = some (.int .i64 0) := hSw.1.cell 4; go_simp; (try with_reducible rfl)
  try simp only [Act.put, List.setIfInBounds_toArray, List.set_cons_zero, List.set_cons_succ, List.getElem_toArray, List.getElem_cons_succ, List.getElem_cons_zero]
  refine wpAnyH_ready (rs := [6, 24]) (by kernel_rfl) (by simp) (AllReadyH.cons rfl (fun K9 hK9 => ?_) (AllReadyH.cons rfl (fun K9 hK9 => ?_) AllReadyH.nil))
  · go_simp
    refine (sfstateN 0 0 1 255 (-1048576) (-1048576) 1048576 1048576 AO cO [] _ (hS8.bl B0) (hO8.bl B0).rs (by simp) (fun _ => rfl)).mono ?_
    rintro e U1 ⟨A9, c9, rfl, _, g2⟩
    have B3 : Bl V8 U1 := Bl.trans B0 g2
    refine hK9.out _ _ (SK.out _ B3) (fun _ => ?_)
    clear hK9 K9
    try simp only [Act.put, List.setIfInBounds_toArray, List.set_cons_zero, List.set_cons_succ, List.getElem_toArray, List.getElem_cons_succ, List.getElem_cons_zero]
    refine wpAnyH_take (i := 23) (v := ?_) rfl (by kernel_rfl) (by kernel_rfl) (by kernel_rfl) (fun _ _ _ h => h) (Or.inl ⟨by rfl, ?hy4023⟩) (by assumption) ?rest4023
    case hy4023 => intro w' hSw; go_simp; (try with_reducible rfl)
    try simp only [Act.put, List.setIfInBounds_toArray, List.set_cons_zero, List.set_cons_succ, List.getElem_toArray, List.getElem_cons_succ, List.getElem_cons_zero]
    refine wpAnyH_ready (rs := [24]) (by kernel_rfl) (by simp) (AllReadyH.cons rfl (fun K9 hK9 => ?_) AllReadyH.nil)
    go_simp
    have B5 : Bl V8 _ := Bl.alloc B3 (.cells #[.int .i64 0, .int .i64 0, .pointer none, .int .i64 0, .int .i64 0, .int .i64 0, .int .i64 0, .int .i64 0, .int .i64 0, .int .i64 0, .int .i64 0, .slice none 0 0, .string ⟨#[]⟩, .slice none 0 0, .slice none 0 0, .int .i64 0, .int .i64 0, .int .i64 0, .int .i64 0, .int .i64 0] 121)
    have Y7 := At.new U1 #[.int .i64 0, .int .i64 0, .pointer none, .int .i64 0, .int .i64 0, .int .i64 0, .int .i64 0, .int .i64 0, .int .i64 0, .int .i64 0, .int .i64 0, .slice none 0 0, .string ⟨#[]⟩, .slice none 0 0, .slice none 0 0, .int .i64 0, .int .i64 0, .int .i64 0, .int .i64 0, .int .i64 0] 121
    have hseb : V8.heap.size ≤ U1.heap.size := Bl.size B3
    generalize U1.alloc (.cells #[.int .i64 0, .int .i64 0, .pointer none, .int .i64 0, .int .i64 0, .int .i64 0, .int .i64 0, .int .i64 0, .int .i64 0, .int .i64 0, .int .i64 0, .slice none 0 0, .string ⟨#[]⟩, .slice none 0 0, .slice none 0 0, .int .i64 0, .int .i64 0, .int .i64 0, .int .i64 0, .int .i64 0] 121) = U4 at *
    generalize U1.heap.size = b6 at *
    refine hK9.out _ _ (SK.out _ B5) (fun _ => ?_)
    clear hK9 K9
    try simp only [Act.put, List.setIfInBounds_toArray, List.set_cons_zero, List.set_cons_succ, List.getElem_toArray, List.getElem_cons_succ, List.getElem_cons_zero]
    refine wpAnyH_ready (rs := [25]) (by kernel_rfl) (by simp) (AllReadyH.cons rfl (fun K9 hK9 => ?_) AllReadyH.nil)
    refine step_store_row rfl 121 _ _ rfl b6 #[.int .i64 0, .int .i64 i, .pointer none, .int .i64 0, .int .i64 0, .int .i64 1, .int .i64 255, .int .i64 (-1048576), .int .i64 (-1048576), .int .i64 1048576, .int .i64 1048576, .slice A9 0 c9, .string ⟨#[]⟩, .slice A3 nD c3, .slice none 0 0, .int .i64 (-1), .int .i64 0, .int .i64 0, .int .i64 0, .int .i64 0] rfl rfl _ _ Y7 (by kernel_rfl) rfl (by simp [Value.oneCell']) ?_
    have B9 : Bl V8 _ := Bl.srow B5 hseb #[.int .i64 0, .int .i64 i, .pointer none, .int .i64 0, .int .i64 0, .int .i64 1, .int .i64 255, .int .i64 (-1048576), .int .i64 (-1048576), .int .i64 1048576, .int .i64 1048576, .slice A9 0 c9, .string ⟨#[]⟩, .slice A3 nD c3, .slice none 0 0, .int .i64 (-1), .int .i64 0, .int .i64 0, .int .i64 0, .int .i64 0]
    have Y10 := Y7.setRow #[.int .i64 0, .int .i64 i, .pointer none, .int .i64 0, .int .i64 0, .int .i64 1, .int .i64 255, .int .i64 (-1048576), .int .i64 (-1048576), .int .i64 1048576, .int .i64 1048576, .slice A9 0 c9, .string ⟨#[]⟩, .slice A3 nD c3, .slice none 0 0, .int .i64 (-1), .int .i64 0, .int .i64 0, .int .i64 0, .int .i64 0]
    generalize U4.setRow b6 #[.int .i64 0, .int .i64 i, .pointer none, .int .i64 0, .int .i64 0, .int .i64 1, .int .i64 255, .int .i64 (-1048576), .int .i64 (-1048576), .int .i64 1048576, .int .i64 1048576, .slice A9 0 c9, .string ⟨#[]⟩, .slice A3 nD c3, .slice none 0 0, .int .i64 (-1), .int .i64 0, .int .i64 0, .int .i64 0, .int .i64 0] = U8 at *
    refine hK9.out _ _ (SK.out _ B9) (fun _ => ?_)
    clear hK9 K9
    try simp only [Act.put, List.getElem_toArray, List.getElem_cons_succ, List.getElem_cons_zero]
    refine wpAnyH_done (by kernel_rfl) ?_ _
    exact REST8 _ _ _ _ _ _ _ _ _ _ _ _ _ _ _ _ _ _ _ _ _ _ _ _ _ _ _ _ _ _ _ _ _ _ _ _ _ _ _ _ _ _ _ _ _ _ _ _ _ _ _ _ _ _ _ _ _ _ _ _ _ _ _ _ _ _ A9 c9 _ _ B9 Y10 hseb
  · go_simp
    have B2 : Bl V8 _ := Bl.alloc B0 (.cells #[.int .i64 0, .int .i64 0, .pointer none, .int .i64 0, .int .i64 0, .int .i64 0, .int .i64 0, .int .i64 0, .int .i64 0, .int .i64 0, .int .i64 0, .slice none 0 0, .string ⟨#[]⟩, .slice none 0 0, .slice none 0 0, .int .i64 0, .int .i64 0, .int .i64 0, .int .i64 0, .int .i64 0] 121)
    have Y4 := At.new U0 #[.int .i64 0, .int .i64 0, .pointer none, .int .i64 0, .int .i64 0, .int .i64 0, .int .i64 0, .int .i64 0, .int .i64 0, .int .i64 0, .int .i64 0, .slice none 0 0, .string ⟨#[]⟩, .slice none 0 0, .slice none 0 0, .int .i64 0, .int .i64 0, .int .i64 0, .int .i64 0, .int .i64 0] 121
    have hseb : V8.heap.size ≤ U0.heap.size := Bl.size B0
    generalize U0.alloc (.cells #[.int .i64 0, .int .i64 0, .pointer none, .int .i64 0, .int .i64 0, .int .i64 0, .int .i64 0, .int .i64 0, .int .i64 0, .int .i64 0, .int .i64 0, .slice none 0 0, .string ⟨#[]⟩, .slice none 0 0, .slice none 0 0, .int .i64 0, .int .i64 0, .int .i64 0, .int .i64 0, .int .i64 0] 121) = U1 at *
    generalize U0.heap.size = b3 at *
    refine hK9.out _ _ (SK.out _ B2) (fun _ => ?_)
    clear hK9 K9
    try simp only [Act.put, List.setIfInBounds_toArray, List.set_cons_zero, List.set_cons_succ, List.getElem_toArray, List.getElem_cons_succ, List.getElem_cons_zero]
    refine wpAnyH_ready (rs := [6]) (by kernel_rfl) (by simp) (AllReadyH.cons rfl (fun K9 hK9 => ?_) AllReadyH.nil)
    go_simp
    refine (sfstateN 0 0 1 255 (-1048576) (-1048576) 1048576 1048576 AO cO [] _ (hS8.bl B2) (hO8.bl B2).rs (by simp) (fun _ => rfl)).mono ?_
    rintro e U5 ⟨A9, c9, rfl, _, g6⟩
    have B7 : Bl V8 U5 := Bl.trans B2 g6
    have Y8 := Y4.bl g6
    refine hK9.out _ _ (SK.out _ B7) (fun _ => ?_)
    clear hK9 K9
    try simp only [Act.put, List.setIfInBounds_toArray, List.set_cons_zero, List.set_cons_succ, List.getElem_toArray, List.getElem_cons_succ, List.getElem_cons_zero]
    refine wpAnyH_take (i := 23) (v := ?_) rfl (by kernel_rfl) (by kernel_rfl) (by kernel_rfl) (fun _ _ _ h => h) (Or.inl ⟨by rfl, ?hy4024⟩) (by assumption) ?rest4024
    case hy4024 => intro w' hSw; go_simp; (try with_reducible rfl)
    try simp only [Act.put, List.setIfInBounds_toArray, List.set_cons_zero, List.set_cons_succ, List.getElem_toArray, List.getElem_cons_succ, List.getElem_cons_zero]
    refine wpAnyH_ready (rs := [25]) (by kernel_rfl) (by simp) (AllReadyH.cons rfl (fun K9 hK9 => ?_) AllReadyH.nil)
    refine step_store_row rfl 121 _ _ rfl b3 #[.int .i64 0, .int .i64 i, .pointer none, .int .i64 0, .int .i64 0, .int .i64 1, .int .i64 255, .int .i64 (-1048576), .int .i64 (-1048576), .int .i64 1048576, .int .i64 1048576, .slice A9 0 c9, .string ⟨#[]⟩, .slice A3 nD c3, .slice none 0 0, .int .i64 (-1), .int .i64 0, .int .i64 0, .int .i64 0, .int .i64 0] rfl rfl _ _ Y8 (by kernel_rfl) rfl (by simp [Value.oneCell']) ?_
    have B10 : Bl V8 _ := Bl.srow B7 hseb #[.int .i64 0, .int .i64 i, .pointer none, .int .i64 0, .int .i64 0, .int .i64 1, .int .i64 255, .int .i64 (-1048576), .int .i64 (-1048576), .int .i64 1048576, .int .i64 1048576, .slice A9 0 c9, .string ⟨#[]⟩, .slice A3 nD c3, .slice none 0 0, .int .i64 (-1), .int .i64 0, .int .i64 0, .int .i64 0, .int .i64 0]
    have Y11 := Y8.setRow #[.int .i64 0, .int .i64 i, .pointer none, .int .i64 0, .int .i64 0, .int .i64 1, .int .i64 255, .int .i64 (-1048576), .int .i64 (-1048576), .int .i64 1048576, .int .i64 1048576, .slice A9 0 c9, .string ⟨#[]⟩, .slice A3 nD c3, .slice none 0 0, .int .i64 (-1), .int .i64 0, .int .i64 0, .int .i64 0, .int .i64 0]
    generalize U5.setRow b3 #[.int .i64 0, .int .i64 i, .pointer none, .int .i64 0, .int .i64 0, .int .i64 1, .int .i64 255, .int .i64 (-1048576), .int .i64 (-1048576), .int .i64 1048576, .int .i64 1048576, .slice A9 0 c9, .string ⟨#[]⟩, .slice A3 nD c3, .slice none 0 0, .int .i64 (-1), .int .i64 0, .int .i64 0, .int .i64 0, .int .i64 0] = U9 at *
    refine hK9.out _ _ (SK.out _ B10) (fun _ => ?_)
    clear hK9 K9
    try simp only [Act.put, List.getElem_toArray, List.getElem_cons_succ, List.getElem_cons_zero]
    refine wpAnyH_done (by kernel_rfl) ?_ _
    exact REST8 _ _ _ _ _ _ _ _ _ _ _ _ _ _ _ _ _ _ _ _ _ _ _ _ _ _ _ _ _ _ _ _ _ _ _ _ _ _ _ _ _ _ _ _ _ _ _ _ _ _ _ _ _ _ _ _ _ _ _ _ _ _ _ _ _ _ A9 c9 _ _ B10 Y11 hseb
end

end Go.Proofs.YtablogiielclaaaGreat
