/-
  What is proved: the document's Write of an image, where it is not refused: the points become what is written up to the first color that may not be. Conditions: sides of an image; what is written are bytes.
-/
import Derived.Test.YtackojmckloacaaJu
namespace Go.Proofs.Ytackojmckloacaa
open Go.RowKit Go.Sort Go.Shelf

theorem row_of_at {w : World} {g : Nat} {L : List Int} {X : List Value} {t : TypeId} (C : At w g (L.map (Value.int .u32) ++ X).toArray t) : RowN .u32 w g 0 L := fun i x hi => by
  have hl : i < L.length := (get_of hi).2
  rw [Nat.zero_add, C.cell i, List.getElem?_toArray, List.getElem?_append_left (by simpa using hl), List.getElem?_map, hi]; rfl
theorem idx_wr {W x0 y0 i j n : Nat} (hn : n ≤ 65536) (w1 : 1 ≤ W) (h : (y0 + j) * W + x0 + i < n) : ∃ yj p px ix : Nat, ix = (y0 + j) * W + x0 + i ∧ IntKind.i64.wrap ((y0 : Int) + (j : Int)) = (yj : Int) ∧ IntKind.i64.wrap ((yj : Int) * (W : Int)) = (p : Int) ∧ IntKind.i64.wrap ((p : Int) + (x0 : Int)) = (px : Int) ∧ IntKind.i64.wrap ((px : Int) + (i : Int)) = (ix : Int) := by
  have h2 : y0 + j ≤ (y0 + j) * W := Nat.le_mul_of_pos_right _ w1
  obtain ⟨yj, hyj⟩ : ∃ yj, yj = y0 + j := ⟨_, rfl⟩
  rw [← hyj] at h h2
  obtain ⟨p, hp⟩ : ∃ p, p = yj * W := ⟨_, rfl⟩
  rw [← hp] at h h2
  refine ⟨yj, p, p + x0, p + x0 + i, by rw [← hyj, ← hp], ?_, ?_, ?_, ?_⟩
  · rw [show (y0 : Int) + (j : Int) = (yj : Int) by omega]; exact IntWalk.i64_in _ (by omega)
  · rw [show (yj : Int) * (W : Int) = (p : Int) by rw [hp, Int.natCast_mul]]; exact IntWalk.i64_in _ (by omega)
  · rw [show (p : Int) + (x0 : Int) = ((p + x0 : Nat) : Int) by omega]; exact IntWalk.i64_in _ (by omega)
  · rw [show ((p + x0 : Nat) : Int) + (i : Int) = ((p + x0 + i : Nat) : Int) by omega]; exact IntWalk.i64_in _ (by omega)
theorem set_app {L : List Int} {X : List Value} {k : Nat} {q : Int} (hk : k < L.length) : ((L.map (Value.int .u32) ++ X).toArray).setIfInBounds k (.int .u32 q) = ((L.set k q).map (Value.int .u32) ++ X).toArray := by
  rw [List.setIfInBounds_toArray, List.set_append_left _ _ (by simpa using hk), List.map_set]
set_option maxRecDepth 100000 in
set_option maxHeartbeats 4000000 in
theorem rwrite1 {W H g cc : Nat} {L : List Int} (w : World) (hR : RowN .u32 w g 0 L) (hl : L.length = W * H) (w1 : 1 ≤ W) (w2 : W ≤ 256) (h2 : H ≤ 256) (x0 y0 x1 y1 : Nat) (hx : x0 < x1) (hw : x1 ≤ W) (hy : y0 < y1) (hh : y1 ≤ H)
    (ga off cb : Nat) (bs : List Int) (hA : RowN .u8 w ga off bs) (h8 : ∀ x ∈ bs, U8 x) (N : Nat) (hNN : N = (x1 - x0) * (y1 - y0)) (hn : bs.length = 4 * N) (K : Nat) (hK : K ≤ N) (hok : ∀ j, j < K → mayC (colAt bs j) = true) (hbad : K < N → mayC (colAt bs K) = false) :
    Calls Try.prog 12 #[.agg #[.int .i64 W, .int .i64 H, .slice (some ⟨g, 0, none⟩) L.length cc], .agg #[.int .i64 x0, .int .i64 y0, .int .i64 x1, .int .i64 y1], .slice (some ⟨ga, off, none⟩) bs.length cb] w
      (fun e w' => ∃ b' c', e = .returned (.tuple #[.agg #[.int .i64 W, .int .i64 H, .slice (some ⟨b', 0, none⟩) L.length c'], .int .i64 (if K < N then 1 else 0)]) ∧ RowN .u32 w' b' 0 (if K < N then L else wrL W x0 y0 (x1 - x0) L bs N) ∧ (b' = g ∨ w.heap.size ≤ b') ∧ Bl w w') := by
  obtain ⟨Q, hQ⟩ : ∃ Q : Ending → World → Prop, Q = fun e w' => ∃ b' c', e = .returned (.tuple #[.agg #[.int .i64 W, .int .i64 H, .slice (some ⟨b', 0, none⟩) L.length c'], .int .i64 (if K < N then 1 else 0)]) ∧ RowN .u32 w' b' 0 (if K < N then L else wrL W x0 y0 (x1 - x0) L bs N) ∧ (b' = g ∨ w.heap.size ≤ b') ∧ Bl w w' := ⟨_, rfl⟩
  rw [← hQ]
  have hmay : mayB x0 y0 x1 y1 = true := by simp [mayB]; omega
  have har : areaI x0 y0 x1 y1 = (N : Int) := by
    unfold areaI
    rw [hNN, Int.natCast_mul, Int.natCast_sub (by omega), Int.natCast_sub (by omega)]
  have car := fun w => refarea1 x0 y0 x1 y1 w hmay
  rw [har] at car
  have hE : emptyB x0 y0 x1 y1 = false := by simp [emptyB]; omega
  have hC : coversB 0 0 W H x0 y0 x1 y1 = true := by simp [coversB]; omega
  have hNle : N ≤ 65536 := by rw [hNN]; exact area_le (by omega) (by omega)
  have hle := area_le w2 h2
  rw [← hl] at hle
  obtain ⟨m, hm⟩ : ∃ m, m = x1 - x0 := ⟨_, rfl⟩
  have hidx : ∀ k, k < N → (y0 + k / m) * W + x0 + k % m < L.length := by
    intro k hk
    have hm0 : 0 < m := by omega
    have h3 := Nat.mod_lt k hm0
    have h4 : k / m < y1 - y0 := by
      refine Nat.div_lt_of_lt_mul ?_
      rw [hm, ← hNN]; exact hk
    rw [hl, Nat.add_assoc]
    exact row_of (by omega) (by omega)
  rw [← hm] at hQ
  obtain ⟨n, hnL⟩ : ∃ n, n = L.length := ⟨_, rfl⟩
  obtain ⟨nb, hnb⟩ : ∃ nb, nb = bs.length := ⟨_, rfl⟩
  rw [← hnL] at hle hidx hQ ⊢
  rw [← hnb] at hn ⊢
  have hmW : m ≤ W := by omega
  have hmx : (x1 : Int) - (x0 : Int) = (m : Int) := by omega
  have hm0 : 1 ≤ m := by omega
  have hn0 : 0 < n := by
    have := hidx 0 (by
      have h5 : 1 ≤ (x1 - x0) * (y1 - y0) := Nat.mul_pos (by omega) (by omega)
      omega)
    omega
  have wr4 : IntKind.i64.wrap (4 * (N : Int)) = 4 * (N : Int) := IntWalk.i64_in _ (by omega)
  have hv1 : ¬ (nb : Int) < 4 * (N : Int) := by omega
  have hv2 : ¬ 4 * (N : Int) < (nb : Int) := by omega
  replace hidx := Lib.hid hidx
  replace hQ := Lib.hid hQ
  replace hnL := Lib.hid hnL
  replace hnb := Lib.hid hnb
  replace hn := Lib.hid hn
  replace hok := Lib.hid hok
  replace hbad := Lib.hid hbad
  replace h8 := Lib.hid h8
  replace hNN := Lib.hid hNN
  replace hm := Lib.hid hm
  replace hK := Lib.hid hK
  clear har hmay hl
  have cbx := fun w => refBox1 (W := W) (H := H) (A := some ⟨g, 0, none⟩) (n := n) (c := cc) w
  have cv := fun w => refcovers1 0 0 W H x0 y0 x1 y1 w
  have ce := fun w => refempty1 x0 y0 x1 y1 w
  have G0 := ((((Gr.refl w).alloc (.cells #[.int .i64 W, .int .i64 H, .slice (some ⟨g, 0, none⟩) n cc] 25)).alloc (.cells #[.int .i64 x0, .int .i64 y0, .int .i64 x1, .int .i64 y1] 32)).alloc (.cells #[.int .i64 0, .int .i64 0, .slice none 0 0] 25))
  have M0 := ((At.new w #[.int .i64 W, .int .i64 H, .slice (some ⟨g, 0, none⟩) n cc] 25).alloc (.cells #[.int .i64 x0, .int .i64 y0, .int .i64 x1, .int .i64 y1] 32)).alloc (.cells #[.int .i64 0, .int .i64 0, .slice none 0 0] 25)
  have E0 := (At.newAt (w := w.alloc (.cells #[.int .i64 W, .int .i64 H, .slice (some ⟨g, 0, none⟩) n cc] 25)) (n := w.heap.size + 1) (by simp) #[.int .i64 x0, .int .i64 y0, .int .i64 x1, .int .i64 y1] 32).alloc (.cells #[.int .i64 0, .int .i64 0, .slice none 0 0] 25)
  have R0 := At.newAt (w := (w.alloc (.cells #[.int .i64 W, .int .i64 H, .slice (some ⟨g, 0, none⟩) n cc] 25)).alloc (.cells #[.int .i64 x0, .int .i64 y0, .int .i64 x1, .int .i64 y1] 32)) (n := w.heap.size + 1 + 1) (by simp) #[.int .i64 0, .int .i64 0, .slice none 0 0] 25
  go_enter Try.func12, Try.ntmps12
  go_wp2_with fail
  have m0 := fun q os => M0.cells q os 0; have m1 := fun q os => M0.cells q os 1; have m2 := fun q os => M0.cells q os 2
  have e0 := fun q os => E0.cells q os 0; have e1 := fun q os => E0.cells q os 1; have e2 := fun q os => E0.cells q os 2; have e3 := fun q os => E0.cells q os 3
  simp at m0 m1 m2 e0 e1 e2 e3
  refine wp_region_quiet_grown (by kernel_rfl) (by kernel_rfl) ?_
  repeat (first | go_big_quiet_step ((first | (go_at_call 33; exact Calls.grown (cbx _)) | (go_at_call 32; exact Calls.grown (cv _)))) | quiet_step ((first | (go_at_call 33; exact Calls.grown (cbx _)) | (go_at_call 32; exact Calls.grown (cv _)))))
  refine wpQuiet_nil ?_
  intro V g9
  replace g9 : Gr _ V := g9
  replace M0 := M0.gr g9
  replace E0 := E0.gr g9
  replace R0 := R0.gr g9
  replace G0 := G0.trans g9
  clear m0 m1 m2 e0 e1 e2 e3 g9 cbx cv
  obtain ⟨e0, e1, e2, e3⟩ := cells4 E0
  go_wp2_with fail
  refine (ce _).mono ?_
  rintro e v1 ⟨rfl, g1⟩
  replace M0 := M0.gr g1
  replace E0 := E0.gr g1
  replace R0 := R0.gr g1
  replace G0 := G0.trans g1
  clear e0 e1 e2 e3 g1 ce
  obtain ⟨e0, e1, e2, e3⟩ := cells4 E0
  obtain ⟨m0, m1, m2⟩ := cells3 M0
  obtain ⟨r0, r1, r2⟩ := cells3 R0
  obtain ⟨f0, f1, f2, _⟩ := free4 R0
  go_wp2_with fail
  refine (car _).mono ?_
  rintro e v2 ⟨rfl, g2⟩
  replace M0 := M0.gr g2
  replace R0 := R0.gr g2
  replace E0 := E0.gr g2
  replace G0 := G0.trans g2
  clear e0 e1 e2 e3 m0 m1 m2 r0 r1 r2 f0 f1 f2 g2 car
  obtain ⟨m0, m1, m2⟩ := cells3 M0
  have hb0 := M0.lt
  have hb1 := E0.lt
  have hb2 := R0.lt
  obtain ⟨bm, hbm⟩ : ∃ bm, bm = w.heap.size := ⟨_, rfl⟩
  rw [← hbm] at M0 E0 R0 m0 m1 m2 hb0 hb1 hb2 ⊢
  have hwm : w.heap.size ≤ bm := by omega
  replace hbm := Lib.hid hbm
  obtain ⟨B, hB⟩ : ∃ B, B = v2.heap.size := ⟨_, rfl⟩
  rw [← hB] at hb0 hb1 hb2
  have hBv : B ≤ v2.heap.size := Nat.le_of_eq hB
  have hB' := Lib.hid hB
  clear hB
  go_wp2_with (at_builtin; refine wp_app_n (bs := 4) Try.underlying22 infoC rfl (by decide) rfl (.tmp 39) (.tmp 41) rfl none 0 [] rfl B (OwN.nil _ _ _ _) g 0 L cc (by rw [← hnL.out]; rfl) (hR.gr G0) (by rw [← hnL.out]; exact hn0) (by rw [← hnL.out]; simp; omega) hBv ?_; rintro A5 c5 w3 own5 ap5 ⟨g2, rfl⟩; obtain ⟨X, hc5, C5⟩ := row_at (show OwN .u32 30 w3 B (some ⟨g2, 0, none⟩) c5 L by simpa using own5); have hg1 : B ≤ g2 := own_low own5; have M3 := M0.kept ap5 (by simp); have R3 := R0.kept ap5 (by simp); have E3 := E0.kept ap5 (by simp); have G3 := ApdN.bl ap5 G0.bl (OwN.nil .u32 30 v2 B) (Nat.le_trans G0.size (Nat.le_of_eq hB'.out.symm)); have x0c : w3.cell? ⟨bm + 1, 0, none⟩ = some (.int .i64 x0) := E3.cell 0; have x2c : w3.cell? ⟨bm + 1, 2, none⟩ = some (.int .i64 x1) := E3.cell 2; have wmx : IntKind.i64.wrap ((x1 : Int) - (x0 : Int)) = (m : Int) := (by rw [hmx]; exact IntWalk.i64_in _ (by omega)); rw [← hnL.out]; simp only [List.length_nil, Nat.zero_add])
  clear x0c x2c wmx own5 ap5 M0 R0 E0 m0 m1 m2
  go_loopw [12, 13, 14] (fun i _ _ wr => ∃ k : Nat, k ≤ K ∧ i = .int .i64 (k : Int) ∧ At wr g2 ((wrL W x0 y0 m L bs k).map (Value.int .u32) ++ X).toArray 30 ∧ At wr bm #[.int .i64 W, .int .i64 H, .slice (some ⟨g, 0, none⟩) n cc] 25 ∧
      At wr (bm + 1) #[.int .i64 x0, .int .i64 y0, .int .i64 x1, .int .i64 y1] 32 ∧ At wr (bm + 1 + 1) #[.int .i64 0, .int .i64 0, .slice none 0 0] 25 ∧ Bl w wr) (fun i _ _ _ => N - (intOf i).toNat)
  case atStart => exact ⟨0, by omega, rfl, C5, M3, E3, R3, G3⟩
  case round =>
    clear C5 M3 E3 R3 G3
    obtain ⟨k, hk, rfl, Ck, Mk, Ek, Rk, Gk⟩ := hrel
    by_cases hlt : k < N
    · obtain ⟨i, j, hi, hj, q1, q2, q3, q4, q5, q6, q7, q8⟩ := rem_quo k m hm0 (by omega)
      obtain ⟨e0, e1, e2, e3⟩ := cells4 Ek
      obtain ⟨m0, m1, m2⟩ := cells3 Mk
      have hnk : 4 * k + 3 < nb := by have := hn.out; omega
      have gd : ∀ t, t < 4 → bs[4 * k + t]? = some (bs.getD (4 * k + t) 0) ∧ U8 (bs.getD (4 * k + t) 0) := fun t ht =>
        ⟨getD_get (by rw [← hnb.out]; omega), h8.out _ (List.mem_of_getElem? (getD_get (by rw [← hnb.out]; omega)))⟩
      obtain ⟨a0, u0⟩ := gd 0 (by omega)
      obtain ⟨a1, u1⟩ := gd 1 (by omega)
      obtain ⟨a2, u2⟩ := gd 2 (by omega)
      obtain ⟨a3, u3⟩ := gd 3 (by omega)
      have hcol : colAt bs k = colB (bs.getD (4 * k + 0) 0) (bs.getD (4 * k + 1) 0) (bs.getD (4 * k + 2) 0) (bs.getD (4 * k + 3) 0) := rfl
      generalize bs.getD (4 * k + 0) 0 = b0 at *
      generalize bs.getD (4 * k + 1) 0 = b1 at *
      generalize bs.getD (4 * k + 2) 0 = b2 at *
      generalize bs.getD (4 * k + 3) 0 = b3 at *
      have z0 := fun dq os => (hA.bl ((Gk.drewN dq).grow os)) _ _ a0
      have z1 := fun dq os => (hA.bl ((Gk.drewN dq).grow os)) _ _ a1
      have z2 := fun dq os => (hA.bl ((Gk.drewN dq).grow os)) _ _ a2
      have z3 := fun dq os => (hA.bl ((Gk.drewN dq).grow os)) _ _ a3
      rw [Nat.add_zero] at z0
      clear a0 a1 a2 a3 gd
      have hmk : mk b0 b1 b2 b3 = colAt bs k := by
        unfold U8 at u0 u1 u2 u3
        rw [hcol]; unfold mk colB cl; omega
      have cmk := fun V => refmake1 b0 b1 b2 b3 V
      rw [hmk] at cmk
      have hc32 : C32 (colAt bs k) := by rw [hcol]; exact colB_c32 u0 u1 u2 u3
      unfold U8 at u0 u1 u2 u3
      obtain ⟨u01, u02⟩ := u0
      obtain ⟨u11, u12⟩ := u1
      obtain ⟨u21, u22⟩ := u2
      obtain ⟨u31, u32⟩ := u3
      replace hcol := Lib.hid hcol
      replace hmk := Lib.hid hmk
      have hsucc := wrL_succ W x0 y0 m L bs k
      obtain ⟨cq, hcq⟩ : ∃ cq, cq = colAt bs k := ⟨_, rfl⟩
      rw [← hcq] at cmk hc32 hsucc
      replace hcq := Lib.hid hcq
      go_wp2
      refine wp_region_quiet_grown (by kernel_rfl) (by kernel_rfl) ?_
      repeat (first | go_big_quiet_step ((go_at_call 36; exact Calls.grown (cmk _))) | quiet_step ((go_at_call 36; exact Calls.grown (cmk _))))
      refine wpQuiet_nil ?_
      intro W3 g9
      replace g9 : Gr _ W3 := g9
      have ccm := fun V => refcmay1 cq V hc32
      replace Ck := Ck.gr g9
      replace Mk := Mk.gr g9
      replace Ek := Ek.gr g9
      replace Rk := Rk.gr g9
      replace Gk := Gk.gr g9
      clear z0 z1 z2 z3 cmk e0 e1 e2 e3 m0 m1 m2 g9 u01 u02 u11 u12 u21 u22 u31 u32
      by_cases hkK : k < K
      · have hmy : mayC cq = true := by rw [hcq.out]; exact hok.out k hkK
        rw [hmy] at ccm
        go_wp2_with fail
        refine (ccm _).mono ?_
        rintro e W4 ⟨rfl, g4⟩
        replace Ck := Ck.gr g4
        replace Mk := Mk.gr g4
        replace Ek := Ek.gr g4
        replace Rk := Rk.gr g4
        replace Gk := Gk.gr g4
        clear ccm g4
        have hix := hidx.out k hlt
        rw [← hi, ← hj] at hix hsucc
        obtain ⟨yj, p, px, ix, hixe, w5, w6, w7, w8⟩ := idx_wr hle w1 hix
        rw [← hixe] at hix hsucc
        have hixL : ix < (wrL W x0 y0 m L bs k).length := by rw [wrL_len, ← hnL.out]; exact hix
        obtain ⟨old, c1⟩ := cell_at Ck hixL
        have f1 := Ck.free ix
        have hgw : w.heap.size ≤ g2 := Nat.le_trans (Nat.le_trans G0.size (Nat.le_of_eq hB'.out.symm)) hg1
        have hne1 : bm ≠ g2 := by omega
        have hne2 : bm + 1 ≠ g2 := by omega
        have hne3 : bm + 1 + 1 ≠ g2 := by omega
        have C6 := Ck.put ix (.int .u32 cq)
        rw [set_app hixL, ← hsucc] at C6
        have M6 := Mk.far (p := ⟨g2, ix, none⟩) hne1 (.int .u32 cq)
        have E6 := Ek.far (p := ⟨g2, ix, none⟩) hne2 (.int .u32 cq)
        have R6 := Rk.far (p := ⟨g2, ix, none⟩) hne3 (.int .u32 cq)
        have G6 := Gk.setCell (p := ⟨g2, ix, none⟩) hgw (.int .u32 cq)
        have SK : ∀ V, W4.grownBy V (some g2) → (V.cell? ⟨bm, 0, none⟩ = some (.int .i64 W) ∧ V.cell? ⟨bm + 1, 0, none⟩ = some (.int .i64 x0) ∧ V.cell? ⟨bm + 1, 1, none⟩ = some (.int .i64 y0) ∧ W4.grownBy V (some g2)) := fun V gv => ⟨(Mk.kept gv (by simpa using hne1)).cell 0, (Ek.kept gv (by simpa using hne2)).cell 0, (Ek.kept gv (by simpa using hne2)).cell 1, gv⟩
        replace SK := Lib.hid SK
        replace hi := Lib.hid hi
        replace hj := Lib.hid hj
        replace hixe := Lib.hid hixe
        replace hsucc := Lib.hid hsucc
        replace C6 := Lib.hid C6
        replace M6 := Lib.hid M6
        replace E6 := Lib.hid E6
        replace R6 := Lib.hid R6
        replace G6 := Lib.hid G6
        clear Ck Mk Ek Rk
        go_wp2
        go_region_held3 (fun V => V.cell? ⟨bm, 0, none⟩ = some (.int .i64 W) ∧ V.cell? ⟨bm + 1, 0, none⟩ = some (.int .i64 x0) ∧ V.cell? ⟨bm + 1, 1, none⟩ = some (.int .i64 y0) ∧ W4.grownBy V (some g2)) ((refine SK.out _ ?_; repeat (first | with_reducible assumption | with_reducible exact by_refl _ _ | with_reducible apply by_drew | with_reducible apply by_set))) (fail)
        have C7 := (show At _ _ _ _ from C6.out).gr (Gr.drew (Gr.refl _))
        have M7 := (show At _ _ _ _ from M6.out).gr (Gr.drew (Gr.refl _))
        have E7 := (show At _ _ _ _ from E6.out).gr (Gr.drew (Gr.refl _))
        have R7 := (show At _ _ _ _ from R6.out).gr (Gr.drew (Gr.refl _))
        have G7 := (show Bl _ _ from G6.out).gr (Gr.drew (Gr.refl _))
        generalize (W4.setCell ⟨g2, ix, none⟩ (.int .u32 cq)).drew = W5 at C7 M7 E7 R7 G7 ⊢
        clear C6 M6 E6 R6 G6 SK
        go_wp2
        go_roundw
        case rel => exact ⟨k + 1, by omega, by simp, C7, M7, E7, R7, G7⟩
        case measure => simp [intOf]; omega
      · have hkeq : k = K := by omega
        have hKN : K < N := by omega
        have hmy : mayC cq = false := by rw [hcq.out, hkeq]; exact hbad.out hKN
        rw [hmy] at ccm
        go_wp2_with fail
        refine (ccm _).mono ?_
        rintro e W4 ⟨rfl, g4⟩
        replace Mk := Mk.gr g4
        replace Rk := Rk.gr g4
        replace Gk := Gk.gr g4
        clear ccm g4 Ck Ek
        obtain ⟨m0, m1, m2⟩ := cells3 Mk
        obtain ⟨r0, r1, r2⟩ := cells3 Rk
        obtain ⟨f0, f1, f2, _⟩ := free4 Rk
        go_wp2
        have P := Rk.put3 (.int .i64 W) (.int .i64 H) (.slice (some ⟨g, 0, none⟩) n cc)
        have G := Gk.put3 (k := bm + 1 + 1) (by omega) (.int .i64 W) (.int .i64 H) (.slice (some ⟨g, 0, none⟩) n cc)
        generalize ((W4.setCell ⟨bm + 1 + 1, 0, none⟩ (.int .i64 W)).setCell ⟨bm + 1 + 1, 1, none⟩ (.int .i64 H)).setCell ⟨bm + 1 + 1, 2, none⟩ (.slice (some ⟨g, 0, none⟩) n cc) = V9 at P G ⊢
        obtain ⟨d0, d1, d2⟩ := cells3 P
        refine bodyPost_ret (v := .tuple #[.agg #[.int .i64 W, .int .i64 H, .slice (some ⟨g, 0, none⟩) n cc], .int .i64 1]) (by simp [results, Try.results12, go_sem, d0, d1, d2]) rfl ?_
        rw [hQ.out]
        exact ⟨g, cc, by rw [if_pos hKN], by rw [if_pos hKN]; exact hR.bl G, .inl rfl, G⟩
    · have hkN : k = N := by have := hK.out; omega
      have hKN : ¬ K < N := by have := hK.out; omega
      obtain ⟨r0, r1, r2⟩ := cells3 Rk
      obtain ⟨f0, f1, f2, _⟩ := free4 Rk
      obtain ⟨m0, m1, _⟩ := cells3 Mk
      have fm := Mk.free 2
      have hgw : w.heap.size ≤ g2 := Nat.le_trans (Nat.le_trans G0.size (Nat.le_of_eq hB'.out.symm)) hg1
      have hrow := row_of_at Ck
      have X1 := Mk.put 2 (.slice (some ⟨g2, 0, none⟩) n (L.length + X.length))
      simp at X1
      have X2 := Rk.far (p := ⟨bm, 2, none⟩) (by simp; omega) (.slice (some ⟨g2, 0, none⟩) n (L.length + X.length))
      have X3 := Gk.setCell (p := ⟨bm, 2, none⟩) (by simp; omega) (.slice (some ⟨g2, 0, none⟩) n (L.length + X.length))
      have X4 := hrow.far (p := ⟨bm, 2, none⟩) (by simp; omega) (.slice (some ⟨g2, 0, none⟩) n (L.length + X.length))
      replace hrow := Lib.hid hrow
      clear Ck Ek
      go_wp2
      have P := X2.put3 (.int .i64 W) (.int .i64 H) (.slice (some ⟨g2, 0, none⟩) n (L.length + X.length))
      have G := X3.put3 (k := bm + 1 + 1) (by omega) (.int .i64 W) (.int .i64 H) (.slice (some ⟨g2, 0, none⟩) n (L.length + X.length))
      have C := X4.far3 (c := bm + 1 + 1) (by omega) (.int .i64 W) (.int .i64 H) (.slice (some ⟨g2, 0, none⟩) n (L.length + X.length))
      generalize (((wr.setCell ⟨bm, 2, none⟩ (.slice (some ⟨g2, 0, none⟩) n (L.length + X.length))).setCell ⟨bm + 1 + 1, 0, none⟩ (.int .i64 W)).setCell ⟨bm + 1 + 1, 1, none⟩ (.int .i64 H)).setCell ⟨bm + 1 + 1, 2, none⟩ (.slice (some ⟨g2, 0, none⟩) n (L.length + X.length)) = V at P C G ⊢
      obtain ⟨d0, d1, d2⟩ := cells3 P
      refine bodyPost_ret (v := .tuple #[.agg #[.int .i64 W, .int .i64 H, .slice (some ⟨g2, 0, none⟩) n (L.length + X.length)], .int .i64 0]) (by simp [results, Try.results12, go_sem, d0, d1, d2]) rfl ?_
      rw [hQ.out]
      rw [hkN] at C
      exact ⟨g2, L.length + X.length, by rw [if_neg hKN], by rw [if_neg hKN]; exact C, .inr hgw, G⟩

end Go.Proofs.Ytackojmckloacaa
