/-
  What is proved: the document's Write of an image, where it is not refused: the points become what is written up to the first color that may not be. Conditions: sides of an image; what is written are bytes. what Copy of package image does, written out for another image and for itself; what At at any point, and Copy, of the document's images hand back. No conditions but bounds. what Copy of the document's images hands back. No conditions but bounds. what Set, Fill, Copy and Write do, of package image and of the document's images, in one form: a list of colors and a number. Conditions: sides of an image; colors are of 32 bits, bytes are bytes. a row of structs that came in reads as a list. No conditions.
-/
import Derived.Test.YtkaaagggbclofaaZz7
import Derived.Test.YtkaaagggbclofaaZz5
import Derived.Test.YtkaaagggbclofaaZz4
import Derived.Test.YtkaaagggbclofaaZz1
namespace Go.Proofs.Ytkaaagggbclofaa
open Go.RowKit Go.Sort Go.Shelf

theorem row_of_at {w : World} {g : Nat} {L : List Int} {X : List Value} {t : TypeId} (C : At w g (L.map (Value.int .u32) ++ X).toArray t) : RowN .u32 w g 0 L := fun i x hi => by
  have hl : i < L.length := (get_of hi).2
  rw [Nat.zero_add, C.cell i, List.getElem?_toArray, List.getElem?_append_left (by simpa using hl), List.getElem?_map, hi]; rfl
theorem idx_wr {W x0 y0 i j n : Nat} (hn : n ≤ 65536) (w1 : 1 ≤ W) (h : (y0 + j) * W + x0 + i < n) : ∃ yj p px ix : Nat, ix = (y0 + j) * W + x0 + i ∧ IntKind.i64.wrap ((y0 : Int) + (j : Int)) = (yj : Int) ∧ IntKind.i64.wrap ((yj : Int) * (W : Int)) = (p : Int) ∧ IntKind.i64.wrap ((p : Int) + (x0 : Int)) = (px : Int) ∧ IntKind.i64.wrap ((px : Int) + (i : Int)) = (ix : Int) := by
  have h2 : y0 + j ≤ (y0 + j) * W := Nat.le_mul_of_pos_right _ w1
  obtain ⟨yj, hyj⟩ : ∃ yj, yj = y0 + j := ⟨_, rfl⟩
  rw [← hyj] at h h2
  obtain ⟨p, hp⟩ : ∃ p, p = yj * W := ⟨_, rfl⟩
  rw [← hp] at h h2
  refine ⟨yj, p, p + x0, p + x0 + i, by rw [← hyj, ← hp], ?_, ?_, ?_, ?_⟩
  · rw [show (y0 : Int) + (j : Int) = (yj : Int) by omega]; exact IntWalk.i64_in _ (by omega)
  · rw [show (yj : Int) * (W : Int) = (p : Int) by rw [hp, Int.natCast_mul]]; exact IntWalk.i64_in _ (by omega)
  · rw [show (p : Int) + (x0 : Int) = ((p + x0 : Nat) : Int) by omega]; exact IntWalk.i64_in _ (by omega)
  · rw [show ((p + x0 : Nat) : Int) + (i : Int) = ((p + x0 + i : Nat) : Int) by omega]; exact IntWalk.i64_in _ (by omega)
theorem set_app {L : List Int} {X : List Value} {k : Nat} {q : Int} (hk : k < L.length) : ((L.map (Value.int .u32) ++ X).toArray).setIfInBounds k (.int .u32 q) = ((L.set k q).map (Value.int .u32) ++ X).toArray := by
  rw [List.setIfInBounds_toArray, List.set_append_left _ _ (by simpa using hk), List.map_set]
set_option maxRecDepth 100000 in
set_option maxHeartbeats 4000000 in
theorem rwrite1 {W H g cc : Nat} {L : List Int} (w : World) (hR : RowN .u32 w g 0 L) (hl : L.length = W * H) (w1 : 1 ≤ W) (w2 : W ≤ 256) (h2 : H ≤ 256) (x0 y0 x1 y1 : Nat) (hx : x0 < x1) (hw : x1 ≤ W) (hy : y0 < y1) (hh : y1 ≤ H)
    (ga off cb : Nat) (bs : List Int) (hA : RowN .u8 w ga off bs) (h8 : ∀ x ∈ bs, U8 x) (N : Nat) (hNN : N = (x1 - x0) * (y1 - y0)) (hn : bs.length = 4 * N) (K : Nat) (hK : K ≤ N) (hok : ∀ j, j < K → mayC (colAt bs j) = true) (hbad : K < N → mayC (colAt bs K) = false) :
    Calls Try.prog 38 #[.agg #[.int .i64 W, .int .i64 H, .slice (some ⟨g, 0, none⟩) L.length cc], .agg #[.int .i64 x0, .int .i64 y0, .int .i64 x1, .int .i64 y1], .slice (some ⟨ga, off, none⟩) bs.length cb] w
      (fun e w' => ∃ b' c', e = .returned (.tuple #[.agg #[.int .i64 W, .int .i64 H, .slice (some ⟨b', 0, none⟩) L.length c'], .int .i64 (if K < N then 1 else 0)]) ∧ RowN .u32 w' b' 0 (if K < N then L else wrL W x0 y0 (x1 - x0) L bs N) ∧ (b' = g ∨ w.heap.size ≤ b') ∧ Bl w w') := by
  obtain ⟨Q, hQ⟩ : ∃ Q : Ending → World → Prop, Q = fun e w' => ∃ b' c', e = .returned (.tuple #[.agg #[.int .i64 W, .int .i64 H, .slice (some ⟨b', 0, none⟩) L.length c'], .int .i64 (if K < N then 1 else 0)]) ∧ RowN .u32 w' b' 0 (if K < N then L else wrL W x0 y0 (x1 - x0) L bs N) ∧ (b' = g ∨ w.heap.size ≤ b') ∧ Bl w w' := ⟨_, rfl⟩
  rw [← hQ]
  have hmay : mayB x0 y0 x1 y1 = true := by simp [mayB]; omega
  have har : areaI x0 y0 x1 y1 = (N : Int) := by
    unfold areaI
    rw [hNN, Int.natCast_mul, Int.natCast_sub (by omega), Int.natCast_sub (by omega)]
  have car := fun w => refarea1 x0 y0 x1 y1 w hmay
  rw [har] at car
  have hE : emptyB x0 y0 x1 y1 = false := by simp [emptyB]; omega
  have hC : coversB 0 0 W H x0 y0 x1 y1 = true := by simp [coversB]; omega
  have hNle : N ≤ 65536 := by rw [hNN]; exact area_le (by omega) (by omega)
  have hle := area_le w2 h2
  rw [← hl] at hle
  obtain ⟨m, hm⟩ : ∃ m, m = x1 - x0 := ⟨_, rfl⟩
  have hidx : ∀ k, k < N → (y0 + k / m) * W + x0 + k % m < L.length := by
    intro k hk
    have hm0 : 0 < m := by omega
    have h3 := Nat.mod_lt k hm0
    have h4 : k / m < y1 - y0 := by
      refine Nat.div_lt_of_lt_mul ?_
      rw [hm, ← hNN]; exact hk
    rw [hl, Nat.add_assoc]
    exact row_of (by omega) (by omega)
  rw [← hm] at hQ
  obtain ⟨n, hnL⟩ : ∃ n, n = L.length := ⟨_, rfl⟩
  obtain ⟨nb, hnb⟩ : ∃ nb, nb = bs.length := ⟨_, rfl⟩
  rw [← hnL] at hle hidx hQ ⊢
  rw [← hnb] at hn ⊢
  have hmW : m ≤ W := by omega
  have hmx : (x1 : Int) - (x0 : Int) = (m : Int) := by omega
  have hm0 : 1 ≤ m := by omega
  have hn0 : 0 < n := by
    have := hidx 0 (by
      have h5 : 1 ≤ (x1 - x0) * (y1 - y0) := Nat.mul_pos (by omega) (by omega)
      omega)
    omega
  have wr4 : IntKind.i64.wrap (4 * (N : Int)) = 4 * (N : Int) := IntWalk.i64_in _ (by omega)
  have hv1 : ¬ (nb : Int) < 4 * (N : Int) := by omega
  have hv2 : ¬ 4 * (N : Int) < (nb : Int) := by omega
  replace hidx := Lib.hid hidx
  replace hQ := Lib.hid hQ
  replace hnL := Lib.hid hnL
  replace hnb := Lib.hid hnb
  replace hn := Lib.hid hn
  replace hok := Lib.hid hok
  replace hbad := Lib.hid hbad
  replace h8 := Lib.hid h8
  replace hNN := Lib.hid hNN
  replace hm := Lib.hid hm
  replace hK := Lib.hid hK
  clear har hmay hl
  have cbx := fun w => refBox1 (W := W) (H := H) (A := some ⟨g, 0, none⟩) (n := n) (c := cc) w
  have cv := fun w => refcovers1 0 0 W H x0 y0 x1 y1 w
  have ce := fun w => refempty1 x0 y0 x1 y1 w
  have G0 := ((((Gr.refl w).alloc (.cells #[.int .i64 W, .int .i64 H, .slice (some ⟨g, 0, none⟩) n cc] 78)).alloc (.cells #[.int .i64 x0, .int .i64 y0, .int .i64 x1, .int .i64 y1] 31)).alloc (.cells #[.int .i64 0, .int .i64 0, .slice none 0 0] 78))
  have M0 := ((At.new w #[.int .i64 W, .int .i64 H, .slice (some ⟨g, 0, none⟩) n cc] 78).alloc (.cells #[.int .i64 x0, .int .i64 y0, .int .i64 x1, .int .i64 y1] 31)).alloc (.cells #[.int .i64 0, .int .i64 0, .slice none 0 0] 78)
  have E0 := (At.newAt (w := w.alloc (.cells #[.int .i64 W, .int .i64 H, .slice (some ⟨g, 0, none⟩) n cc] 78)) (n := w.heap.size + 1) (by simp) #[.int .i64 x0, .int .i64 y0, .int .i64 x1, .int .i64 y1] 31).alloc (.cells #[.int .i64 0, .int .i64 0, .slice none 0 0] 78)
  have R0 := At.newAt (w := (w.alloc (.cells #[.int .i64 W, .int .i64 H, .slice (some ⟨g, 0, none⟩) n cc] 78)).alloc (.cells #[.int .i64 x0, .int .i64 y0, .int .i64 x1, .int .i64 y1] 31)) (n := w.heap.size + 1 + 1) (by simp) #[.int .i64 0, .int .i64 0, .slice none 0 0] 78
  go_enter Try.func38, Try.ntmps38
  go_wp2_with fail
  have m0 := fun q os => M0.cells q os 0; have m1 := fun q os => M0.cells q os 1; have m2 := fun q os => M0.cells q os 2
  have e0 := fun q os => E0.cells q os 0; have e1 := fun q os => E0.cells q os 1; have e2 := fun q os => E0.cells q os 2; have e3 := fun q os => E0.cells q os 3
  simp at m0 m1 m2 e0 e1 e2 e3
  refine wp_region_quiet_grown (by kernel_rfl) (by kernel_rfl) ?_
  repeat (first | go_big_quiet_step ((first | (go_at_call 31; exact Calls.grown (cbx _)) | (go_at_call 47; exact Calls.grown (cv _)))) | quiet_step ((first | (go_at_call 31; exact Calls.grown (cbx _)) | (go_at_call 47; exact Calls.grown (cv _)))))
  refine wpQuiet_nil ?_
  intro V g9
  replace g9 : Gr _ V := g9
  replace M0 := M0.gr g9
  replace E0 := E0.gr g9
  replace R0 := R0.gr g9
  replace G0 := G0.trans g9
  clear m0 m1 m2 e0 e1 e2 e3 g9 cbx cv
  obtain ⟨e0, e1, e2, e3⟩ := cells4 E0
  go_wp2_with fail
  refine (ce _).mono ?_
  rintro e v1 ⟨rfl, g1⟩
  replace M0 := M0.gr g1
  replace E0 := E0.gr g1
  replace R0 := R0.gr g1
  replace G0 := G0.trans g1
  clear e0 e1 e2 e3 g1 ce
  obtain ⟨e0, e1, e2, e3⟩ := cells4 E0
  obtain ⟨m0, m1, m2⟩ := cells3 M0
  obtain ⟨r0, r1, r2⟩ := cells3 R0
  obtain ⟨f0, f1, f2, _⟩ := free4 R0
  go_wp2_with fail
  refine (car _).mono ?_
  rintro e v2 ⟨rfl, g2⟩
  replace M0 := M0.gr g2
  replace R0 := R0.gr g2
  replace E0 := E0.gr g2
  replace G0 := G0.trans g2
  clear e0 e1 e2 e3 m0 m1 m2 r0 r1 r2 f0 f1 f2 g2 car
  obtain ⟨m0, m1, m2⟩ := cells3 M0
  have hb0 := M0.lt
  have hb1 := E0.lt
  have hb2 := R0.lt
  obtain ⟨bm, hbm⟩ : ∃ bm, bm = w.heap.size := ⟨_, rfl⟩
  rw [← hbm] at M0 E0 R0 m0 m1 m2 hb0 hb1 hb2 ⊢
  have hwm : w.heap.size ≤ bm := by omega
  replace hbm := Lib.hid hbm
  obtain ⟨B, hB⟩ : ∃ B, B = v2.heap.size := ⟨_, rfl⟩
  rw [← hB] at hb0 hb1 hb2
  have hBv : B ≤ v2.heap.size := Nat.le_of_eq hB
  have hB' := Lib.hid hB
  clear hB
  go_wp2_with (at_builtin; refine wp_app_n (bs := 4) Try.underlying76 infoC rfl (by decide) rfl (.tmp 39) (.tmp 41) rfl none 0 [] rfl B (OwN.nil _ _ _ _) g 0 L cc (by rw [← hnL.out]; rfl) (hR.gr G0) (by rw [← hnL.out]; exact hn0) (by rw [← hnL.out]; simp; omega) hBv ?_; rintro A5 c5 w3 own5 ap5 ⟨g2, rfl⟩; obtain ⟨X, hc5, C5⟩ := row_at (show OwN .u32 56 w3 B (some ⟨g2, 0, none⟩) c5 L by simpa using own5); have hg1 : B ≤ g2 := own_low own5; have M3 := M0.kept ap5 (by simp); have R3 := R0.kept ap5 (by simp); have E3 := E0.kept ap5 (by simp); have G3 := ApdN.bl ap5 G0.bl (OwN.nil .u32 56 v2 B) (Nat.le_trans G0.size (Nat.le_of_eq hB'.out.symm)); have x0c : w3.cell? ⟨bm + 1, 0, none⟩ = some (.int .i64 x0) := E3.cell 0; have x2c : w3.cell? ⟨bm + 1, 2, none⟩ = some (.int .i64 x1) := E3.cell 2; have wmx : IntKind.i64.wrap ((x1 : Int) - (x0 : Int)) = (m : Int) := (by rw [hmx]; exact IntWalk.i64_in _ (by omega)); rw [← hnL.out]; simp only [List.length_nil, Nat.zero_add])
  clear x0c x2c wmx own5 ap5 M0 R0 E0 m0 m1 m2
  go_loopw [12, 13, 14] (fun i _ _ wr => ∃ k : Nat, k ≤ K ∧ i = .int .i64 (k : Int) ∧ At wr g2 ((wrL W x0 y0 m L bs k).map (Value.int .u32) ++ X).toArray 56 ∧ At wr bm #[.int .i64 W, .int .i64 H, .slice (some ⟨g, 0, none⟩) n cc] 78 ∧
      At wr (bm + 1) #[.int .i64 x0, .int .i64 y0, .int .i64 x1, .int .i64 y1] 31 ∧ At wr (bm + 1 + 1) #[.int .i64 0, .int .i64 0, .slice none 0 0] 78 ∧ Bl w wr) (fun i _ _ _ => N - (intOf i).toNat)
  case atStart => exact ⟨0, by omega, rfl, C5, M3, E3, R3, G3⟩
  case round =>
    clear C5 M3 E3 R3 G3
    obtain ⟨k, hk, rfl, Ck, Mk, Ek, Rk, Gk⟩ := hrel
    by_cases hlt : k < N
    · obtain ⟨i, j, hi, hj, q1, q2, q3, q4, q5, q6, q7, q8⟩ := rem_quo k m hm0 (by omega)
      obtain ⟨e0, e1, e2, e3⟩ := cells4 Ek
      obtain ⟨m0, m1, m2⟩ := cells3 Mk
      have hnk : 4 * k + 3 < nb := by have := hn.out; omega
      have gd : ∀ t, t < 4 → bs[4 * k + t]? = some (bs.getD (4 * k + t) 0) ∧ U8 (bs.getD (4 * k + t) 0) := fun t ht =>
        ⟨getD_get (by rw [← hnb.out]; omega), h8.out _ (List.mem_of_getElem? (getD_get (by rw [← hnb.out]; omega)))⟩
      obtain ⟨a0, u0⟩ := gd 0 (by omega)
      obtain ⟨a1, u1⟩ := gd 1 (by omega)
      obtain ⟨a2, u2⟩ := gd 2 (by omega)
      obtain ⟨a3, u3⟩ := gd 3 (by omega)
      have hcol : colAt bs k = colB (bs.getD (4 * k + 0) 0) (bs.getD (4 * k + 1) 0) (bs.getD (4 * k + 2) 0) (bs.getD (4 * k + 3) 0) := rfl
      generalize bs.getD (4 * k + 0) 0 = b0 at *
      generalize bs.getD (4 * k + 1) 0 = b1 at *
      generalize bs.getD (4 * k + 2) 0 = b2 at *
      generalize bs.getD (4 * k + 3) 0 = b3 at *
      have z0 := fun dq os => (hA.bl ((Gk.drewN dq).grow os)) _ _ a0
      have z1 := fun dq os => (hA.bl ((Gk.drewN dq).grow os)) _ _ a1
      have z2 := fun dq os => (hA.bl ((Gk.drewN dq).grow os)) _ _ a2
      have z3 := fun dq os => (hA.bl ((Gk.drewN dq).grow os)) _ _ a3
      rw [Nat.add_zero] at z0
      clear a0 a1 a2 a3 gd
      have hmk : mk b0 b1 b2 b3 = colAt bs k := by
        unfold U8 at u0 u1 u2 u3
        rw [hcol]; unfold mk colB cl; omega
      have cmk := fun V => refmake1 b0 b1 b2 b3 V
      rw [hmk] at cmk
      have hc32 : C32 (colAt bs k) := by rw [hcol]; exact colB_c32 u0 u1 u2 u3
      unfold U8 at u0 u1 u2 u3
      obtain ⟨u01, u02⟩ := u0
      obtain ⟨u11, u12⟩ := u1
      obtain ⟨u21, u22⟩ := u2
      obtain ⟨u31, u32⟩ := u3
      replace hcol := Lib.hid hcol
      replace hmk := Lib.hid hmk
      have hsucc := wrL_succ W x0 y0 m L bs k
      obtain ⟨cq, hcq⟩ : ∃ cq, cq = colAt bs k := ⟨_, rfl⟩
      rw [← hcq] at cmk hc32 hsucc
      replace hcq := Lib.hid hcq
      go_wp2
      refine wp_region_quiet_grown (by kernel_rfl) (by kernel_rfl) ?_
      repeat (first | go_big_quiet_step ((go_at_call 50; exact Calls.grown (cmk _))) | quiet_step ((go_at_call 50; exact Calls.grown (cmk _))))
      refine wpQuiet_nil ?_
      intro W3 g9
      replace g9 : Gr _ W3 := g9
      have ccm := fun V => refcmay1 cq V hc32
      replace Ck := Ck.gr g9
      replace Mk := Mk.gr g9
      replace Ek := Ek.gr g9
      replace Rk := Rk.gr g9
      replace Gk := Gk.gr g9
      clear z0 z1 z2 z3 cmk e0 e1 e2 e3 m0 m1 m2 g9 u01 u02 u11 u12 u21 u22 u31 u32
      by_cases hkK : k < K
      · have hmy : mayC cq = true := by rw [hcq.out]; exact hok.out k hkK
        rw [hmy] at ccm
        go_wp2_with fail
        refine (ccm _).mono ?_
        rintro e W4 ⟨rfl, g4⟩
        replace Ck := Ck.gr g4
        replace Mk := Mk.gr g4
        replace Ek := Ek.gr g4
        replace Rk := Rk.gr g4
        replace Gk := Gk.gr g4
        clear ccm g4
        have hix := hidx.out k hlt
        rw [← hi, ← hj] at hix hsucc
        obtain ⟨yj, p, px, ix, hixe, w5, w6, w7, w8⟩ := idx_wr hle w1 hix
        rw [← hixe] at hix hsucc
        have hixL : ix < (wrL W x0 y0 m L bs k).length := by rw [wrL_len, ← hnL.out]; exact hix
        obtain ⟨old, c1⟩ := cell_at Ck hixL
        have f1 := Ck.free ix
        have hgw : w.heap.size ≤ g2 := Nat.le_trans (Nat.le_trans G0.size (Nat.le_of_eq hB'.out.symm)) hg1
        have hne1 : bm ≠ g2 := by omega
        have hne2 : bm + 1 ≠ g2 := by omega
        have hne3 : bm + 1 + 1 ≠ g2 := by omega
        have C6 := Ck.put ix (.int .u32 cq)
        rw [set_app hixL, ← hsucc] at C6
        have M6 := Mk.far (p := ⟨g2, ix, none⟩) hne1 (.int .u32 cq)
        have E6 := Ek.far (p := ⟨g2, ix, none⟩) hne2 (.int .u32 cq)
        have R6 := Rk.far (p := ⟨g2, ix, none⟩) hne3 (.int .u32 cq)
        have G6 := Gk.setCell (p := ⟨g2, ix, none⟩) hgw (.int .u32 cq)
        have SK : ∀ V, W4.grownBy V (some g2) → (V.cell? ⟨bm, 0, none⟩ = some (.int .i64 W) ∧ V.cell? ⟨bm + 1, 0, none⟩ = some (.int .i64 x0) ∧ V.cell? ⟨bm + 1, 1, none⟩ = some (.int .i64 y0) ∧ W4.grownBy V (some g2)) := fun V gv => ⟨(Mk.kept gv (by simpa using hne1)).cell 0, (Ek.kept gv (by simpa using hne2)).cell 0, (Ek.kept gv (by simpa using hne2)).cell 1, gv⟩
        replace SK := Lib.hid SK
        replace hi := Lib.hid hi
        replace hj := Lib.hid hj
        replace hixe := Lib.hid hixe
        replace hsucc := Lib.hid hsucc
        replace C6 := Lib.hid C6
        replace M6 := Lib.hid M6
        replace E6 := Lib.hid E6
        replace R6 := Lib.hid R6
        replace G6 := Lib.hid G6
        clear Ck Mk Ek Rk
        go_wp2
        go_region_held3 (fun V => V.cell? ⟨bm, 0, none⟩ = some (.int .i64 W) ∧ V.cell? ⟨bm + 1, 0, none⟩ = some (.int .i64 x0) ∧ V.cell? ⟨bm + 1, 1, none⟩ = some (.int .i64 y0) ∧ W4.grownBy V (some g2)) ((refine SK.out _ ?_; repeat (first | with_reducible assumption | with_reducible exact by_refl _ _ | with_reducible apply by_drew | with_reducible apply by_set))) (fail)
        have C7 := (show At _ _ _ _ from C6.out).gr (Gr.drew (Gr.refl _))
        have M7 := (show At _ _ _ _ from M6.out).gr (Gr.drew (Gr.refl _))
        have E7 := (show At _ _ _ _ from E6.out).gr (Gr.drew (Gr.refl _))
        have R7 := (show At _ _ _ _ from R6.out).gr (Gr.drew (Gr.refl _))
        have G7 := (show Bl _ _ from G6.out).gr (Gr.drew (Gr.refl _))
        generalize (W4.setCell ⟨g2, ix, none⟩ (.int .u32 cq)).drew = W5 at C7 M7 E7 R7 G7 ⊢
        clear C6 M6 E6 R6 G6 SK
        go_wp2
        go_roundw
        case rel => exact ⟨k + 1, by omega, by simp, C7, M7, E7, R7, G7⟩
        case measure => simp [intOf]; omega
      · have hkeq : k = K := by omega
        have hKN : K < N := by omega
        have hmy : mayC cq = false := by rw [hcq.out, hkeq]; exact hbad.out hKN
        rw [hmy] at ccm
        go_wp2_with fail
        refine (ccm _).mono ?_
        rintro e W4 ⟨rfl, g4⟩
        replace Mk := Mk.gr g4
        replace Rk := Rk.gr g4
        replace Gk := Gk.gr g4
        clear ccm g4 Ck Ek
        obtain ⟨m0, m1, m2⟩ := cells3 Mk
        obtain ⟨r0, r1, r2⟩ := cells3 Rk
        obtain ⟨f0, f1, f2, _⟩ := free4 Rk
        go_wp2
        have P := Rk.put3 (.int .i64 W) (.int .i64 H) (.slice (some ⟨g, 0, none⟩) n cc)
        have G := Gk.put3 (k := bm + 1 + 1) (by omega) (.int .i64 W) (.int .i64 H) (.slice (some ⟨g, 0, none⟩) n cc)
        generalize ((W4.setCell ⟨bm + 1 + 1, 0, none⟩ (.int .i64 W)).setCell ⟨bm + 1 + 1, 1, none⟩ (.int .i64 H)).setCell ⟨bm + 1 + 1, 2, none⟩ (.slice (some ⟨g, 0, none⟩) n cc) = V9 at P G ⊢
        obtain ⟨d0, d1, d2⟩ := cells3 P
        refine bodyPost_ret (v := .tuple #[.agg #[.int .i64 W, .int .i64 H, .slice (some ⟨g, 0, none⟩) n cc], .int .i64 1]) (by simp [results, Try.results38, go_sem, d0, d1, d2]) rfl ?_
        rw [hQ.out]
        exact ⟨g, cc, by rw [if_pos hKN], by rw [if_pos hKN]; exact hR.bl G, .inl rfl, G⟩
    · have hkN : k = N := by have := hK.out; omega
      have hKN : ¬ K < N := by have := hK.out; omega
      obtain ⟨r0, r1, r2⟩ := cells3 Rk
      obtain ⟨f0, f1, f2, _⟩ := free4 Rk
      obtain ⟨m0, m1, _⟩ := cells3 Mk
      have fm := Mk.free 2
      have hgw : w.heap.size ≤ g2 := Nat.le_trans (Nat.le_trans G0.size (Nat.le_of_eq hB'.out.symm)) hg1
      have hrow := row_of_at Ck
      have X1 := Mk.put 2 (.slice (some ⟨g2, 0, none⟩) n (L.length + X.length))
      simp at X1
      have X2 := Rk.far (p := ⟨bm, 2, none⟩) (by simp; omega) (.slice (some ⟨g2, 0, none⟩) n (L.length + X.length))
      have X3 := Gk.setCell (p := ⟨bm, 2, none⟩) (by simp; omega) (.slice (some ⟨g2, 0, none⟩) n (L.length + X.length))
      have X4 := hrow.far (p := ⟨bm, 2, none⟩) (by simp; omega) (.slice (some ⟨g2, 0, none⟩) n (L.length + X.length))
      replace hrow := Lib.hid hrow
      clear Ck Ek
      go_wp2
      have P := X2.put3 (.int .i64 W) (.int .i64 H) (.slice (some ⟨g2, 0, none⟩) n (L.length + X.length))
      have G := X3.put3 (k := bm + 1 + 1) (by omega) (.int .i64 W) (.int .i64 H) (.slice (some ⟨g2, 0, none⟩) n (L.length + X.length))
      have C := X4.far3 (c := bm + 1 + 1) (by omega) (.int .i64 W) (.int .i64 H) (.slice (some ⟨g2, 0, none⟩) n (L.length + X.length))
      generalize (((wr.setCell ⟨bm, 2, none⟩ (.slice (some ⟨g2, 0, none⟩) n (L.length + X.length))).setCell ⟨bm + 1 + 1, 0, none⟩ (.int .i64 W)).setCell ⟨bm + 1 + 1, 1, none⟩ (.int .i64 H)).setCell ⟨bm + 1 + 1, 2, none⟩ (.slice (some ⟨g2, 0, none⟩) n (L.length + X.length)) = V at P C G ⊢
      obtain ⟨d0, d1, d2⟩ := cells3 P
      refine bodyPost_ret (v := .tuple #[.agg #[.int .i64 W, .int .i64 H, .slice (some ⟨g2, 0, none⟩) n (L.length + X.length)], .int .i64 0]) (by simp [results, Try.results38, go_sem, d0, d1, d2]) rfl ?_
      rw [hQ.out]
      rw [hkN] at C
      exact ⟨g2, L.length + X.length, by rw [if_neg hKN], by rw [if_neg hKN]; exact C, .inr hgw, G⟩

end Go.Proofs.Ytkaaagggbclofaa
namespace Go.Proofs.Ytkaaagggbclofaa
open Go.RowKit Go.Sort Go.Deep

attribute [local go_sem ↓] run_min2 run_max2

def clN (n : Int) : Int := min (max n (-1048576)) 1048576
def cpL (W W2 H2 : Nat) (a b c d dx dy : Int) (L L2 : List Int) : List Int := upto (cpF W W2 H2 a b c d (clN dx) (clN dy) L L2) L.length
def cpN (W H W2 H2 : Nat) (a b c d dx dy : Int) : Int := ((cntI (cpP W W2 H2 a b c d (clN dx) (clN dy)) (W * H) : Nat) : Int)

theorem cp_row {W x0 y0 x1 y1 u0 v0 t : Nat} {dy dx : Int} {L : List Int} {ts : List Nat} (w1 : 1 ≤ W) (ht : t < y1 - y0) (hxx : x0 < x1) (hL : ∀ y, y < y1 → y * W + x1 ≤ L.length)
    (hu : (u0 : Int) = x0 + dx ∧ (v0 : Int) = y0 + dy ∧ u0 + (x1 - x0) ≤ W) (hxw : x1 ≤ W) (hts : ∀ s, s ∈ ts ↔ s < y1 - y0 ∧ ((0 < dy ∧ t < s) ∨ (dy ≤ 0 ∧ s < t))) (j : Nat) (hj : j < x1 - x0) :
    (cpAll W W u0 v0 x0 y0 (x1 - x0) L L ts)[(y0 + t) * W + x0 + j]? = L[(y0 + t) * W + x0 + j]? := by
  obtain ⟨u1, u2, u3⟩ := hu
  rw [cpAll_get (h := y1 - y0) w1 u3 (fun s hs => by have := hL (y0 + s) (by omega); omega) ts L _ (fun s hs => ((hts s).1 hs).1)]
  rw [if_neg]
  rintro ⟨q1, q2, q3, q4, q5⟩
  have e : ((y0 + t) * W + x0 + j) / W = y0 + t := by
    rw [Nat.add_assoc, Nat.mul_comm, Nat.mul_add_div (by omega), Nat.div_eq_of_lt (by omega), Nat.add_zero]
  rw [e] at q4 q5
  have := (hts _).1 q5
  omega

theorem wrap_sub {i : Nat} {d : Int} (h : i ≤ 65536) (hd : -1048576 ≤ d ∧ d ≤ 1048576) : IntKind.i64.wrap ((i : Int) - d) = (i : Int) - d := IntWalk.i64_in _ (by omega)
theorem wrap_sub2 {i : Nat} {d : Int} (h : i ≤ 65536) (hd : -1048576 ≤ d ∧ d ≤ 1048576) : wrap64 ((i : Int) - d) = (i : Int) - d := by unfold wrap64; omega
def atW (W H : Nat) (L : List Int) (x y : Int) : Int := if hasB 0 0 W H x y = true then L.getD (y.toNat * W + x.toNat) 0 else 0
end Go.Proofs.Ytkaaagggbclofaa
namespace Go.Proofs.Ytkaaagggbclofaa
open Go.RowKit Go.Sort Go.Deep

attribute [local go_sem ↓] run_min2 run_max2

end Go.Proofs.Ytkaaagggbclofaa
namespace Go.Proofs.Ytkaaagggbclofaa
open Go.RowKit Go.Sort Go.Deep

/-- What a step of the program does: it hands v back, and the image has the colors L'. -/
def DoM (w : World) (pm pc W H : Nat) (L' : List Int) (v : Int) (e : Ending) (w' : World) : Prop := e = .returned (.int .i64 v) ∧ w.grownBy w' (some pc) ∧ Img w' pm pc W H L'
/-- What a step of the document does. -/
def DoR (w : World) (b W H n : Nat) (L' : List Int) (v : Int) (e : Ending) (w' : World) : Prop := ∃ b' c', e = .returned (.tuple #[.agg #[.int .i64 W, .int .i64 H, .slice (some ⟨b', 0, none⟩) n c'], .int .i64 v]) ∧ RowN .u32 w' b' 0 L' ∧ (b' = b ∨ w.heap.size ≤ b') ∧ Bl w w'
theorem DoM.rt {w : World} {pm pc W H : Nat} {L : List Int} {v : Int} (hI : Img w pm pc W H L) {f : Nat} {a : Array Value} (h : Calls Try.prog f a w (Rt w (.int .i64 v))) : Calls Try.prog f a w (DoM w pm pc W H L v) :=
  h.mono fun _ _ h => ⟨h.1, h.2.by _, hI.gr h.2⟩
theorem DoR.rt {w : World} {W H b c n : Nat} {L : List Int} {v : Int} (hR : RowN .u32 w b 0 L) {f : Nat} {a : Array Value} (h : Calls Try.prog f a w (Rt w (.tuple #[.agg #[.int .i64 W, .int .i64 H, .slice (some ⟨b, 0, none⟩) n c], .int .i64 v]))) : Calls Try.prog f a w (DoR w b W H n L v) :=
  h.mono fun _ _ h => ⟨b, c, h.1, hR.gr h.2, .inl rfl, h.2.bl⟩

/-- Set: the list and the error. -/
def stL (W H : Nat) (L : List Int) (x y q : Int) : List Int := if hasB 0 0 W H x y = true then setL L (y.toNat * W + x.toNat) q else L
def stE (W H : Nat) (x y q : Int) : Int := if hasB 0 0 W H x y = true then setE q else 4
theorem stL_len (W H : Nat) (L : List Int) (x y q : Int) : (stL W H L x y q).length = L.length := by
  unfold stL setL
  split
  · split
    · rw [List.length_set]
    · rfl
  · rfl

/-- Fill: the list and the number. -/
def flL (W : Nat) (L : List Int) (p r s t q : Int) : List Int := if mayC q = true then upto (fun i => if hasB p r s t (i % W : Nat) (i / W : Nat) = true then q else L.getD i 0) L.length else L
def flN (W H : Nat) (p r s t q : Int) : Int := if mayC q = true then ((cntI (fun i => hasB p r s t (i % W : Nat) (i / W : Nat)) (W * H) : Nat) : Int) else 0
theorem flL_len (W : Nat) (L : List Int) (p r s t q : Int) : (flL W L p r s t q).length = L.length := by
  unfold flL
  split
  · rw [upto_len]
  · rfl
theorem cpL_len (W W2 H2 : Nat) (a b c d dx dy : Int) (L L2 : List Int) : (cpL W W2 H2 a b c d dx dy L L2).length = L.length := by unfold cpL; rw [upto_len]

/-- Write: the list and the error. -/
def okL (bs : List Int) (N : Nat) : Bool := (List.range N).all fun j => mayC (colAt bs j)
def fitB (W H : Nat) (p r s t : Int) : Bool := !emptyB p r s t && coversB 0 0 W H p r s t
def wtL (W H : Nat) (L : List Int) (p r s t : Int) (bs : List Int) : List Int :=
  if fitB W H p r s t = true ∧ (bs.length : Int) = 4 * areaI p r s t ∧ okL bs (areaI p r s t).toNat = true then wrL W p.toNat r.toNat (s - p).toNat L bs (areaI p r s t).toNat else L
def wtE (W H : Nat) (p r s t : Int) (bs : List Int) : Int :=
  if fitB W H p r s t = false then 4 else if (bs.length : Int) < 4 * areaI p r s t then 3 else if 4 * areaI p r s t < (bs.length : Int) then 2 else if okL bs (areaI p r s t).toNat = true then 0 else 1
theorem wtL_len (W H : Nat) (L : List Int) (p r s t : Int) (bs : List Int) : (wtL W H L p r s t bs).length = L.length := by
  unfold wtL
  split
  · rw [wrL_len]
  · rfl
theorem okL_iff (bs : List Int) (N : Nat) : okL bs N = true ↔ ∀ j, j < N → mayC (colAt bs j) = true := by
  unfold okL; rw [List.all_eq_true]
  exact ⟨fun h j hj => h j (List.mem_range.2 hj), fun h j hj => h j (List.mem_range.1 hj)⟩
theorem okL_bad (bs : List Int) : ∀ N, okL bs N = false → ∃ K, K < N ∧ (∀ j, j < K → mayC (colAt bs j) = true) ∧ mayC (colAt bs K) = false
  | 0, h => by simp [okL] at h
  | N + 1, h => by
    cases hN : okL bs N
    · obtain ⟨K, h1, h2, h3⟩ := okL_bad bs N hN
      exact ⟨K, by omega, h2, h3⟩
    · have h4 := (okL_iff bs N).1 hN
      refine ⟨N, by omega, h4, ?_⟩
      cases hm : mayC (colAt bs N)
      · rfl
      · exfalso
        have : okL bs (N + 1) = true := (okL_iff bs (N + 1)).2 fun j hj => by
          by_cases h5 : j < N
          · exact h4 j h5
          · rw [show j = N by omega]; exact hm
        rw [this] at h; cases h

theorem in_nat {W H : Nat} {p r s t : Int} (h : fitB W H p r s t = true) (w2 : W ≤ 256) (h2 : H ≤ 256) : ∃ x0 y0 x1 y1 : Nat, p = (x0 : Int) ∧ r = (y0 : Int) ∧ s = (x1 : Int) ∧ t = (y1 : Int) ∧ x0 < x1 ∧ x1 ≤ W ∧ y0 < y1 ∧ y1 ≤ H ∧ areaI p r s t = (((x1 - x0) * (y1 - y0) : Nat) : Int) ∧ (s - p).toNat = x1 - x0 := by
  obtain ⟨_, q1, q2, q3, q4, q5, q6⟩ := may_in h w2 h2
  refine ⟨p.toNat, r.toNat, s.toNat, t.toNat, by omega, by omega, by omega, by omega, by omega, by omega, by omega, by omega, ?_, by omega⟩
  unfold areaI
  rw [Int.natCast_mul, show ((s.toNat - p.toNat : Nat) : Int) = s - p by omega, show ((t.toNat - r.toNat : Nat) : Int) = t - r by omega]

set_option maxHeartbeats 2000000 in
theorem writeLL {pm pc W H : Nat} {L : List Int} (w : World) (hI : Img w pm pc W H L) (a b c d : Int) (A : Option Addr) (n cb : Nat) (h : (!emptyB a b c d && coversB 0 0 W H a b c d) = true) (v : Int)
    (hv : ((n : Int) < 4 * areaI a b c d ∧ v = 3) ∨ (4 * areaI a b c d < (n : Int) ∧ v = 2)) :
    Calls Try.prog 33 #[.pointer (some ⟨pm, 0, none⟩), .agg #[.int .i64 a, .int .i64 b, .int .i64 c, .int .i64 d], .slice A n cb] w (Rt w (.int .i64 v)) := by
  obtain ⟨hmay, hb⟩ := may_in h hI.w2 hI.h2
  have hbd := area_bd hmay
  have R0 := (At.new w #[.int .i64 a, .int .i64 b, .int .i64 c, .int .i64 d] 31).alloc (.cells #[.slice A n cb] 32)
  have S0 := At.newAt (w := w.alloc (.cells #[.int .i64 a, .int .i64 b, .int .i64 c, .int .i64 d] 31)) (n := w.heap.size + 1) (by simp) #[.slice A n cb] 32
  have G0 := ((Gr.refl w).alloc (.cells #[.int .i64 a, .int .i64 b, .int .i64 c, .int .i64 d] 31)).alloc (.cells #[.slice A n cb] 32)
  have ca := hasAll1 _ (hI.gr G0) a b c d
  rw [h] at ca
  have cr := fun w => area1 a b c d w hmay
  change 0 ≤ areaI a b c d ∧ areaI a b c d ≤ 4398046511104 at hbd
  obtain ⟨hbd1, hbd2⟩ := hbd
  clear h hI hb hmay
  generalize areaI a b c d = ar at *
  rcases hv with ⟨hv, rfl⟩ | ⟨hv, rfl⟩
  all_goals
    go_enter Try.func33, Try.ntmps33
    go_wp2_with fail
    refine ca.mono ?_
    rintro e w1 ⟨rfl, g1⟩
    obtain ⟨r0, r1, r2, r3⟩ := cells4 (R0.gr g1)
    go_wp2_with fail
    refine (cr _).mono ?_
    rintro e w2 ⟨rfl, g2⟩
    have s0 : w2.cell? ⟨w.heap.size + 1, 0, none⟩ = some (.slice A n cb) := ((S0.gr g1).gr g2).cell 0
    clear r0 r1 r2 r3
    go_wp2
    go_ret
    exact ⟨rfl, (G0.trans g1).trans g2⟩

theorem pwriteS {pm pc W H : Nat} {L : List Int} (w : World) (hI : Img w pm pc W H L) (p r s t : Int) (A : Option Addr) (bs : List Int) (cb : Nat) (hA : Ns .u8 w A bs) (h8 : ∀ x ∈ bs, U8 x) (hcb : bs.length ≤ cb) (hc2 : cb ≤ maxLen) :
    Calls Try.prog 33 #[.pointer (some ⟨pm, 0, none⟩), .agg #[.int .i64 p, .int .i64 r, .int .i64 s, .int .i64 t], .slice A bs.length cb] w (DoM w pm pc W H (wtL W H L p r s t bs) (wtE W H p r s t bs)) := by
  unfold wtL wtE
  cases hin : fitB W H p r s t
  · rw [if_neg (by simp), if_pos rfl]
    exact DoM.rt hI (writeR w hI p r s t A bs.length cb hin)
  · rw [if_neg (show ¬ (true = false) by simp)]
    by_cases l1 : (bs.length : Int) < 4 * areaI p r s t
    · rw [if_neg (by omega), if_pos l1]
      exact DoM.rt hI (writeLL w hI p r s t A bs.length cb hin 3 (.inl ⟨l1, rfl⟩))
    · by_cases l2 : 4 * areaI p r s t < (bs.length : Int)
      · rw [if_neg (by omega), if_neg l1, if_pos l2]
        exact DoM.rt hI (writeLL w hI p r s t A bs.length cb hin 2 (.inr ⟨l2, rfl⟩))
      · have heq : (bs.length : Int) = 4 * areaI p r s t := by omega
        rw [if_neg l1, if_neg l2]
        obtain ⟨x0, y0, x1, y1, rfl, rfl, rfl, rfl, hx, hw, hy, hh, hN, hm⟩ := in_nat hin hI.w2 hI.h2
        cases ho : okL bs (areaI x0 y0 x1 y1).toNat
        · rw [if_neg (by simp), if_neg (by simp)]
          obtain ⟨K, k1, k2, k3⟩ := okL_bad bs _ ho
          have hsm : (x1 - x0) * (y1 - y0) ≤ 65536 := area_le (by have := hI.w2; omega) (by have := hI.h2; omega)
          rw [hN, Int.toNat_natCast] at k1
          exact DoM.rt hI (writeA w hI x0 y0 x1 y1 A bs cb hin hA h8 hcb hc2 heq (by omega) K (by omega) k3 k2)
        · rw [if_pos ⟨rfl, heq, rfl⟩, if_pos rfl]
          have hok := (okL_iff bs _).1 ho
          obtain ⟨N, hNe⟩ : ∃ N, N = (x1 - x0) * (y1 - y0) := ⟨_, rfl⟩
          rw [hN, Int.toNat_natCast, ← hNe] at hok
          rw [hN, ← hNe] at heq
          have := iwrite1 w hI x0 y0 x1 y1 hx hw hy hh A bs cb hA h8 hcb hc2 N hNe (by omega) hok
          rw [wr_eq hI.len hI.w1 hx hw hy hh hNe] at this
          rw [hN, Int.toNat_natCast, ← hNe, hm, Int.toNat_natCast, Int.toNat_natCast]
          exact this

theorem rwriteS {W H b c : Nat} {L : List Int} (w : World) (hR : RowN .u32 w b 0 L) (hl : L.length = W * H) (w1 : 1 ≤ W) (w2 : W ≤ 256) (h2 : H ≤ 256) (p r s t : Int) (A : Option Addr) (bs : List Int) (cb : Nat) (hA : Ns .u8 w A bs) (h8 : ∀ x ∈ bs, U8 x) :
    Calls Try.prog 38 #[.agg #[.int .i64 W, .int .i64 H, .slice (some ⟨b, 0, none⟩) L.length c], .agg #[.int .i64 p, .int .i64 r, .int .i64 s, .int .i64 t], .slice A bs.length cb] w (DoR w b W H L.length (wtL W H L p r s t bs) (wtE W H p r s t bs)) := by
  unfold wtL wtE
  cases hin : fitB W H p r s t
  · rw [if_neg (by simp), if_pos rfl]
    exact DoR.rt hR (rwriteR w p r s t hin)
  · rw [if_neg (show ¬ (true = false) by simp)]
    by_cases l1 : (bs.length : Int) < 4 * areaI p r s t
    · rw [if_neg (by omega), if_pos l1]
      exact DoR.rt hR (rwriteL w w2 h2 p r s t hin 3 (.inl ⟨l1, rfl⟩))
    · by_cases l2 : 4 * areaI p r s t < (bs.length : Int)
      · rw [if_neg (by omega), if_neg l1, if_pos l2]
        exact DoR.rt hR (rwriteL w w2 h2 p r s t hin 2 (.inr ⟨l2, rfl⟩))
      · have heq : (bs.length : Int) = 4 * areaI p r s t := by omega
        rw [if_neg l1, if_neg l2]
        obtain ⟨x0, y0, x1, y1, rfl, rfl, rfl, rfl, hx, hw, hy, hh, hN, hm⟩ := in_nat hin w2 h2
        obtain ⟨N, hNe⟩ : ∃ N, N = (x1 - x0) * (y1 - y0) := ⟨_, rfl⟩
        rw [hN, ← hNe] at heq
        rw [hN, Int.toNat_natCast, ← hNe, hm, Int.toNat_natCast, Int.toNat_natCast]
        have hNp : 1 ≤ N := by rw [hNe]; exact Nat.mul_pos (by omega) (by omega)
        rcases hA with hA | ⟨ga, off, rfl, hA⟩
        · subst hA; simp at heq; omega
        cases ho : okL bs N
        · rw [if_neg (by simp), if_neg (by simp)]
          obtain ⟨K, k1, k2, k3⟩ := okL_bad bs _ ho
          have := rwrite1 (cc := c) w hR hl w1 w2 h2 x0 y0 x1 y1 hx hw hy hh ga off cb bs hA h8 N hNe (by omega) K (by omega) k2 (fun _ => k3)
          rw [if_pos k1, if_pos k1] at this
          exact this
        · rw [if_pos ⟨rfl, heq, rfl⟩, if_pos rfl]
          have := rwrite1 (cc := c) w hR hl w1 w2 h2 x0 y0 x1 y1 hx hw hy hh ga off cb bs hA h8 N hNe (by omega) N (Nat.le_refl _) ((okL_iff bs _).1 ho) (fun h => absurd h (Nat.lt_irrefl _))
          rw [if_neg (Nat.lt_irrefl _), if_neg (Nat.lt_irrefl _)] at this
          exact this

end Go.Proofs.Ytkaaagggbclofaa
namespace Go.Proofs.Ytkaaagggbclofaa
open Go.ChangeShapes Go.WideShapes Go.ChangeAt Go.RowKit Go.Joins Go.Sort Go.Deep

section
variable {H : Type} {enc : TypeId × Value → H} {w : World} {base : Nat} {spare : Nat → Bool} {held : Bool}
set_option maxRecDepth 100000 in
/-- A row that came in, of elements of whatever shape: each of them opens ('each'). -/
theorem open_rows {α : Type} [Inhabited α] (S : Shp α) (Good : α → Prop) {t T : TypeId} (ht : Try.prog.underlying t = some (.slice T)) (hc : Try.prog.cellsOf T = S.n)
    (each0 : ∀ {n : Nat} {cs : List Value} {x : DataW H × List MemPlace}, DataW.trod enc Try.prog w base spare held n T cs = some x → ∃ q : α, cs = S.c q ∧ Good q)
    {v : Value} {dd : DataW H} {p : List MemPlace} {b0 : Nat} {r : Reach} (hv : Value.okWide Try.prog w r b0 t v) (h : DataW.Trod enc Try.prog w base spare held t v dd p) :
    ∃ (A : Option Addr) (cap : Nat) (L : List α), v = .slice A L.length cap ∧ (A = none → cap = 0) ∧ L.length ≤ cap ∧ cap ≤ maxLen ∧ S.Rd w A L ∧ ∀ e ∈ L, Good e := by
  obtain ⟨a0, len0, cap0, rfl⟩ := okWide_slice ht hv
  obtain ⟨fuel, hf⟩ := h
  rcases open_slice ht hf with ⟨hc, _⟩ | ⟨a, len, cap, m, n, D, Pl, hcs, _, hl, hm, hmm, _, hx⟩
  · simp [Value.cells] at hc
    obtain ⟨rfl, rfl, rfl⟩ := hc
    exact ⟨none, 0, [], rfl, fun _ => rfl, Nat.zero_le _, Nat.zero_le _, .inl rfl, by intro r hr; simp at hr⟩
  · simp [Value.cells] at hcs
    obtain ⟨rfl, rfl, rfl⟩ := hcs
    by_cases hz : len0 = 0
    · subst hz; exact ⟨_, _, [], rfl, by simp, Nat.zero_le _, hm, .inl rfl, by intro r hr; simp at hr⟩
    · have hlm : len0 ≤ m := by rw [hmm]; split <;> omega
      have each : ∀ i, i < m → ∃ q : α, (∀ j, j < S.n → w.cell? (a.add (i * S.n + j)) = (S.c q)[j]?) ∧ Good q := by
        intro i hi
        obtain ⟨cs', h1, h2⟩ := hx i hi
        rw [hc] at h1
        obtain ⟨_, hlen, hcell⟩ := World.cells?_some h1
        obtain ⟨q, rfl, hq⟩ := each0 h2
        refine ⟨q, fun j hj => ?_, hq⟩
        rw [← add_add]
        exact hcell j hj
      obtain ⟨f, hfq⟩ := choose_lt each
      have h0 := (hfq 0 (by omega)).1 0 S.pos
      obtain ⟨u, hu⟩ := list_at (l := S.c (f 0)) (k := 0) (by rw [S.len]; exact S.pos)
      obtain ⟨b, off, spot⟩ := a
      cases spot with
      | some t =>
        rw [hu] at h0
        simp [Addr.add, World.cell?] at h0
        exfalso
        split at h0 <;> cases h0
      | none =>
        have get : ∀ k p, ((List.range len0).map f)[k]? = some p → k < m ∧ p = f k := by
          intro k p hk
          have hkl : k < ((List.range len0).map f).length := by
            rcases Nat.lt_or_ge k ((List.range len0).map f).length with h' | h'
            · exact h'
            · rw [List.getElem?_eq_none h'] at hk; cases hk
          simp at hkl
          simp [hkl] at hk
          exact ⟨by omega, hk.symm⟩
        refine ⟨some ⟨b, off, none⟩, cap0, (List.range len0).map f, by simp, by simp, by simpa using hl, hm, .inr ⟨b, off, rfl, fun k p hk j u hj => ?_⟩, fun p hp => ?_⟩
        · obtain ⟨hkm, rfl⟩ := get k p hk
          have hj4 : j < S.n := by
            rcases Nat.lt_or_ge j S.n with h' | h'
            · exact h'
            · rw [List.getElem?_eq_none (by rw [S.len]; exact h')] at hj; cases hj
          have q := (hfq k hkm).1 j hj4
          rw [add_lit', hj] at q
          rw [Nat.add_assoc]; exact q
        · obtain ⟨k, hk⟩ := List.getElem?_of_mem hp
          obtain ⟨hkm, rfl⟩ := get k p hk
          exact (hfq k hkm).2
end

end Go.Proofs.Ytkaaagggbclofaa
