/-
  What is proved: the walk of the statement StackBack. Conditions: bounds on lengths.
-/
import Derived.Test.YtgjoipndhlngnaaSkt
namespace Go.Proofs.Ytgjoipndhlngnaa
open Go.ChangeShapes Go.WideShapes Go.ChangeAt Go.RowKit Go.Joins Go.Sort Go.Deep

section
attribute [local go_sem ↓] eqlK neqK eqlP neqP

theorem add_take {N : List Ky} (hd : N.Nodup) {i : Nat} {p : Ky} (h : N[i]? = some p) : addK (N.take i) p = N.take (i + 1) := by
  rw [List.take_add_one, h]
  refine if_neg fun hm => ?_
  obtain ⟨j, hj⟩ := List.getElem?_of_mem hm
  rw [List.getElem?_take] at hj
  split at hj
  · rename_i hlt
    exact nodup_ne hd hj h (by omega) rfl
  · cases hj
/-- Two neighbours change places. -/
theorem raise_swap {P R : List Ky} {a b : Ky} (hd : (P ++ a :: b :: R).Nodup) : raiseK (P ++ a :: b :: R) a b = P ++ b :: a :: R ∧ raiseE (P ++ a :: b :: R) a b = 0 := by
  have hd' := hd
  rw [List.nodup_append] at hd'
  obtain ⟨h1, h2, h3⟩ := hd'
  simp at h2
  obtain ⟨⟨hab, haR⟩, hbR, _⟩ := h2
  have haP : ¬ a ∈ P := fun h => h3 a h a (by simp) rfl
  have hbP : ¬ b ∈ P := fun h => h3 b h b (by simp) rfl
  obtain ⟨e1, e2⟩ := raise_on (L := P ++ a :: b :: R) (k := a) (o := b) (by simp) (by simp) hab
  refine ⟨?_, e2⟩
  rw [e1, List.flatMap_append, List.flatMap_cons, List.flatMap_cons, flat_out haP hbP, flat_out haR hbR]
  have ea : stepK a b a = [] := by unfold stepK; rw [if_neg (fun h => h rfl), if_neg hab]; rfl
  have eb : stepK a b b = [b, a] := by unfold stepK; rw [if_pos (fun e => hab e.symm), if_pos rfl]; rfl
  rw [ea, eb]; simp
theorem at_mid {P R : List Ky} {a : Ky} (h : ∀ x ∈ P, x ≠ a) : atK (P ++ a :: R) a = P.length := at_first (by simp) (by rw [List.take_left]; exact h)
theorem drop_mid {P R D : List Ky} {a : Ky} (hD : P ++ R = D) (h : ¬ a ∈ D) : dropK (P ++ a :: R) a = D := by
  subst hD
  have e : dropK (P ++ a :: R) a = dropK (P ++ R) a := by
    unfold dropK
    rw [List.filter_append, List.filter_append, List.filter_cons]; simp
  rw [e, drop_out h]

theorem two_at {N : List Ky} {i : Nat} (h : i + 1 < N.length) : ∃ P a b R, N = P ++ a :: b :: R ∧ P.length = i ∧ N[i]? = some a ∧ N[i + 1]? = some b := by
  refine ⟨N.take i, N[i], N[i + 1], N.drop (i + 2), ?_, by rw [List.length_take]; omega, List.getElem?_eq_getElem (by omega), List.getElem?_eq_getElem h⟩
  have e1 : N.drop i = N[i] :: N.drop (i + 1) := (List.getElem_cons_drop (h := by omega)).symm
  have e2 : N.drop (i + 1) = N[i + 1] :: N.drop (i + 2) := (List.getElem_cons_drop (h := h)).symm
  rw [← e2, ← e1, List.take_append_drop]
set_option maxRecDepth 100000 in
set_option maxHeartbeats 8000000 in
theorem back_core (AF : Option Addr) (cF : Nat) (LF : List Ky) (at0 : Int) (w : World) (hF : shK.Rd w AF LF) (hFI : ∀ x ∈ LF, I64 x.1 ∧ I64 x.2) (hat : I64 at0) :
    Calls Try.prog 7 #[.slice AF LF.length cF, .int .i64 at0] w fun e w' => e = .returned (.bool true) ∧ Bl w w' := by
  go_enter Try.func7, Try.ntmps7
  go_wp2
  go_loopw [5, 6] (fun v iv wr => ∃ (j : Nat) (A2 : Option Addr) (c2 : Nat) (M : List Ky), j ≤ LF.length ∧ v = .slice A2 M.length c2 ∧ iv = .int .i64 (j : Int) ∧ OwK wr w.heap.size A2 c2 M ∧ Hid (M.length = j ∧ j ≤ 9) ∧ Bl w wr) (fun _ iv _ => LF.length - (intOf iv).toNat)
  case atStart => exact ⟨0, none, 0, [], by omega, rfl, rfl, Shp.Ow.nil _ _, Lib.hid ⟨rfl, by omega⟩, Bl.refl _⟩
  case round =>
    obtain ⟨j, A2, c2, M, hj, rfl, rfl, own, hM, G⟩ := hrel
    by_cases hlt : j < LF.length ∧ j < 9
    · obtain ⟨hlt, hlt2⟩ := hlt
      obtain ⟨q, hq⟩ := list_at hlt
      obtain ⟨b, off, rfl, hrow⟩ := hF.opened (by omega)
      have hqI := hFI q (List.mem_of_getElem? hq)
      obtain ⟨e1, e2⟩ := k_at (hrow.bl G) hq
      have cB := fun V => small14 q hqI.1 hqI.2 V
      generalize smK q = x at *
      have hM2 : Hid ((M ++ [x]).length = j + 1 ∧ j + 1 ≤ 9) := Lib.hid ⟨by have := hM.out; simp; omega, by omega⟩
      have hMl : M.length ≤ 9 := by have := hM.out; omega
      have hsz := G.size
      clear hq hqI hrow
      replace hMl := Lib.hid hMl
      go_wp2_with (first
        | (at_builtin; refine Shp.wp_app (S := shK) Try.underlying22 infoK rfl (by decide) rfl (.tmp 22) (.tmp 28) rfl A2 c2 M rfl w.heap.size ((own.bl g4.bl).bl ((Bl.refl _).alloc _)) (some ⟨w4.heap.size, 0, none⟩) 1 [x] rfl (by first | simp | exact hcap) (Shp.Rd.new1 (At.new _ _ _) rfl) (by have := hMl.out; simp; omega) (by have := g4.size; simp; omega) ?_; intro A5 c5 w5 own5 ap5 lies5)
        | (go_at_call 11; (refine (cB _).mono ?_); rintro e w4 ⟨rfl, g4⟩))
      have G5 : Bl w w5 := own.app_bl ap5 ((G.gr g4).alloc _) (Nat.le_refl _)
      go_roundw
      case rel => exact ⟨j + 1, A5, c5, M ++ [x], by omega, by simp, by go_num, own5, hM2, G5⟩
      case measure => simp [intOf]; omega
    · have hbd : (decide ((j : Int) < (LF.length : Int)) = false ∧ ¬ (j : Int) < (LF.length : Int)) ∨ (decide ((j : Int) < (LF.length : Int)) = true ∧ decide ((j : Int) < 9) = false ∧ j < LF.length) := by
          rcases (show j = LF.length ∨ (j < LF.length ∧ 9 ≤ j) by omega) with h | h
          · exact .inl ⟨by simp; omega, by omega⟩
          · exact .inr ⟨by simp; omega, by simp; omega, h.1⟩

      clear hlt
      have hMl : M.length ≤ 9 := by have := hM.out; omega
      replace hj := Lib.hid hj
      have cR := rNewK (c := c2) own.rd (by omega)
      have hNl := new_len M
      have hNd := new_nodup M
      clear hFI hF hM
      generalize newK M = N at *
      have hN9 : N.length ≤ 9 := by omega
      clear hNl
      replace hMl := Lib.hid hMl
      rcases hbd with ⟨h, h'⟩ | ⟨h, h', h''⟩
      all_goals
        go_wp2_with fail
        refine cR.mono ?_
        rintro e w3 ⟨A9, c9, rfl, own9, g9⟩
        have G3 := G.trans g9
        have cN := pNewK (A := none) (c := 0) (L := []) (w := w3) (.inl rfl) (by simp)
        simp only [List.length_nil, show newK [] = [] from rfl] at cN
        clear cR
        go_wp2_with fail
        refine cN.mono ?_
        rintro e w4 ⟨pa, A0, c0, rfl, hpa, P4, g4⟩
        have S0 : SS w w4 pa A0 c0 [] := ⟨⟨P4.hd, P4.own.low G3.size, P4.nd⟩, by have := G3.size; omega, G3.trans g4⟩
        have R0 : OwK w4 w.heap.size A9 c9 N := (own9.bl g4).low G.size
        clear cN P4 g4 own9 own G g9 G3 hpa h h'
        go_wp2
        go_loopw [8] (fun iv wr => ∃ (i : Nat) (A : Option Addr) (c : Nat) (L : List Ky), i ≤ N.length ∧ iv = .int .i64 (i : Int) ∧ SS w wr pa A c L ∧ OwK wr w.heap.size A9 c9 N ∧ Hid (L = N.take i)) (fun iv _ => N.length - (intOf iv).toNat)
        case atStart => exact ⟨0, A0, c0, [], by omega, rfl, S0, R0, Lib.hid (by simp)⟩
        case round =>
          clear S0 R0
          obtain ⟨i, A, c, L, hi, rfl, S, R, hL⟩ := hrel
          by_cases hli : i < N.length
          · obtain ⟨p, hp⟩ := list_at hli
            obtain ⟨b, off, hbA, hrow⟩ := R.rd.opened (by omega)
            obtain ⟨e1, e2⟩ := k_at hrow hp
            have hL2 : Hid (addK L p = N.take (i + 1)) := Lib.hid (by rw [hL.out]; exact add_take hNd hp)
            have hLl : L.length ≤ 9 := by rw [hL.out]; have := List.length_take_le i N; omega
            have cA := pAddK S.p (by omega) S.g.size p
            clear hp hrow
            subst hbA
            go_wp2_with fail
            refine cA.mono ?_
            rintro e w6 ⟨rfl, q6⟩
            obtain ⟨A6, c6, S6, K6⟩ := S.next q6
            have R6 := R.kx K6 (S.p.xf (by decide) (by decide))
            clear cA q6 K6
            go_wp2
            go_roundw
            case rel => exact ⟨i + 1, A6, c6, addK L p, by omega, by go_num, S6, R6, hL2⟩
            case measure => simp [intOf]; omega
          · obtain rfl : i = N.length := by omega
            have hLN := hL.out
            rw [List.take_length] at hLN
            rw [hLN] at S
            clear hL hli hi hLN
            by_cases h2 : N.length < 2
            · have G := S.g
              have h2z : (N.length : Int) < 2 := by omega
              clear hat hNd
              go_wp2_with fail
              refine (livesK _).mono ?_
              rintro e v4 ⟨rfl, g4⟩
              go_wp2
              go_ret
              exact ⟨rfl, G.trans g4⟩
            · have h2z : ¬ (N.length : Int) < 2 := by omega
              have hw1 : IntKind.i64.wrap ((N.length : Int) - 1) = (N.length : Int) - 1 := IntWalk.i64_in _ (by omega)
              have cA := fun V => aroundM1 at0 ((N.length : Int) - 1) V hat (by omega)
              obtain ⟨bd1, bd2⟩ := aroundM_bd at0 ((N.length : Int) - 1) (by omega)
              obtain ⟨i, hi⟩ : ∃ i : Nat, aroundM at0 ((N.length : Int) - 1) = (i : Int) := ⟨(aroundM at0 ((N.length : Int) - 1)).toNat, by omega⟩
              rw [hi] at cA bd1 bd2
              clear hi
              obtain ⟨P, a, b, RR, hN, hPl, hia, hib⟩ := two_at (N := N) (i := i) (by omega)
              obtain ⟨bb, off, hbA, hrow⟩ := R.rd.opened (by omega)
              obtain ⟨e1, e2⟩ := k_at hrow hia
              obtain ⟨e3, e4⟩ := k_at hrow hib
              have ebl := hrow.lt (by omega)
              have hnd1 : (P ++ a :: b :: RR).Nodup := hN ▸ hNd
              obtain ⟨s1, s2⟩ := raise_swap hnd1
              have hnd2 : (P ++ b :: a :: RR).Nodup := by
                have hp : (P ++ b :: a :: RR).Perm (P ++ a :: b :: RR) := List.Perm.append_left P (List.Perm.swap a b RR)
                exact hp.nodup_iff.2 hnd1
              obtain ⟨s3, s4⟩ := raise_swap hnd2
              have haP : ∀ x ∈ P, x ≠ a := fun x hx e => by
                subst e
                rw [List.nodup_append] at hnd1
                exact hnd1.2.2 x hx x (by simp) rfl
              have hbP : ∀ x ∈ P, x ≠ b := fun x hx e => by
                subst e
                rw [List.nodup_append] at hnd1
                exact hnd1.2.2 x hx x (by simp) rfl
              have hab : b ≠ a := by
                rw [List.nodup_append] at hnd1
                have := hnd1.2.1
                simp at this
                exact fun e => this.1.1 e.symm
              have t1 : atK (P ++ b :: a :: RR) b = i := by rw [at_mid hbP, hPl]
              have t2 : atK (P ++ b :: a :: RR) a = (i : Int) + 1 := by
                have h5 := at_mid (P := P ++ [b]) (R := RR) (a := a) (fun x hx => by
                  rcases List.mem_append.1 hx with h' | h'
                  · exact haP x h'
                  · rw [List.mem_singleton.1 h']; exact hab)
                rw [List.append_assoc] at h5
                rw [show P ++ b :: a :: RR = P ++ ([b] ++ a :: RR) from rfl, h5, List.length_append, hPl]
                rfl
              rw [← hN] at s1 s2 s3
              generalize P ++ b :: a :: RR = N2 at *
              have c1 := fun V (g : Bl wr V) => pRaiseK (S.p.bl g) (by omega) (S.bl g).g.size a b
              rw [s1, s2] at c1
              have hw2 : IntKind.i64.wrap ((i : Int) + 1) = (i : Int) + 1 := IntWalk.i64_in _ (by omega)
              have hil : i < N.length := by omega
              have hil2 : i + 1 < N.length := by omega
              have htn : ((i : Int) + 1).toNat = i + 1 := by omega
              have hn1 : (((i : Int) + 1) != ((i : Int) + 1)) = false := by simp
              have hn2 : ((i : Int) != (i : Int)) = false := by simp
              have hN2l : N2.length ≤ 9 := by
                have h5 := congrArg List.length s1
                unfold raiseK at h5
                split at h5
                · rename_i hc
                  rw [flat_one _ _ hc.2.2 hNd hc.1 hc.2.1] at h5; omega
                · omega
              subst hbA
              clear s1 s2 hN hia hib hnd1 hnd2 haP hbP hab hPl
              replace hN9 := Lib.hid hN9
              have hX : ∀ k, SX pa A k → k < wr.heap.size := fun k hk => by
                rcases hk with rfl | hk
                · exact S.p.hd.lt
                · exact S.p.own.ltn k hk
              have b10 := (At.new wr (kC a) 26).alloc (.cells (kC b) 26)
              have b11 := At.newAt (w := wr.alloc (.cells (kC a) 26)) (n := wr.heap.size + 1) (by simp) (kC b) 26
              have GX : Bl wr ((wr.alloc (.cells (kC a) 26)).alloc (.cells (kC b) 26)) := ((Bl.refl wr).alloc _).alloc _
              have SX1 := S.bl GX
              have RX := R.bl GX
              have cx := c1 _ GX
              obtain ⟨WX, hWX⟩ : ∃ WX, WX = (wr.alloc (.cells (kC a) 26)).alloc (.cells (kC b) 26) := ⟨_, rfl⟩
              have hWX' : (wr.alloc (.cells #[.int .i64 a.1, .int .i64 a.2] 26)).alloc (.cells #[.int .i64 b.1, .int .i64 b.2] 26) = WX := hWX.symm
              rw [← hWX] at b10 b11 SX1 RX cx
              have hx10 : ¬ SX pa A wr.heap.size := fun hx => by have := hX _ hx; omega
              have hx11 : ¬ SX pa A (wr.heap.size + 1) := fun hx => by have := hX _ hx; omega
              clear hWX c1 hX GX hNd
              have f0 : WX.cell? ⟨wr.heap.size, 0, none⟩ = some (.int .i64 a.1) := b10.cell 0
              have f1 : WX.cell? ⟨wr.heap.size, 1, none⟩ = some (.int .i64 a.2) := b10.cell 1
              have f2 : WX.cell? ⟨wr.heap.size + 1, 0, none⟩ = some (.int .i64 b.1) := b11.cell 0
              have f3 : WX.cell? ⟨wr.heap.size + 1, 1, none⟩ = some (.int .i64 b.2) := b11.cell 1
              go_wp2_with (first | (go_at_call 21; (refine (cA _).mono ?_); rintro e w7 ⟨rfl, g7⟩; subst g7) | rw [hWX'])
              refine cx.mono ?_
              rintro e v1 ⟨rfl, q1⟩
              obtain ⟨A1, d1, S1, K1⟩ := SX1.next q1
              have R1 := RX.kx K1 (SX1.p.xf (by decide) (by decide))
              have h10 := b10.kx K1 hx10
              have h11 := b11.kx K1 hx11
              have y0 : v1.cell? ⟨wr.heap.size, 0, none⟩ = some (.int .i64 a.1) := h10.cell 0
              have y1 : v1.cell? ⟨wr.heap.size, 1, none⟩ = some (.int .i64 a.2) := h10.cell 1
              have c2 := pAt1 S1.p (by omega) a
              rw [t2] at c2
              clear f0 f1 f2 f3 cA cx q1 K1 SX1 RX b10 b11 e1 e2 e3 e4 hrow hWX' S R
              go_wp2_with fail
              refine c2.mono ?_
              rintro e v2 ⟨rfl, g2⟩
              have z0 : v2.cell? ⟨wr.heap.size + 1, 0, none⟩ = some (.int .i64 b.1) := (h11.gr g2).cell 0
              have z1 : v2.cell? ⟨wr.heap.size + 1, 1, none⟩ = some (.int .i64 b.2) := (h11.gr g2).cell 1
              have S2 := S1.bl g2.bl
              have c3 := pAt1 S2.p (by omega) b
              rw [t1] at c3
              clear c2 y0 y1
              go_wp2_with fail
              refine c3.mono ?_
              rintro e v3 ⟨rfl, g3⟩
              have u0 : v3.cell? ⟨wr.heap.size + 1, 0, none⟩ = some (.int .i64 b.1) := ((h11.gr g2).gr g3).cell 0
              have u1 : v3.cell? ⟨wr.heap.size + 1, 1, none⟩ = some (.int .i64 b.2) := ((h11.gr g2).gr g3).cell 1
              have u2 : v3.cell? ⟨wr.heap.size, 0, none⟩ = some (.int .i64 a.1) := ((h10.gr g2).gr g3).cell 0
              have u3 : v3.cell? ⟨wr.heap.size, 1, none⟩ = some (.int .i64 a.2) := ((h10.gr g2).gr g3).cell 1
              have S3 := S2.bl g3.bl
              have R3 := (R1.bl g2.bl).bl g3.bl
              have c4 := pRaiseK S3.p (by omega) S3.g.size b a
              rw [s3, s4] at c4
              clear c3 z0 z1 S2 S1 R1 h10 h11
              go_wp2_with fail
              refine c4.mono ?_
              rintro e v4 ⟨rfl, q4⟩
              obtain ⟨A4, d4, S4, K4⟩ := S3.next q4
              have R4 := R3.kx K4 (S3.p.xf (by decide) (by decide))
              have c5 := pAllK S4.p (by have := hN9.out; omega)
              clear c4 q4 K4 S3 R3 u0 u1 u2 u3
              go_wp2_with fail
              refine c5.mono ?_
              rintro e v5 ⟨B5, d5, rfl, o5, g5⟩
              go_wp2_with fail
              refine (as1 o5.rd (by have := hN9.out; omega)).mono ?_
              rintro e v6 ⟨B6, d6, rfl, o6, g6⟩
              go_wp2_with fail
              refine (rSameT o6.rd ((R4.bl g5).bl g6).rd (by have := hN9.out; omega)).mono ?_
              rintro e v7 ⟨rfl, g7⟩
              have G7 := ((S4.g.trans g5).trans g6).gr g7
              go_wp2_with fail
              refine (livesK _).mono ?_
              rintro e v8 ⟨rfl, g8⟩
              go_wp2
              go_ret
              exact ⟨rfl, G7.trans g8⟩
end

end Go.Proofs.Ytgjoipndhlngnaa
