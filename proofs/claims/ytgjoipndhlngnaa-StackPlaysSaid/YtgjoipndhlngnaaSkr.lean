/-
  What is proved: the walk of the statement StackPlays. Conditions: bounds on lengths.
-/
import Derived.Test.YtgjoipndhlngnaaSkq
namespace Go.Proofs.Ytgjoipndhlngnaa
open Go.ChangeShapes Go.WideShapes Go.ChangeAt Go.RowKit Go.Joins Go.Sort Go.Deep

section
attribute [local go_sem ↓] eqlK neqK eqlP neqP run_min2

theorem rSameT {w : World} {A B : Option Addr} {c d : Nat} {L : List Ky} (hL : shK.Rd w A L) (hM : shK.Rd w B L) (hl : L.length ≤ 1000000) :
    Calls Try.prog 12 #[.slice A L.length c, .slice B L.length d] w (Rt w (.bool true)) := by
  have := rSameK (c := c) (d := d) hL hM hl hl
  rwa [decide_eq_true (rfl : L = L)] at this
theorem rOverT {w : World} {B c : Nat} {A : Option Addr} {L : List Ky} (h : OwK w B A c L) (hl : L.length ≤ 100000) (k : Ky) :
    Calls Try.prog 18 #[.slice A L.length c, kV k] w fun e w' => ∃ A' c', e = .returned (.slice A' (overK L k).length c') ∧ shK.Rd w' A' (overK L k) ∧ Bl w w' := rOverK h.rd hl h.caps.1 h.caps.2.1 k
theorem over_len (L : List Ky) (k : Ky) : (overK L k).length ≤ L.length := by unfold overK; split <;> simp
theorem d_at {w : World} {b off : Nat} {l : List Dk} (h : shDk.Row w b off l) {k : Nat} {x : Dk} (hx : l[k]? = some x) : w.cell? ⟨b, off + k * 5, none⟩ = some (.int .i64 x.k) ∧ w.cell? ⟨b, off + k * 5 + 1, none⟩ = some (.int .i64 x.a.1) ∧ w.cell? ⟨b, off + k * 5 + 2, none⟩ = some (.int .i64 x.a.2) ∧ w.cell? ⟨b, off + k * 5 + 3, none⟩ = some (.int .i64 x.b.1) ∧ w.cell? ⟨b, off + k * 5 + 4, none⟩ = some (.int .i64 x.b.2) := by
  have h0 := h k x hx 0 (.int .i64 x.k) rfl
  have h1 := h k x hx 1 (.int .i64 x.a.1) rfl
  have h2 := h k x hx 2 (.int .i64 x.a.2) rfl
  have h3 := h k x hx 3 (.int .i64 x.b.1) rfl
  have h4 := h k x hx 4 (.int .i64 x.b.2) rfl
  exact ⟨by simpa [shDk] using h0, by simpa [shDk] using h1, by simpa [shDk] using h2, by simpa [shDk] using h3, by simpa [shDk] using h4⟩

set_option maxRecDepth 100000 in
set_option maxHeartbeats 8000000 in
theorem plays_core (AF : Option Addr) (cF : Nat) (LF : List Ky) (AD : Option Addr) (cD : Nat) (D : List Dk) (w : World) (hF : shK.Rd w AF LF) (hFc : LF.length ≤ cF) (hFm : cF ≤ maxLen) (hD : shDk.Rd w AD D) (hDI : ∀ d ∈ D, I64k d) :
    Calls Try.prog 3 #[.slice AF LF.length cF, .slice AD D.length cD] w fun e w' => e = .returned (.bool true) ∧ Bl w w' := by
  obtain ⟨m, hm⟩ : ∃ m : Nat, m = min LF.length 6 := ⟨_, rfl⟩
  have hmz : min (LF.length : Int) 6 = (m : Int) := by omega
  have hm1 : m ≤ LF.length := by omega
  have hm6 : m ≤ 6 := by omega
  have hmc : m ≤ cF := by omega
  have hFm' : cF ≤ 9223372036854775807 := by unfold maxLen at hFm; omega
  obtain ⟨P, hP⟩ : ∃ P, P = LF.take m := ⟨_, rfl⟩
  have hPl : P.length = m := by rw [hP, List.length_take]; omega
  have hPr : shK.Rd w AF P := by
    rw [hP]
    rcases hF with h0 | ⟨b, off, h1, h2⟩
    · rw [h0]; exact .inl (by simp)
    · exact .inr ⟨b, off, h1, h2.take m⟩
  clear hP hm hFm
  have hPl' := Lib.hid hPl
  go_enter Try.func3, Try.ntmps3
  go_wp2
  clear hPl
  go_loopw [6, 7] (fun v iv wr => ∃ (j : Nat) (A2 : Option Addr) (c2 : Nat) (M : List Ky), j ≤ m ∧ v = .slice A2 M.length c2 ∧ iv = .int .i64 j ∧ OwP wr w.heap.size A2 c2 M ∧ Hid (M = P.take j) ∧ Bl w wr) (fun _ iv _ => m - (intOf iv).toNat)
  case atStart => exact ⟨0, none, 0, [], by omega, rfl, rfl, Shp.Ow.nil _ _, Lib.hid (by simp), Bl.refl _⟩
  case round =>
    obtain ⟨j, A2, c2, M, hj, rfl, rfl, own, hM, G⟩ := hrel
    by_cases hlt : j < m
    · obtain ⟨p, hp⟩ := list_at (show j < P.length by have := hPl'.out; omega)
      obtain ⟨b, off, rfl, hrow⟩ := hPr.opened (by have := hPl'.out; omega)
      obtain ⟨e1, e2⟩ := k_at (hrow.bl G) hp
      have hM2 : Hid (M ++ [p] = P.take (j + 1)) := Lib.hid (by rw [hM.out, List.take_add_one, hp]; rfl)
      have hMl : Hid (M.length ≤ 1000000) := Lib.hid (by rw [hM.out]; have := List.length_take_le j P; omega)
      have hsz := G.size
      clear hp hM
      replace hj := Lib.hid hj
      go_wp2_with (at_builtin; refine Shp.wp_app (S := shK) Try.underlying24 infoP rfl (by decide) rfl (.tmp 25) (.tmp 30) rfl A2 c2 M rfl w.heap.size (own.bl ((Bl.refl _).alloc _)) (some ⟨wr.heap.size, 0, none⟩) 1 [p] rfl (by first | simp | exact hcap) (Shp.Rd.new1 (At.new _ _ _) rfl) (by have := hMl.out; simp; omega) (by simp; omega) ?_; intro A3 c3 w3 own3 ap3 lies3)
      have G3 : Bl w w3 := own.app_bl ap3 (G.alloc _) (Nat.le_refl _)
      go_roundw
      case rel => exact ⟨j + 1, A3, c3, M ++ [p], by omega, by simp, by go_num, own3, hM2, G3⟩
      case measure => simp [intOf]; omega
    · obtain rfl : j = m := by omega
      have hMP : M = P := by rw [hM.out, List.take_of_length_le (by have := hPl'.out; omega)]
      subst hMP
      have cN := pNewK (c := c2) own.rd (by have := hPl'.out; omega)
      have cR := fun V (g : Bl w V) => rNewK (c := cF) (hPr.bl g) (by have := hPl'.out; omega)
      rw [hPl'.out] at cR
      have hNl : (newK M).length ≤ 6 := by have := new_len M; have := hPl'.out; omega
      clear hM hlt
      generalize newK M = N at *
      go_wp2_with fail
      refine cN.mono ?_
      rintro e w2 ⟨pa, A0, c0, rfl, hpa, P2, g2⟩
      have S2 : SS w w2 pa A0 c0 N := ⟨⟨P2.hd, P2.own.low G.size, P2.nd⟩, by have := G.size; omega, G.trans g2⟩
      clear cN P2
      go_wp2_with fail
      refine (cR _ S2.g).mono ?_
      rintro e w3 ⟨A9, c9, rfl, own9, g9⟩
      have S3 := S2.bl g9
      have R3 : OwK w3 w.heap.size A9 c9 N := own9.low S2.g.size
      clear cR own9 S2 g9 g2 own G hpa hPr hF hm1 hm6 hmc hmz hFc hFm' hPl'
      go_wp2
      go_loopw [9, 10, 11, 12, 13] (fun rv iv _ _ _ wr => ∃ (j : Nat) (A : Option Addr) (c : Nat) (AR : Option Addr) (cR : Nat) (L : List Ky), j ≤ D.length ∧ rv = .slice AR L.length cR ∧ iv = .int .i64 (j : Int) ∧ SS w wr pa A c L ∧ OwK wr w.heap.size AR cR L ∧ Hid (L.length ≤ 6 + j ∧ j ≤ 40)) (fun _ iv _ _ _ _ => D.length - (intOf iv).toNat)
      case atStart => exact ⟨0, A0, c0, A9, c9, N, by omega, rfl, rfl, S3, R3, Lib.hid ⟨by omega, by omega⟩⟩
      case round =>
        clear S3 R3 hNl
        obtain ⟨j, A, c, AR, cR, L, hj, rfl, rfl, S, R, hL⟩ := hrel
        by_cases hlt : j < D.length ∧ j < 40
        · obtain ⟨hlt, hlt2⟩ := hlt
          obtain ⟨q, hq⟩ := list_at hlt
          obtain ⟨b, off, rfl, hrow⟩ := hD.opened (by omega)
          have hqI := hDI q (List.mem_of_getElem? hq)
          have DC := Lib.hid (fun V (g : Bl w V) => d_at (hrow.bl g) hq)
          obtain ⟨e1, e2, e3, e4, e5⟩ := DC.out _ S.g
          have hLl : L.length ≤ 46 := by have := hL.out; omega
          have cD := doesK S R (by omega) q hqI
          have hS2 := stepD_len S.p.nd q
          have cB := fun V => small14 q.b hqI.b1 hqI.b2 V
          replace hq := Lib.hid hq
          generalize stepD L q = L2 at *
          generalize smK q.b = y at *
          obtain ⟨qk, qa, qb⟩ := q
          dsimp only at e1 e2 e3 e4 e5 cD cB DC
          clear hqI hrow hq
          go_wp2_with fail
          refine cD.mono ?_
          rintro e w4 ⟨A4, c4, AR4, cR4, rfl, S4, R4⟩
          obtain ⟨_, _, _, f4, f5⟩ := DC.out _ S4.g
          clear cD e1 e2 e3 e4 e5 S R
          go_wp2_with fail
          refine (cB _).mono ?_
          rintro e w5 ⟨rfl, g5⟩
          have S5 := (S4.bl g5.bl).bl ((Bl.refl w5).alloc (.cells (kC y) 27))
          have R5 := (R4.bl g5.bl).bl ((Bl.refl w5).alloc (.cells (kC y) 27))
          have bx := At.new w5 (kC y) 27
          have hL2l : L2.length ≤ 47 := by omega
          have hL3 : Hid (L2.length ≤ 6 + (j + 1) ∧ j + 1 ≤ 40) := Lib.hid ⟨by have := hL.out; omega, by omega⟩
          have hol := over_len L2 y
          go_wp2
          obtain ⟨W0, hW0⟩ : ∃ W0, W0 = w5.alloc (.cells (kC y) 27) := ⟨_, rfl⟩
          have hW0' : w5.alloc (.cells #[.int .i64 y.1, .int .i64 y.2] 27) = W0 := hW0.symm
          rw [← hW0] at S5 R5 bx
          rw [hW0']
          obtain ⟨bb, hbb⟩ : ∃ bb, bb = w5.heap.size := ⟨_, rfl⟩
          rw [← hbb] at bx ⊢
          clear hW0 hW0' hbb S4 R4 f4 f5 cB DC g5
          have SK := Lib.hid (fun V (g : Bl W0 V) => (show V.cell? ⟨bb, 0, none⟩ = some (.int .i64 y.1) ∧ V.cell? ⟨bb, 1, none⟩ = some (.int .i64 y.2) ∧ Bl W0 V from ⟨(bx.bl g).cell 0, (bx.bl g).cell 1, g⟩))
          have c1 := Lib.hid (fun V (g : Bl W0 V) => pAllK (S5.p.bl g) (by omega))
          have c3 := Lib.hid (fun V (g : Bl W0 V) A2 c2 (h : shK.Rd V A2 L2) => rSameT (c := c2) (d := cR4) h (R5.bl g).rd (by omega))
          have c4' := Lib.hid (fun V (g : Bl W0 V) => pAt1 (S5.p.bl g) (by omega) y)
          have c5 := Lib.hid (fun V (g : Bl W0 V) => rAt1 (c := cR4) (R5.bl g).rd (by omega) y)
          have c6 := Lib.hid (fun V (g : Bl W0 V) => pOverK (S5.p.bl g) (by omega) y)
          have c8 := Lib.hid (fun V (g : Bl W0 V) => rOverT (R5.bl g) (by omega) y)
          generalize atK L2 y = q1 at *
          have hN1 : (q1 != q1) = false := by simp
          obtain ⟨OV, hOV⟩ : ∃ OV, OV = overK L2 y := ⟨_, rfl⟩
          rw [← hOV] at c6 c8 hol
          clear hOV
          replace hLl := Lib.hid hLl
          replace hL2l := Lib.hid hL2l
          replace hol := Lib.hid hol
          clear hS2
          go_region_held3 (fun V => V.cell? ⟨bb, 0, none⟩ = some (.int .i64 y.1) ∧ V.cell? ⟨bb, 1, none⟩ = some (.int .i64 y.2) ∧ Bl W0 V) ((refine SK.out _ ?_; repeat (first | with_reducible assumption | with_reducible exact Bl.refl _ | with_reducible exact X9 | with_reducible exact X8 | with_reducible exact X7 | with_reducible exact X6 | with_reducible exact X5 | with_reducible exact X4 | with_reducible exact X3 | with_reducible exact X2 | with_reducible exact X1 | with_reducible apply Bl.drew))) ((first
            | (have gd := X8; clear gd; go_at_call 12; (refine (rSameT (o7.rd.bl g8) r8 (by have := hol.out; have := hL2l.out; omega)).mono ?_); rintro e V9 ⟨rfl, g9⟩; have X9 : Bl W0 V9 := X8.gr g9)
            | (have gd := X7; clear gd; go_at_call 18; (refine (c8.out _ X7).mono ?_); rintro e V8 ⟨B8, d8, rfl, r8, g8⟩; have X8 : Bl W0 V8 := X7.trans g8)
            | (have gd := X6; clear gd; go_at_call 13; (refine (as1 o6.rd (by have := hol.out; have := hL2l.out; omega)).mono ?_); rintro e V7 ⟨B7, d7, rfl, o7, g7⟩; have X7 : Bl W0 V7 := X6.trans g7)
            | (have gd := X5; clear gd; go_at_call 17; (refine (c6.out _ X5).mono ?_); rintro e V6 ⟨B6, d6, rfl, o6, g6⟩; have X6 : Bl W0 V6 := X5.trans g6)
            | (have gd := X4; clear gd; go_at_call 16; (refine (c5.out _ X4).mono ?_); rintro e V5 ⟨rfl, g5⟩; have X5 : Bl W0 V5 := X4.gr g5)
            | (have gd := X3; clear gd; go_at_call 15; (refine (c4'.out _ X3).mono ?_); rintro e V4 ⟨rfl, g4⟩; have X4 : Bl W0 V4 := X3.gr g4)
            | (have gd := X2; clear gd; go_at_call 12; (refine (c3.out _ X2 _ _ o2.rd).mono ?_); rintro e V3 ⟨rfl, g3⟩; have X3 : Bl W0 V3 := X2.gr g3)
            | (have gd := X1; clear gd; go_at_call 13; (refine (as1 o1.rd (by have := hL2l.out; omega)).mono ?_); rintro e V2 ⟨B2, d2, rfl, o2, g2⟩; have X2 : Bl W0 V2 := X1.trans g2)
            | (go_at_call 14; (refine (c1.out _ (by first | with_reducible exact Bl.refl _ | with_reducible exact (Bl.refl _).drew)).mono ?_); rintro e V1 ⟨B1, d1, rfl, o1, g1⟩; have X1 : Bl W0 V1 := (Bl.refl W0).drew.trans g1)
            | fail))
          have S9 := S5.bl X9
          have R9 := R5.bl X9
          clear SK c1 c3 c4' c5 c6 c8 S5 R5 bx
          go_wp2
          go_roundw
          case rel => exact ⟨j + 1, A4, c4, AR4, cR4, L2, by omega, rfl, by go_num, S9, R9, hL3⟩
          case measure => simp [intOf]; omega
        · have hbd : (decide ((j : Int) < (D.length : Int)) = false ∧ ¬ (j : Int) < (D.length : Int)) ∨ (decide ((j : Int) < (D.length : Int)) = true ∧ decide ((j : Int) < 40) = false ∧ j < D.length) := by
            rcases (show j = D.length ∨ (j < D.length ∧ 40 ≤ j) by omega) with h | h
            · exact .inl ⟨by simp; omega, by omega⟩
            · exact .inr ⟨by simp; omega, by simp; omega, h.1⟩
          clear hlt
          have hLl : Hid (L.length ≤ 46) := Lib.hid (by have := hL.out; omega)
          have g := S.g
          have c1 := pAllK S.p (by have := hLl.out; omega)
          have cl := fun V => livesK V
          replace hj := Lib.hid hj
          rcases hbd with ⟨h, h'⟩ | ⟨h, h', h''⟩
          all_goals
            go_wp2_with fail
            refine c1.mono ?_
            rintro e v1 ⟨B1, d1, rfl, o1, g1⟩
            go_wp2_with fail
            refine (as1 o1.rd (by have := hLl.out; omega)).mono ?_
            rintro e v2 ⟨B2, d2, rfl, o2, g2⟩
            go_wp2_with fail
            refine (rSameT o2.rd ((R.bl g1).bl g2).rd (by have := hLl.out; omega)).mono ?_
            rintro e v3 ⟨rfl, g3⟩
            go_wp2_with fail
            refine (cl _).mono ?_
            rintro e v4 ⟨rfl, g4⟩
            have G4 := (((g.trans g1).trans g2).gr g3).trans g4
            go_wp2
            go_ret
            exact ⟨rfl, G4⟩
end

end Go.Proofs.Ytgjoipndhlngnaa
