/-
  What is proved: the walk of the statement StackRow. Conditions: bounds on lengths.
-/
import Derived.Test.YtgjoipndhlngnaaSkv
namespace Go.Proofs.Ytgjoipndhlngnaa
open Go.ChangeShapes Go.WideShapes Go.ChangeAt Go.RowKit Go.Joins Go.Sort Go.Deep

section
attribute [local go_sem ↓] eqlK neqK eqlP neqP

/-- What stands behind a move: the key itself is taken out of it, the others stand as they did. -/
structure MvQ (N : List Ky) (k : Ky) (L : List Ky) (at1 : Int) : Prop where
  pos : atK L k = at1
  mem : k ∈ L
  rest : dropK L k = dropK N k
  len : L.length ≤ N.length
theorem mv_top {N : List Ky} (hd : N.Nodup) {k : Ky} (hk : k ∈ N) : MvQ N k (topK N k) ((N.length : Int) - 1) := by
  have e : topK N k = dropK N k ++ k :: [] := if_pos hk
  have hn : ¬ k ∈ dropK N k := fun h => (drop_mem.1 h).2 rfl
  have hl := drop_len1 hd hk
  have h1 := ix_lt hk
  rw [e]
  refine ⟨by rw [at_mid (a := k) (fun x hx e' => hn (by rw [e'] at hx; exact hx)), hl]; omega, by simp, drop_mid (by simp) hn, by simp; omega⟩
theorem mv_low {N : List Ky} (hd : N.Nodup) {k : Ky} (hk : k ∈ N) : MvQ N k (lowK N k) 0 := by
  have e : lowK N k = [] ++ k :: dropK N k := if_pos hk
  have hn : ¬ k ∈ dropK N k := fun h => (drop_mem.1 h).2 rfl
  have hl := drop_len1 hd hk
  have h1 := ix_lt hk
  rw [e]
  refine ⟨by rw [at_mid (by simp)]; rfl, by simp, drop_mid (by simp) hn, by simp; omega⟩
theorem mv_self {N : List Ky} {k : Ky} (hk : k ∈ N) : MvQ N k N (atK N k) := ⟨rfl, hk, rfl, Nat.le_refl _⟩
theorem mv_raise {N : List Ky} (hd : N.Nodup) {k o : Ky} (hk : k ∈ N) (ho : o ∈ N) (hne : k ≠ o) : MvQ N k (raiseK N k o) (atK (raiseK N k o) o + 1) ∧ atK (raiseK N k o) o + 1 ≤ N.length := by
  obtain ⟨e1, _⟩ := raise_on hk ho hne
  have hn : ¬ k ∈ dropK N k := fun h => (drop_mem.1 h).2 rfl
  have hoD : o ∈ dropK N k := drop_mem.2 ⟨ho, fun e => hne e.symm⟩
  have hl := drop_len1 hd hk
  have hdn := drop_nodup hd k
  have h0 := ix_lt hk
  have h1 := ix_lt hoD
  have h2 := ix_get hoD
  rw [e1, raise_cut hd hk ho hne]
  have hT : ((dropK N k).take (ixK (dropK N k) o + 1)).length = ixK (dropK N k) o + 1 := by rw [List.length_take]; omega
  have ek : atK ((dropK N k).take (ixK (dropK N k) o + 1) ++ k :: (dropK N k).drop (ixK (dropK N k) o + 1)) k = (ixK (dropK N k) o + 1 : Nat) := by
    rw [at_mid (a := k) (fun x hx e' => hn (by rw [e'] at hx; exact List.mem_of_mem_take hx)), hT]
  have eo : atK ((dropK N k).take (ixK (dropK N k) o + 1) ++ k :: (dropK N k).drop (ixK (dropK N k) o + 1)) o = (ixK (dropK N k) o : Nat) := by
    refine at_first ?_ ?_
    · rw [List.getElem?_append_left (by omega), List.getElem?_take, if_pos (by omega)]; exact h2
    · rw [List.take_append_of_le_length (by omega), List.take_take, Nat.min_eq_left (by omega)]
      intro x hx e'
      subst e'
      obtain ⟨j, hj⟩ := List.getElem?_of_mem hx
      rw [List.getElem?_take] at hj
      split at hj
      · exact nodup_ne hdn hj h2 (by omega) rfl
      · cases hj
  rw [List.append_assoc, List.singleton_append]
  refine ⟨⟨by rw [ek, eo]; push_cast; rfl, by simp, drop_mid (List.take_append_drop _ _) hn, by simp; omega⟩, by rw [eo]; omega⟩
set_option maxRecDepth 100000 in
set_option maxHeartbeats 8000000 in
theorem row_core (AF : Option Addr) (cF : Nat) (LF : List Ky) (na nb how : Int) (w : World) (hF : shK.Rd w AF LF) (hFI : ∀ x ∈ LF, I64 x.1 ∧ I64 x.2) (ha : I64 na) (hb : I64 nb) (_hh : I64 how) :
    Calls Try.prog 4 #[.slice AF LF.length cF, .int .i64 na, .int .i64 nb, .int .i64 how] w fun e w' => e = .returned (.bool true) ∧ Bl w w' := by
  go_enter Try.func4, Try.ntmps4
  go_wp2
  go_loopw [9, 10] (fun v iv wr => ∃ (j : Nat) (A2 : Option Addr) (c2 : Nat) (M : List Ky), j ≤ LF.length ∧ v = .slice A2 M.length c2 ∧ iv = .int .i64 (j : Int) ∧ OwK wr w.heap.size A2 c2 M ∧ Hid (M.length = j ∧ j ≤ 9) ∧ Bl w wr) (fun _ iv _ => LF.length - (intOf iv).toNat)
  case atStart => exact ⟨0, none, 0, [], by omega, rfl, rfl, Shp.Ow.nil _ _, Lib.hid ⟨rfl, by omega⟩, Bl.refl _⟩
  case round =>
    obtain ⟨j, A2, c2, M, hj, rfl, rfl, own, hM, G⟩ := hrel
    by_cases hlt : j < LF.length ∧ j < 9
    · obtain ⟨hlt, hlt2⟩ := hlt
      obtain ⟨q, hq⟩ := list_at hlt
      obtain ⟨b, off, rfl, hrow⟩ := hF.opened (by omega)
      have hqI := hFI q (List.mem_of_getElem? hq)
      obtain ⟨e1, e2⟩ := k_at (hrow.bl G) hq
      have cB := fun V => small14 q hqI.1 hqI.2 V
      generalize smK q = x at *
      have hM2 : Hid ((M ++ [x]).length = j + 1 ∧ j + 1 ≤ 9) := Lib.hid ⟨by have := hM.out; simp; omega, by omega⟩
      have hMl : M.length ≤ 9 := by have := hM.out; omega
      have hsz := G.size
      clear hq hqI hrow
      replace hMl := Lib.hid hMl
      go_wp2_with (first
        | (at_builtin; refine Shp.wp_app (S := shK) Try.underlying22 infoK rfl (by decide) rfl (.tmp 30) (.tmp 36) rfl A2 c2 M rfl w.heap.size ((own.bl g4.bl).bl ((Bl.refl _).alloc _)) (some ⟨w4.heap.size, 0, none⟩) 1 [x] rfl (by first | simp | exact hcap) (Shp.Rd.new1 (At.new _ _ _) rfl) (by have := hMl.out; simp; omega) (by have := g4.size; simp; omega) ?_; intro A5 c5 w5 own5 ap5 lies5)
        | (go_at_call 11; (refine (cB _).mono ?_); rintro e w4 ⟨rfl, g4⟩))
      have G5 : Bl w w5 := own.app_bl ap5 ((G.gr g4).alloc _) (Nat.le_refl _)
      go_roundw
      case rel => exact ⟨j + 1, A5, c5, M ++ [x], by omega, by simp, by go_num, own5, hM2, G5⟩
      case measure => simp [intOf]; omega
    · have hbd : (decide ((j : Int) < (LF.length : Int)) = false ∧ ¬ (j : Int) < (LF.length : Int)) ∨ (decide ((j : Int) < (LF.length : Int)) = true ∧ decide ((j : Int) < 9) = false ∧ j < LF.length) := by
          rcases (show j = LF.length ∨ (j < LF.length ∧ 9 ≤ j) by omega) with h | h
          · exact .inl ⟨by simp; omega, by omega⟩
          · exact .inr ⟨by simp; omega, by simp; omega, h.1⟩

      clear hlt
      have hMl : M.length ≤ 9 := by have := hM.out; omega
      replace hj := Lib.hid hj
      have cR := rNewK (c := c2) own.rd (by omega)
      have hNl := new_len M
      have hNd := new_nodup M
      clear hFI hF hM
      generalize newK M = N at *
      have hN9 : N.length ≤ 9 := by omega
      clear hNl
      replace hMl := Lib.hid hMl
      rcases hbd with ⟨h, h'⟩ | ⟨h, h', h''⟩
      all_goals
        go_wp2_with fail
        refine cR.mono ?_
        rintro e w3 ⟨A9, c9, rfl, own9, g9⟩
        have G3 := G.trans g9
        by_cases h0 : N.length = 0
        · have h0z : ((N.length : Int) == 0) = true := by simp [h0]
          have h0i : (N.length : Int) = 0 := by omega
          clear cR
          replace h0 := Lib.hid h0
          go_wp2_with fail
          refine (livesK _).mono ?_
          rintro e v4 ⟨rfl, g4⟩
          go_wp2
          go_ret
          exact ⟨rfl, G3.trans g4⟩
        · have h0z : ((N.length : Int) == 0) = false := by simp; intro e; exact h0 (by rw [e]; rfl)
          have h0i : ¬ (N.length : Int) = 0 := by omega
          have cN := pNewK (A := none) (c := 0) (L := []) (w := w3) (.inl rfl) (by simp)
          simp only [List.length_nil, show newK [] = [] from rfl] at cN
          clear cR
          go_wp2_with fail
          refine cN.mono ?_
          rintro e w4 ⟨pa, A0, c0, rfl, hpa, P4, g4⟩
          have S0 : SS w w4 pa A0 c0 [] := ⟨⟨P4.hd, P4.own.low G3.size, P4.nd⟩, by have := G3.size; omega, G3.trans g4⟩
          have R0 : OwK w4 w.heap.size A9 c9 N := (own9.bl g4).low G.size
          clear cN P4 g4 own9 own G g9 G3 hpa h h'
          go_wp2
          go_loopw [12] (fun iv wr => ∃ (i : Nat) (A : Option Addr) (c : Nat) (L : List Ky), i ≤ N.length ∧ iv = .int .i64 (i : Int) ∧ SS w wr pa A c L ∧ OwK wr w.heap.size A9 c9 N ∧ Hid (L = N.take i)) (fun iv _ => N.length - (intOf iv).toNat)
          case atStart => exact ⟨0, A0, c0, [], by omega, rfl, S0, R0, Lib.hid (by simp)⟩
          case round =>
            clear S0 R0
            obtain ⟨i, A, c, L, hi, rfl, S, R, hL⟩ := hrel
            by_cases hli : i < N.length
            · obtain ⟨p, hp⟩ := list_at hli
              obtain ⟨b, off, hbA, hrow⟩ := R.rd.opened (by omega)
              obtain ⟨e1, e2⟩ := k_at hrow hp
              have hL2 : Hid (addK L p = N.take (i + 1)) := Lib.hid (by rw [hL.out]; exact add_take hNd hp)
              have hLl : L.length ≤ 9 := by rw [hL.out]; have := List.length_take_le i N; omega
              have cA := pAddK S.p (by omega) S.g.size p
              clear hp hrow
              subst hbA
              go_wp2_with fail
              refine cA.mono ?_
              rintro e w6 ⟨rfl, q6⟩
              obtain ⟨A6, c6, S6, K6⟩ := S.next q6
              have R6 := R.kx K6 (S.p.xf (by decide) (by decide))
              clear cA q6 K6
              go_wp2
              go_roundw
              case rel => exact ⟨i + 1, A6, c6, addK L p, by omega, by go_num, S6, R6, hL2⟩
              case measure => simp [intOf]; omega
            · obtain rfl : i = N.length := by omega
              have hLN := hL.out
              rw [List.take_length] at hLN
              rw [hLN] at S
              clear hL hli hi hLN
              have cA := fun V => aroundM1 na (N.length : Int) V ha (by omega)
              have cB := fun V => aroundM1 nb (N.length : Int) V hb (by omega)
              obtain ⟨bd1, bd2⟩ := aroundM_bd na (N.length : Int) (by omega)
              obtain ⟨bd3, bd4⟩ := aroundM_bd nb (N.length : Int) (by omega)
              obtain ⟨i1, hi1⟩ : ∃ i : Nat, aroundM na (N.length : Int) = (i : Int) := ⟨(aroundM na (N.length : Int)).toNat, by omega⟩
              obtain ⟨i2, hi2⟩ : ∃ i : Nat, aroundM nb (N.length : Int) = (i : Int) := ⟨(aroundM nb (N.length : Int)).toNat, by omega⟩
              rw [hi1] at cA bd1 bd2
              rw [hi2] at cB bd3 bd4
              clear hi1 hi2
              obtain ⟨k, hk⟩ := list_at (show i1 < N.length by omega)
              obtain ⟨o, ho⟩ := list_at (show i2 < N.length by omega)
              obtain ⟨bb, off, hbA, hrow⟩ := R.rd.opened (by omega)
              obtain ⟨e1, e2⟩ := k_at hrow hk
              obtain ⟨e3, e4⟩ := k_at hrow ho
              have ebl := hrow.lt (by omega)
              have hkm := List.mem_of_getElem? hk
              have hom := List.mem_of_getElem? ho
              subst hbA
              have hX : ∀ k, SX pa A k → k < wr.heap.size := fun k hk => by
                rcases hk with rfl | hk
                · exact S.p.hd.lt
                · exact S.p.own.ltn k hk
              have b10 := (At.new wr (kC k) 27).alloc (.cells (kC o) 27)
              have b11 := At.newAt (w := wr.alloc (.cells (kC k) 27)) (n := wr.heap.size + 1) (by simp) (kC o) 27
              have GX : Bl wr ((wr.alloc (.cells (kC k) 27)).alloc (.cells (kC o) 27)) := ((Bl.refl wr).alloc _).alloc _
              have SX1 := S.bl GX
              have RX := R.bl GX
              obtain ⟨WX, hWX⟩ : ∃ WX, WX = (wr.alloc (.cells (kC k) 27)).alloc (.cells (kC o) 27) := ⟨_, rfl⟩
              have hWX' : (wr.alloc (.cells #[.int .i64 k.1, .int .i64 k.2] 27)).alloc (.cells #[.int .i64 o.1, .int .i64 o.2] 27) = WX := hWX.symm
              rw [← hWX] at b10 b11 SX1 RX
              have f0 : WX.cell? ⟨wr.heap.size, 0, none⟩ = some (.int .i64 k.1) := b10.cell 0
              have f1 : WX.cell? ⟨wr.heap.size, 1, none⟩ = some (.int .i64 k.2) := b10.cell 1
              have c1 := pAt1 SX1.p (by omega) k
              have hatb := at_hi N k
              have hatl := at_lo N k
              have mself := mv_self hkm
              have mtop := mv_top hNd hkm
              have mlow := mv_low hNd hkm
              have mr := fun hne : k ≠ o => mv_raise hNd hkm hom hne
              have ht := fun V (g : Bl WX V) => pTopK (SX1.p.bl g) (by omega) (SX1.bl g).g.size k
              have hlo := fun V (g : Bl WX V) => pLowK (SX1.p.bl g) (by omega) (SX1.bl g).g.size k
              have hra := fun V (g : Bl WX V) => pRaiseK (SX1.p.bl g) (by omega) (SX1.bl g).g.size k o
              generalize atK N k = at0 at *
              obtain ⟨rm, hrm⟩ : ∃ rm, rm = how.tmod 3 := ⟨_, rfl⟩
              have hi1l : i1 < N.length := by omega
              have hi2l : i2 < N.length := by omega
              clear hk ho hWX GX hX S R
              go_wp2_with (first | (have gd := dn1; clear gd; go_at_call 21; (refine (cB _).mono ?_); rintro e w8 ⟨rfl, g8⟩; subst g8) | (go_at_call 21; (refine (cA _).mono ?_); rintro e w7 ⟨rfl, g7⟩; subst g7; have dn1 := True.intro) | rw [hWX'])
              refine c1.mono ?_
              rintro e v1 ⟨rfl, g1⟩
              have S1 := SX1.bl g1.bl
              have R1 := RX.bl g1.bl
              have b1 := b10.gr g1
              have y0 : v1.cell? ⟨wr.heap.size, 0, none⟩ = some (.int .i64 k.1) := b1.cell 0
              have y1 : v1.cell? ⟨wr.heap.size, 1, none⟩ = some (.int .i64 k.2) := b1.cell 1
              have h11 := b11.gr g1
              have y2 : v1.cell? ⟨wr.heap.size + 1, 0, none⟩ = some (.int .i64 o.1) := h11.cell 0
              have y3 : v1.cell? ⟨wr.heap.size + 1, 1, none⟩ = some (.int .i64 o.2) := h11.cell 1
              have ht1 := ht _ g1.bl
              have hlo1 := hlo _ g1.bl
              have hra1 := hra _ g1.bl
              have hwN : IntKind.i64.wrap ((N.length : Int) - 1) = (N.length : Int) - 1 := IntWalk.i64_in _ (by omega)
              clear c1 ht hlo hra b10 SX1 RX f0 f1 cA cB hWX' e1 e2 e3 e4 hrow
              by_cases hr0 : how.tmod 3 = 0
              · clear hlo1 hra1 y2 y3 h11
                go_wp2_with fail
                refine ht1.mono ?_
                rintro e v2 ⟨rfl, q2⟩
                obtain ⟨A2', c2', S2, K2⟩ := S1.next q2
                have R2 := R1.kx K2 (S1.p.xf (by decide) (by decide))
                have b2 := b1.kt K2 (S1.p.xf (by decide) (by decide))
                obtain ⟨L2, hL2⟩ : ∃ L2, L2 = topK N k := ⟨_, rfl⟩
                rw [← hL2] at S2 mtop
                clear hL2 ht1 q2 K2 y0 y1 S1 R1 b1
                have m9 := mtop
                have l9 := m9.len
                have a9 := m9.pos
                have r9 := m9.rest
                have d9 : decide (k ∈ L2) = true := by simpa using m9.mem
                have cD := fun V (g : Bl v2 V) => rDropK (c := c9) (R2.bl g).rd (by omega) k
                have cD2 := fun V A c (h : shK.Rd V A L2) => rDropK (c := c) h (by omega) k
                rw [r9, d9] at cD2
                rw [show decide (k ∈ N) = true from by simpa using hkm] at cD
                have hRl := drop_len N k
                generalize dropK N k = RS at *
                have x0 : v2.cell? ⟨wr.heap.size, 0, none⟩ = some (.int .i64 k.1) := b2.cell 0
                have x1 : v2.cell? ⟨wr.heap.size, 1, none⟩ = some (.int .i64 k.2) := b2.cell 1
                have c7 := fun V (g : Bl v2 V) => pAt1 (S2.p.bl g) (by omega) k
                rw [a9] at c7
                clear m9 a9 r9 d9 mself mtop mlow mr hNd hkm hom
                go_wp2_with fail
                refine (cD _ (Bl.refl _)).mono ?_
                rintro e v3 ⟨B3, d3, rfl, o3, g3⟩
                have b3 := b2.bl g3
                have S3 := S2.bl g3
                have SK := Lib.hid (fun V (g : Bl v3 V) => (show V.cell? ⟨wr.heap.size, 0, none⟩ = some (.int .i64 k.1) ∧ V.cell? ⟨wr.heap.size, 1, none⟩ = some (.int .i64 k.2) ∧ Bl v3 V from ⟨(b3.bl g).cell 0, (b3.bl g).cell 1, g⟩))
                have cL := Lib.hid (fun V (g : Bl v3 V) => pAllK (S3.p.bl g) (by omega))
                have cE := Lib.hid cD2
                have hl2 : Hid (L2.length ≤ 9) := Lib.hid (by omega)
                clear cD cD2 x0 x1
                go_wp2
                go_region_held3 (fun V => V.cell? ⟨wr.heap.size, 0, none⟩ = some (.int .i64 k.1) ∧ V.cell? ⟨wr.heap.size, 1, none⟩ = some (.int .i64 k.2) ∧ Bl v3 V) ((refine SK.out _ ?_; repeat (first | with_reducible assumption | with_reducible exact Bl.refl _ | with_reducible exact X3 | with_reducible exact X2 | with_reducible exact X1 | with_reducible apply Bl.drew))) ((first
                  | (have gd := X2; clear gd; go_at_call 25; (refine (cE.out _ _ _ o5.rd).mono ?_); rintro e V3 ⟨B6, d6, rfl, o6, g6⟩; have X3 : Bl v3 V3 := X2.trans g6)
                  | (have gd := X1; clear gd; go_at_call 13; (refine (as1 o4.rd (by have := hl2.out; omega)).mono ?_); rintro e V2 ⟨B5, d5, rfl, o5, g5⟩; have X2 : Bl v3 V2 := X1.trans g5)
                  | (go_at_call 14; (refine (cL.out _ (by first | with_reducible exact Bl.refl _ | with_reducible exact (Bl.refl _).drew)).mono ?_); rintro e V1 ⟨B4, d4, rfl, o4, g4⟩; have X1 : Bl v3 V1 := (Bl.refl v3).drew.trans g4)
                  | fail))
                have o3' := (o3.bl X3)
                have z0 : V3.cell? ⟨wr.heap.size, 0, none⟩ = some (.int .i64 k.1) := (b3.bl X3).cell 0
                have z1 : V3.cell? ⟨wr.heap.size, 1, none⟩ = some (.int .i64 k.2) := (b3.bl X3).cell 1
                have G3 := S3.g.trans X3
                have c8 := c7 _ (g3.trans X3)
                clear SK cL cE c7 o4 o5 g4 g5 b3 S3
                go_wp2_with fail
                refine c8.mono ?_
                rintro e v7 ⟨rfl, g7⟩
                go_wp2_with fail
                refine (rSameT (o6.rd.bl g7.bl) (o3'.rd.bl g7.bl) (by omega)).mono ?_
                rintro e v8 ⟨rfl, g8⟩
                have G8 := (G3.gr g7).gr g8
                go_wp2_with fail
                refine (livesK _).mono ?_
                rintro e v9 ⟨rfl, g9⟩
                go_wp2
                go_ret
                exact ⟨rfl, G8.trans g9⟩
              · by_cases hr1 : how.tmod 3 = 1
                · clear ht1 hra1 y2 y3 h11 hr0
                  go_wp2_with fail
                  refine hlo1.mono ?_
                  rintro e v2 ⟨rfl, q2⟩
                  obtain ⟨A2', c2', S2, K2⟩ := S1.next q2
                  have R2 := R1.kx K2 (S1.p.xf (by decide) (by decide))
                  have b2 := b1.kt K2 (S1.p.xf (by decide) (by decide))
                  obtain ⟨L2, hL2⟩ : ∃ L2, L2 = lowK N k := ⟨_, rfl⟩
                  rw [← hL2] at S2 mlow
                  clear hL2 hlo1 q2 K2 y0 y1 S1 R1 b1
                  have m9 := mlow
                  have l9 := m9.len
                  have a9 := m9.pos
                  have r9 := m9.rest
                  have d9 : decide (k ∈ L2) = true := by simpa using m9.mem
                  have cD := fun V (g : Bl v2 V) => rDropK (c := c9) (R2.bl g).rd (by omega) k
                  have cD2 := fun V A c (h : shK.Rd V A L2) => rDropK (c := c) h (by omega) k
                  rw [r9, d9] at cD2
                  rw [show decide (k ∈ N) = true from by simpa using hkm] at cD
                  have hRl := drop_len N k
                  generalize dropK N k = RS at *
                  have x0 : v2.cell? ⟨wr.heap.size, 0, none⟩ = some (.int .i64 k.1) := b2.cell 0
                  have x1 : v2.cell? ⟨wr.heap.size, 1, none⟩ = some (.int .i64 k.2) := b2.cell 1
                  have c7 := fun V (g : Bl v2 V) => pAt1 (S2.p.bl g) (by omega) k
                  rw [a9] at c7
                  clear m9 a9 r9 d9 mself mtop mlow mr hNd hkm hom
                  go_wp2_with fail
                  refine (cD _ (Bl.refl _)).mono ?_
                  rintro e v3 ⟨B3, d3, rfl, o3, g3⟩
                  have b3 := b2.bl g3
                  have S3 := S2.bl g3
                  have SK := Lib.hid (fun V (g : Bl v3 V) => (show V.cell? ⟨wr.heap.size, 0, none⟩ = some (.int .i64 k.1) ∧ V.cell? ⟨wr.heap.size, 1, none⟩ = some (.int .i64 k.2) ∧ Bl v3 V from ⟨(b3.bl g).cell 0, (b3.bl g).cell 1, g⟩))
                  have cL := Lib.hid (fun V (g : Bl v3 V) => pAllK (S3.p.bl g) (by omega))
                  have cE := Lib.hid cD2
                  have hl2 : Hid (L2.length ≤ 9) := Lib.hid (by omega)
                  clear cD cD2 x0 x1
                  go_wp2
                  go_region_held3 (fun V => V.cell? ⟨wr.heap.size, 0, none⟩ = some (.int .i64 k.1) ∧ V.cell? ⟨wr.heap.size, 1, none⟩ = some (.int .i64 k.2) ∧ Bl v3 V) ((refine SK.out _ ?_; repeat (first | with_reducible assumption | with_reducible exact Bl.refl _ | with_reducible exact X3 | with_reducible exact X2 | with_reducible exact X1 | with_reducible apply Bl.drew))) ((first
                    | (have gd := X2; clear gd; go_at_call 25; (refine (cE.out _ _ _ o5.rd).mono ?_); rintro e V3 ⟨B6, d6, rfl, o6, g6⟩; have X3 : Bl v3 V3 := X2.trans g6)
                    | (have gd := X1; clear gd; go_at_call 13; (refine (as1 o4.rd (by have := hl2.out; omega)).mono ?_); rintro e V2 ⟨B5, d5, rfl, o5, g5⟩; have X2 : Bl v3 V2 := X1.trans g5)
                    | (go_at_call 14; (refine (cL.out _ (by first | with_reducible exact Bl.refl _ | with_reducible exact (Bl.refl _).drew)).mono ?_); rintro e V1 ⟨B4, d4, rfl, o4, g4⟩; have X1 : Bl v3 V1 := (Bl.refl v3).drew.trans g4)
                    | fail))
                  have o3' := (o3.bl X3)
                  have z0 : V3.cell? ⟨wr.heap.size, 0, none⟩ = some (.int .i64 k.1) := (b3.bl X3).cell 0
                  have z1 : V3.cell? ⟨wr.heap.size, 1, none⟩ = some (.int .i64 k.2) := (b3.bl X3).cell 1
                  have G3 := S3.g.trans X3
                  have c8 := c7 _ (g3.trans X3)
                  clear SK cL cE c7 o4 o5 g4 g5 b3 S3
                  go_wp2_with fail
                  refine c8.mono ?_
                  rintro e v7 ⟨rfl, g7⟩
                  go_wp2_with fail
                  refine (rSameT (o6.rd.bl g7.bl) (o3'.rd.bl g7.bl) (by omega)).mono ?_
                  rintro e v8 ⟨rfl, g8⟩
                  have G8 := (G3.gr g7).gr g8
                  go_wp2_with fail
                  refine (livesK _).mono ?_
                  rintro e v9 ⟨rfl, g9⟩
                  go_wp2
                  go_ret
                  exact ⟨rfl, G8.trans g9⟩
                · have hz0 : (how.tmod 3 == 0) = false := by simpa using hr0
                  have hz1 : (how.tmod 3 == 1) = false := by simpa using hr1
                  clear ht1 hlo1
                  by_cases hne : k = o
                  · subst hne
                    obtain ⟨s1, s2⟩ := raise_self hkm
                    rw [s1, s2] at hra1
                    clear s1 s2
                    go_wp2_with fail
                    refine hra1.mono ?_
                    rintro e v2 ⟨rfl, q2⟩
                    obtain ⟨A2', c2', S2, K2⟩ := S1.next q2
                    have R2 := R1.kx K2 (S1.p.xf (by decide) (by decide))
                    have b2 := b1.kt K2 (S1.p.xf (by decide) (by decide))
                    obtain ⟨L2, hL2⟩ : ∃ L2, L2 = N := ⟨_, rfl⟩
                    have mself2 : MvQ N k L2 at0 := by rw [hL2]; exact mself
                    rw [← hL2] at S2
                    clear hL2 hra1 q2 K2 y0 y1 y2 y3 S1 R1 b1 h11
                    have m9 := mself2
                    have l9 := m9.len
                    have a9 := m9.pos
                    have r9 := m9.rest
                    have d9 : decide (k ∈ L2) = true := by simpa using m9.mem
                    have cD := fun V (g : Bl v2 V) => rDropK (c := c9) (R2.bl g).rd (by omega) k
                    have cD2 := fun V A c (h : shK.Rd V A L2) => rDropK (c := c) h (by omega) k
                    rw [r9, d9] at cD2
                    rw [show decide (k ∈ N) = true from by simpa using hkm] at cD
                    have hRl := drop_len N k
                    generalize dropK N k = RS at *
                    have x0 : v2.cell? ⟨wr.heap.size, 0, none⟩ = some (.int .i64 k.1) := b2.cell 0
                    have x1 : v2.cell? ⟨wr.heap.size, 1, none⟩ = some (.int .i64 k.2) := b2.cell 1
                    have c7 := fun V (g : Bl v2 V) => pAt1 (S2.p.bl g) (by omega) k
                    rw [a9] at c7
                    clear m9 a9 r9 d9 mself mtop mlow mr hNd hkm hom
                    go_wp2_with fail
                    refine (cD _ (Bl.refl _)).mono ?_
                    rintro e v3 ⟨B3, d3, rfl, o3, g3⟩
                    have b3 := b2.bl g3
                    have S3 := S2.bl g3
                    have SK := Lib.hid (fun V (g : Bl v3 V) => (show V.cell? ⟨wr.heap.size, 0, none⟩ = some (.int .i64 k.1) ∧ V.cell? ⟨wr.heap.size, 1, none⟩ = some (.int .i64 k.2) ∧ Bl v3 V from ⟨(b3.bl g).cell 0, (b3.bl g).cell 1, g⟩))
                    have cL := Lib.hid (fun V (g : Bl v3 V) => pAllK (S3.p.bl g) (by omega))
                    have cE := Lib.hid cD2
                    have hl2 : Hid (L2.length ≤ 9) := Lib.hid (by omega)
                    clear cD cD2 x0 x1
                    go_wp2
                    go_region_held3 (fun V => V.cell? ⟨wr.heap.size, 0, none⟩ = some (.int .i64 k.1) ∧ V.cell? ⟨wr.heap.size, 1, none⟩ = some (.int .i64 k.2) ∧ Bl v3 V) ((refine SK.out _ ?_; repeat (first | with_reducible assumption | with_reducible exact Bl.refl _ | with_reducible exact X3 | with_reducible exact X2 | with_reducible exact X1 | with_reducible apply Bl.drew))) ((first
                      | (have gd := X2; clear gd; go_at_call 25; (refine (cE.out _ _ _ o5.rd).mono ?_); rintro e V3 ⟨B6, d6, rfl, o6, g6⟩; have X3 : Bl v3 V3 := X2.trans g6)
                      | (have gd := X1; clear gd; go_at_call 13; (refine (as1 o4.rd (by have := hl2.out; omega)).mono ?_); rintro e V2 ⟨B5, d5, rfl, o5, g5⟩; have X2 : Bl v3 V2 := X1.trans g5)
                      | (go_at_call 14; (refine (cL.out _ (by first | with_reducible exact Bl.refl _ | with_reducible exact (Bl.refl _).drew)).mono ?_); rintro e V1 ⟨B4, d4, rfl, o4, g4⟩; have X1 : Bl v3 V1 := (Bl.refl v3).drew.trans g4)
                      | fail))
                    have o3' := (o3.bl X3)
                    have z0 : V3.cell? ⟨wr.heap.size, 0, none⟩ = some (.int .i64 k.1) := (b3.bl X3).cell 0
                    have z1 : V3.cell? ⟨wr.heap.size, 1, none⟩ = some (.int .i64 k.2) := (b3.bl X3).cell 1
                    have G3 := S3.g.trans X3
                    have c8 := c7 _ (g3.trans X3)
                    clear SK cL cE c7 o4 o5 g4 g5 b3 S3
                    go_wp2_with fail
                    refine c8.mono ?_
                    rintro e v7 ⟨rfl, g7⟩
                    go_wp2_with fail
                    refine (rSameT (o6.rd.bl g7.bl) (o3'.rd.bl g7.bl) (by omega)).mono ?_
                    rintro e v8 ⟨rfl, g8⟩
                    have G8 := (G3.gr g7).gr g8
                    go_wp2_with fail
                    refine (livesK _).mono ?_
                    rintro e v9 ⟨rfl, g9⟩
                    go_wp2
                    go_ret
                    exact ⟨rfl, G8.trans g9⟩
                  · obtain ⟨s1, s2⟩ := raise_on hkm hom hne
                    rw [s2] at hra1
                    obtain ⟨m1, m2⟩ := mr hne
                    obtain ⟨L2, hL2⟩ : ∃ L2, L2 = raiseK N k o := ⟨_, rfl⟩
                    rw [← hL2] at m1 m2 hra1
                    have hlo2 := at_lo L2 o
                    have hL2l := m1.len
                    clear s1 s2 hL2
                    go_wp2_with fail
                    refine hra1.mono ?_
                    rintro e v2' ⟨rfl, q2⟩
                    obtain ⟨A2', c2', S2', K2⟩ := S1.next q2
                    have R2' := R1.kx K2 (S1.p.xf (by decide) (by decide))
                    have b2' := b1.kt K2 (S1.p.xf (by decide) (by decide))
                    have b3' := h11.kt K2 (S1.p.xf (by decide) (by decide))
                    have u2 : v2'.cell? ⟨wr.heap.size + 1, 0, none⟩ = some (.int .i64 o.1) := b3'.cell 0
                    have u3 : v2'.cell? ⟨wr.heap.size + 1, 1, none⟩ = some (.int .i64 o.2) := b3'.cell 1
                    have cO := pAt1 S2'.p (by omega) o
                    have hwA : IntKind.i64.wrap (atK L2 o + 1) = atK L2 o + 1 := IntWalk.i64_in _ (by omega)
                    generalize atK L2 o = ao at *
                    clear hra1 q2 K2 y0 y1 y2 y3 S1 R1 b1 h11
                    go_wp2_with fail
                    refine cO.mono ?_
                    rintro e v2 ⟨rfl, g2⟩
                    have S2 := S2'.bl g2.bl
                    have R2 := R2'.bl g2.bl
                    have b2 := b2'.gr g2
                    clear cO u2 u3 S2' R2' b2' b3'
                    have m9 := m1
                    have l9 := m9.len
                    have a9 := m9.pos
                    have r9 := m9.rest
                    have d9 : decide (k ∈ L2) = true := by simpa using m9.mem
                    have cD := fun V (g : Bl v2 V) => rDropK (c := c9) (R2.bl g).rd (by omega) k
                    have cD2 := fun V A c (h : shK.Rd V A L2) => rDropK (c := c) h (by omega) k
                    rw [r9, d9] at cD2
                    rw [show decide (k ∈ N) = true from by simpa using hkm] at cD
                    have hRl := drop_len N k
                    generalize dropK N k = RS at *
                    have x0 : v2.cell? ⟨wr.heap.size, 0, none⟩ = some (.int .i64 k.1) := b2.cell 0
                    have x1 : v2.cell? ⟨wr.heap.size, 1, none⟩ = some (.int .i64 k.2) := b2.cell 1
                    have c7 := fun V (g : Bl v2 V) => pAt1 (S2.p.bl g) (by omega) k
                    rw [a9] at c7
                    clear m9 a9 r9 d9 mself mtop mlow mr hNd hkm hom
                    go_wp2_with fail
                    refine (cD _ (Bl.refl _)).mono ?_
                    rintro e v3 ⟨B3, d3, rfl, o3, g3⟩
                    have b3 := b2.bl g3
                    have S3 := S2.bl g3
                    have SK := Lib.hid (fun V (g : Bl v3 V) => (show V.cell? ⟨wr.heap.size, 0, none⟩ = some (.int .i64 k.1) ∧ V.cell? ⟨wr.heap.size, 1, none⟩ = some (.int .i64 k.2) ∧ Bl v3 V from ⟨(b3.bl g).cell 0, (b3.bl g).cell 1, g⟩))
                    have cL := Lib.hid (fun V (g : Bl v3 V) => pAllK (S3.p.bl g) (by omega))
                    have cE := Lib.hid cD2
                    have hl2 : Hid (L2.length ≤ 9) := Lib.hid (by omega)
                    clear cD cD2 x0 x1
                    go_wp2
                    go_region_held3 (fun V => V.cell? ⟨wr.heap.size, 0, none⟩ = some (.int .i64 k.1) ∧ V.cell? ⟨wr.heap.size, 1, none⟩ = some (.int .i64 k.2) ∧ Bl v3 V) ((refine SK.out _ ?_; repeat (first | with_reducible assumption | with_reducible exact Bl.refl _ | with_reducible exact X3 | with_reducible exact X2 | with_reducible exact X1 | with_reducible apply Bl.drew))) ((first
                      | (have gd := X2; clear gd; go_at_call 25; (refine (cE.out _ _ _ o5.rd).mono ?_); rintro e V3 ⟨B6, d6, rfl, o6, g6⟩; have X3 : Bl v3 V3 := X2.trans g6)
                      | (have gd := X1; clear gd; go_at_call 13; (refine (as1 o4.rd (by have := hl2.out; omega)).mono ?_); rintro e V2 ⟨B5, d5, rfl, o5, g5⟩; have X2 : Bl v3 V2 := X1.trans g5)
                      | (go_at_call 14; (refine (cL.out _ (by first | with_reducible exact Bl.refl _ | with_reducible exact (Bl.refl _).drew)).mono ?_); rintro e V1 ⟨B4, d4, rfl, o4, g4⟩; have X1 : Bl v3 V1 := (Bl.refl v3).drew.trans g4)
                      | fail))
                    have o3' := (o3.bl X3)
                    have z0 : V3.cell? ⟨wr.heap.size, 0, none⟩ = some (.int .i64 k.1) := (b3.bl X3).cell 0
                    have z1 : V3.cell? ⟨wr.heap.size, 1, none⟩ = some (.int .i64 k.2) := (b3.bl X3).cell 1
                    have G3 := S3.g.trans X3
                    have c8 := c7 _ (g3.trans X3)
                    clear SK cL cE c7 o4 o5 g4 g5 b3 S3
                    go_wp2_with fail
                    refine c8.mono ?_
                    rintro e v7 ⟨rfl, g7⟩
                    go_wp2_with fail
                    refine (rSameT (o6.rd.bl g7.bl) (o3'.rd.bl g7.bl) (by omega)).mono ?_
                    rintro e v8 ⟨rfl, g8⟩
                    have G8 := (G3.gr g7).gr g8
                    go_wp2_with fail
                    refine (livesK _).mono ?_
                    rintro e v9 ⟨rfl, g9⟩
                    go_wp2
                    go_ret
                    exact ⟨rfl, G8.trans g9⟩
end

end Go.Proofs.Ytgjoipndhlngnaa
