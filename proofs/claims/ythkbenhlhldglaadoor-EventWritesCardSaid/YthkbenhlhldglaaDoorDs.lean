/-
  What is proved: the statement EventWrites walked: the bytes of events are the document's, or they are refused; such as may be are read as they were. Conditions: bounds; the table of shapes reads as its initialiser lays it.
-/
import Derived.Test.YthkbenhlhldglaaDoorDr
import Derived.Test.YthkbenhlhldglaaDoorDh
import Derived.Test.YthkbenhlhldglaaDoorDj
namespace Go.Proofs.YthkbenhlhldglaaDoor
open Go.RowKit Go.Sort

set_option maxRecDepth 100000 in
set_option maxHeartbeats 8000000 in
theorem writes_core (A0 : Option Addr) (c0 : Nat) (L0 : List Ev) (w : World) (hS : Sh w) (hX : Es w A0 L0) (hI : ∀ e ∈ L0, I64e e) (hlc : L0.length ≤ c0) (hcm : c0 ≤ maxLen) : Calls Tryd.prog 7 #[.slice A0 L0.length c0] w (fun e w' => e = .returned (.bool true) ∧ Bl w w') := by
  have hcM : (c0 : Int) ≤ 9223372036854775807 := by unfold maxLen at hcm; omega
  obtain ⟨n, hn⟩ : ∃ n, n = L0.length := ⟨_, rfl⟩
  rw [← hn] at hlc ⊢
  replace hn := Lib.hid hn
  clear hcm
  go_enter Tryd.func7, Tryd.ntmps7
  go_wp2
  go_loopw [3, 4] (fun o i wr => ∃ (k : Nat) (A : Option Addr) (c : Nat) (M : List Ev), k ≤ n ∧ k ≤ 6 ∧ o = .slice A M.length c ∧ i = .int .i64 ((k : Nat) : Int) ∧ OwEv 62 wr w.heap.size A c M ∧ Bl w wr ∧ Hid (M = (L0.take k).map goodE) ∧ Hid (M.length = k)) (fun _ i _ => 6 - (intOf i).toNat)
  case atStart => exact ⟨0, none, 0, [], Nat.zero_le _, Nat.zero_le _, rfl, rfl, OwEv.nil _ _ _, Bl.refl _, Lib.hid rfl, Lib.hid rfl⟩
  case round =>
    obtain ⟨k, A, c, M, hk, hk5, rfl, rfl, own, G, hM, hMk⟩ := hrel
    have hMl : M.length ≤ 6 := by have := hMk.out; omega
    by_cases hlt : k < n ∧ k < 6
    · obtain ⟨hlt, hlt5⟩ := hlt
      have q1 : (k : Int) < n := by omega
      have q5 : (k : Int) < 6 := by omega
      obtain ⟨b, off, rfl, hrow⟩ := hX.opened (by rw [← hn.out]; omega)
      obtain ⟨e, he⟩ := list_at (l := L0) (k := k) (by rw [← hn.out]; exact hlt)
      have hc := hrow.cells he
      have hie := hI e (List.mem_of_getElem? he)
      have cg := fun V => goodE1 e V hie
      have hMn : M ++ [goodE e] = (L0.take (k + 1)).map goodE := by rw [goods_snoc he, hM.out]
      have co := fun (V : World) (g : Bl w V) => ofE1 (some ⟨b, off + k * 4, none⟩) (c0 - k) [e] V ((Es.oneAt hrow he).bl g) (by simp)
      have cB := fun (V : World) (g : Bl w V) => evMay1 e V (hS.bl g)
      have cC := fun (V : World) (_ : Bl w V) => reMay1 e V
      unfold BtE at cC
      unfold vE at cg cB cC
      generalize mayE e = MM at *
      generalize goodE e = q at *
      have hc1 := hc.bl G
      obtain ⟨F0, F1, F2, F3⟩ := hc1
      obtain ⟨ek, eid, ea, eb⟩ := e
      obtain ⟨gk, gid, ga, gb⟩ := q
      dsimp only at *
      unfold MkE at co
      replace hMn := Lib.hid hMn
      clear he hie hI hrow hX
      go_wp2_with fail
      refine (cg _).mono ?_
      rintro e w1 ⟨rfl, g1⟩
      have own1 := (own.bl g1).bl ((Bl.refl w1).alloc (.cells #[.int .i64 gk, .int .i64 gid, .int .i64 ga, .int .i64 gb] 62))
      have X2 := At.new w1 #[.int .i64 gk, .int .i64 gid, .int .i64 ga, .int .i64 gb] 62
      have G1 := (G.trans g1).alloc (.cells #[.int .i64 gk, .int .i64 gid, .int .i64 ga, .int .i64 gb] 62)
      clear own cg F0 F1 F2 F3
      go_wp2_with (at_builtin; refine wp_app_re rfl (.tmp 24) (.tmp 30) rfl A c M rfl w.heap.size own1 w1.heap.size ⟨gk, gid, ga, gb⟩ rfl X2 (by omega) G1.size ?_; intro A4 c4 w4 own4' by4; have G4 := app_bl by4 G1 (ow_lies own1) (Nat.le_refl _))
      have SK : ∀ V, Bl w4 V → V.cell? ⟨b, off + k * 4, none⟩ = some (.int .i64 ek) ∧ V.cell? ⟨b, off + k * 4 + 1, none⟩ = some (.int .i64 eid) ∧ V.cell? ⟨b, off + k * 4 + 2, none⟩ = some (.int .i64 ea) ∧ V.cell? ⟨b, off + k * 4 + 3, none⟩ = some (.int .i64 eb) ∧ Bl w4 V := fun V g => ⟨(hc.bl (G4.trans g)).h0, (hc.bl (G4.trans g)).h1, (hc.bl (G4.trans g)).h2, (hc.bl (G4.trans g)).h3, g⟩
      replace SK := Lib.hid SK
      have hwk : IntKind.i64.wrap ((k : Int) + 1) = (k : Int) + 1 := IntWalk.i64_in _ (by omega)
      have z1 : (0 ≤ (k : Int) + 1 ∧ (k : Int) + 1 ≤ (c0 : Int)) = True := eq_true (by omega)
      have z2 : ((k : Int) + 1).toNat = k + 1 := by omega
      have z3 : (c0 = k) = False := eq_false (by omega)
      have z4 : k + 1 - k = 1 := by omega
      have z5 : (k ≤ k + 1) = True := eq_true (by omega)
      replace co := Lib.hid fun V (g : Bl w4 V) => co V (G4.trans g)
      replace cB := Lib.hid fun V (g : Bl w4 V) => cB V (G4.trans g)
      replace cC := Lib.hid fun V (g : Bl w4 V) => cC V (G4.trans g)
      clear own1 X2 G1 by4 g1
      refine wp_region_held_drew (S := fun V => V.cell? ⟨b, off + k * 4, none⟩ = some (.int .i64 ek) ∧ V.cell? ⟨b, off + k * 4 + 1, none⟩ = some (.int .i64 eid) ∧ V.cell? ⟨b, off + k * 4 + 2, none⟩ = some (.int .i64 ea) ∧ V.cell? ⟨b, off + k * 4 + 3, none⟩ = some (.int .i64 eb) ∧ Bl w4 V) (by kernel_rfl) (SK.out _ (Bl.refl w4).drew) (fun hHeld => ?_)
      refine wpAnyH_take (i := 0) (v := ?_) rfl (by kernel_rfl) (by kernel_rfl) (by kernel_rfl) (fun _ _ _ h => h) (Or.inl ⟨by rfl, ?hy0_1⟩) (by assumption) ?rest0_1
      case hy0_1 => intro w' hSw; (try dsimp only at hSw); go_simp; (try with_reducible rfl)
      try simp only [Act.put, List.setIfInBounds_toArray]
      refine wpAnyH_take (i := 1) (v := ?_) rfl (by kernel_rfl) (by kernel_rfl) (by kernel_rfl) (fun _ _ _ h => h) (Or.inl ⟨by rfl, ?hy1_2⟩) (by assumption) ?rest1_2
      case hy1_2 => intro w' hSw; (try dsimp only at hSw); go_simp; (try with_reducible rfl)
      try simp only [Act.put]
      refine wpAnyH_take (i := 2) (v := ?_) rfl (by kernel_rfl) (by kernel_rfl) (by kernel_rfl) (fun _ _ _ h => h) (Or.inl ⟨by rfl, ?hy2_3⟩) (by assumption) ?rest2_3
      case hy2_3 => intro w' hSw; (try dsimp only at hSw); go_simp; (try with_reducible rfl)
      try simp only [Act.put]
      refine wpAnyH_take (i := 3) (v := ?_) rfl (by kernel_rfl) (by kernel_rfl) (by kernel_rfl) (fun _ _ _ h => h) (Or.inl ⟨by rfl, ?hy3_4⟩) (by assumption) ?rest3_4
      case hy3_4 => intro w' hSw; (try dsimp only at hSw); go_simp; (try with_reducible rfl)
      try simp only [Act.put]
      refine wpAnyH_take (i := 4) (v := ?_) rfl (by kernel_rfl) (by kernel_rfl) (by kernel_rfl) (fun _ _ _ h => h) (Or.inl ⟨by rfl, ?hy4_5⟩) (by assumption) ?rest4_5
      case hy4_5 => intro w' hSw; (try dsimp only at hSw); go_simp; (try simp only [hwk, z1, z2, z3, z4, z5, if_true, if_false]); (try with_reducible rfl)
      try simp only [Act.put]
      refine wpAnyH_take (i := 9) (v := ?_) rfl (by kernel_rfl) (by kernel_rfl) (by kernel_rfl) (fun _ _ _ h => h) (Or.inl ⟨by rfl, ?hy9_6⟩) (by assumption) ?rest9_6
      case hy9_6 => intro w' hSw; (try dsimp only at hSw); go_simp; (try with_reducible rfl)
      try simp only [Act.put]
      refine wpAnyH_take (i := 10) (v := ?_) rfl (by kernel_rfl) (by kernel_rfl) (by kernel_rfl) (fun _ _ _ h => h) (Or.inl ⟨by rfl, ?hy10_7⟩) (by assumption) ?rest10_7
      case hy10_7 => intro w' hSw; (try dsimp only at hSw); go_simp; (try with_reducible rfl)
      try simp only [Act.put]
      refine wpAnyH_take (i := 11) (v := ?_) rfl (by kernel_rfl) (by kernel_rfl) (by kernel_rfl) (fun _ _ _ h => h) (Or.inl ⟨by rfl, ?hy11_8⟩) (by assumption) ?rest11_8
      case hy11_8 => intro w' hSw; (try dsimp only at hSw); go_simp; (try with_reducible rfl)
      try simp only [Act.put]
      refine wpAnyH_take (i := 12) (v := ?_) rfl (by kernel_rfl) (by kernel_rfl) (by kernel_rfl) (fun _ _ _ h => h) (Or.inl ⟨by rfl, ?hy12_9⟩) (by assumption) ?rest12_9
      case hy12_9 => intro w' hSw; (try dsimp only at hSw); go_simp; (try with_reducible rfl)
      try simp only [Act.put]
      refine wpAnyH_ready (rs := [5]) (by kernel_rfl) (by simp) (AllReadyH.cons rfl (fun K9 hK9 => ?_) AllReadyH.nil)
      go_simp
      refine (co.out _ ((Bl.refl w4).drew)).mono ?_
      rintro e V1 ⟨A5, c5, rfl, ow5, g5⟩
      have GV1 : Bl w4 V1 := Bl.trans ((Bl.refl w4).drew) g5
      obtain ⟨b5, o5, rfl, hr5⟩ := ow5.es.opened (by simp)
      have hc5 := hr5.cells (k := 0) rfl
      simp only [Nat.zero_mul, Nat.add_zero] at hc5
      clear ow5 hr5 g5
      dsimp only
      refine hK9.out _ _ (SK.out _ (GV1)) (fun _ => ?_)
      clear hK9 K9
      try simp only [Act.put]
      refine wpAnyH_take (i := 6) (v := ?_) rfl (by kernel_rfl) (by kernel_rfl) (by kernel_rfl) (fun _ _ _ h => h) (Or.inl ⟨by rfl, ?hy6_10⟩) (by assumption) ?rest6_10
      case hy6_10 => intro w' hSw; (try dsimp only at hSw); go_simp; (try with_reducible rfl)
      try simp only [Act.put]
      refine wpAnyH_ready (rs := [7]) (by kernel_rfl) (by simp) (AllReadyH.cons rfl (fun K9 hK9 => ?_) AllReadyH.nil)
      obtain ⟨m0, m1, m2, m3⟩ := hc5
      dsimp only at m0 m1 m2 m3
      go_simp
      refine hK9.out _ _ (SK.out _ (GV1)) (fun _ => ?_)
      clear hK9 K9
      try simp only [Act.put]
      refine wpAnyH_ready (rs := [8]) (by kernel_rfl) (by simp) (AllReadyH.cons rfl (fun K9 hK9 => ?_) AllReadyH.nil)
      go_simp
      refine (cB.out _ (GV1)).mono ?_
      rintro e V3 ⟨rfl, g8⟩
      have GV3 : Bl w4 V3 := Bl.trans (GV1) g8
      dsimp only
      refine hK9.out _ _ (SK.out _ (GV3)) (fun _ => ?_)
      clear hK9 K9
      try simp only [Act.put]
      refine wpAnyH_ready (rs := [13]) (by kernel_rfl) (by simp) (AllReadyH.cons rfl (fun K9 hK9 => ?_) AllReadyH.nil)
      go_simp
      refine (cC.out _ (GV3)).mono ?_
      rintro e V4 ⟨rfl, gC⟩
      have GV4 : Bl w4 V4 := Bl.trans (GV3) gC
      dsimp only
      refine hK9.out _ _ (SK.out _ (GV4)) (fun _ => ?_)
      clear hK9 K9
      try simp only [Act.put]
      refine wpAnyH_take (i := 14) (v := ?_) rfl (by kernel_rfl) (by kernel_rfl) (by kernel_rfl) (fun _ _ _ h => h) (Or.inl ⟨by rfl, ?hy14_11⟩) (by assumption) ?rest14_11
      case hy14_11 => intro w' hSw; (try dsimp only at hSw); go_simp; (try with_reducible rfl)
      try simp only [Act.put]
      refine wpAnyH_done (by kernel_rfl) ?_ _
      have GF : Bl w4 V4 := GV4
      have own9 := own4'.bl GF
      have G9 := G4.trans GF
      clear hHeld SK co cB cC
      go_wp2
      go_roundw
      case rel => exact ⟨k + 1, A4, c4, M ++ [⟨gk, gid, ga, gb⟩], by omega, by omega, by simp, by go_num, own9, G9, hMn, by have := hMk.out; exact Lib.hid (by simp; omega)⟩
      case measure => simp [intOf]; omega
    · have hkk : k = n ∨ k = 6 := by omega
      have hMc : (M.length : Int) ≤ c0 := by have := hMk.out; omega
      have hall : ∀ e ∈ M, okE e := by rw [hM.out]; exact goods_ok L0 k
      have hRl : (L0.take k).length = M.length := by rw [List.length_take, hMk.out]; have := hn.out; omega
      have hR : Es wr A0 (L0.take k) := (hX.take k).bl G
      obtain ⟨R, hRe⟩ : ∃ R, R = L0.take k := ⟨_, rfl⟩
      rw [← hRe] at hRl hR
      have co1 := fun V (g : Bl wr V) => ofE1 A0 c0 R V (hR.bl g) (by omega)
      have cw1 := fun A' c' V (h1 : Sh V) (h2 : Es V A' R) => evWrite1 A' c' R V h1 h2 (by omega)
      have cw2 := fun V (g : Bl wr V) => reWrite1 A0 c0 R V (hR.bl g) (by omega)
      have co2 := fun V (g : Bl wr V) => ofE1 A c M V (own.es.bl g) (by omega)
      have cw3 := fun A' c' V (h1 : Sh V) (h2 : Es V A' M) => evWrite1 A' c' M V h1 h2 (by omega)
      have hDl := bytesE_len M
      have cr := fun A' c' V (h1 : Sh V) (h2 : Sv V (.slice A' (bytesE M).length c') (bytesE M)) => (show Calls Tryd.prog 33 #[.slice A' (bytesE M).length c'] V (RdEQ V (M, 0)) by
        obtain ⟨A2, c2, e0, e1, e2, e3, e4⟩ := h2
        injection e0 with i1 i2 i3
        subst i1 i3
        have := evRead1 A' c' (bytesE M) V h1 e4 e2 e3 (bytesE_by M hall) (by omega)
        rw [read_bytes hall] at this
        exact this)
      have ca := fun A' c' V (h : Es V A' M) => asE1 A' c' M V h (by omega)
      have cs := fun A' c' V (h : Es V A' M) (g : Es V A M) => sameE1 A' A c' c M M V h g (by omega)
      rw [decide_eq_true (rfl : M = M)] at cs
      rw [wrB_ok hall] at cw3
      unfold MkE at co1 co2 ca
      simp only [hRl] at co1 cw1 cw2
      have cl := fun V (g : Bl wr V) => livesE V ((hS.bl G).bl g)
      have hSr := hS.bl G
      have hes := own.es
      unfold PackQ at cw1 cw2 cw3
      unfold RdEQ at cr
      generalize wrB R = RR at *
      obtain ⟨WL, WE⟩ := RR
      generalize bytesE M = D at *
      dsimp only at *
      obtain ⟨m, hm⟩ : ∃ m, m = M.length := ⟨_, rfl⟩
      rw [← hm] at co1 cw1 cw2 co2 cw3 cr ca cs hMc ⊢
      replace hm := Lib.hid hm
      clear hI hall hRl hRe hR own hX hDl
      by_cases hkn : k < n
      case' pos =>
        have q1 : (k : Int) < n := by omega
        have q5 : ¬ (k : Int) < 6 := by omega
      case' neg =>
        have q1 : ¬ (k : Int) < n := by omega
      all_goals
        clear hlt hkk hkn
        go_wp2_with fail
        refine (co1 wr (Bl.refl wr)).mono ?_
        rintro e w1 ⟨A1, c1, rfl, ow1, g1⟩
        go_wp2_with fail
        refine (cw1 A1 c1 w1 (hSr.bl g1) ow1.es).mono ?_
        rintro e w2 ⟨A2, c2, rfl, s2, g2⟩
        have h2 := g1.trans g2
        go_wp2_with fail
        refine (cw2 w2 h2).mono ?_
        rintro e w3 ⟨A3, c3, rfl, s3, g3⟩
        have h3 := h2.trans g3
        go_wp2_with fail
        refine (co2 w3 h3).mono ?_
        rintro e w4 ⟨A4, c4, rfl, ow4, g4⟩
        have h4 := h3.trans g4
        go_wp2_with fail
        refine (cw3 A4 c4 w4 (hSr.bl h4) ow4.es).mono ?_
        rintro e w5 ⟨A5, c5, rfl, s5, g5⟩
        have h5 := h4.trans g5
        go_wp2_with fail
        refine (cr A5 c5 w5 (hSr.bl h5) s5).mono ?_
        rintro e w6 ⟨A6, c6, rfl, r6, _, g6⟩
        have h6 := h5.trans g6
        have s26 := s2.bl (g3.trans (g4.trans (g5.trans g6)))
        have s36 := s3.bl (g4.trans (g5.trans g6))
        have t1 : (convert 22 9 (.slice A2 WL.length c2)).run Tryd.prog w6 = .ok (.string (strOfNums WL)) w6 := by
          obtain ⟨A', c', e0, _, _, _, e4⟩ := s26
          injection e0 with i1 i2 i3
          subst i1 i3
          exact Sv.text e4
        have t2 : (convert 22 9 (.slice A3 WL.length c3)).run Tryd.prog w6 = .ok (.string (strOfNums WL)) w6 := by
          obtain ⟨A', c', e0, _, _, _, e4⟩ := s36
          injection e0 with i1 i2 i3
          subst i1 i3
          exact Sv.text e4
        have ca6 := ca A6 c6 w6 r6
        generalize strOfNums WL = TT at *
        clear s2 s3 s26 s36 co1 co2 cw1 cw2 cw3 cr ca ow1 ow4 s5
        generalize WL.length = r at *
        generalize D.length = r2 at *
        go_wp2_with fail
        refine ca6.mono ?_
        rintro e w7 ⟨A7, c7, rfl, ow7, g7⟩
        have h7 := h6.trans g7
        have cs7 := cs A7 c7 w7 ow7.es (hes.bl h7)
        clear cs ca6
        go_wp2_with fail
        refine cs7.mono ?_
        rintro e w8 ⟨rfl, g8⟩
        have h8 := h7.gr g8
        have cl8 := cl w8 h8
        clear cl cs7
        go_wp2_with fail
        refine cl8.mono ?_
        rintro e w9 ⟨rfl, g9⟩
        go_wp2
        go_ret
        exact ⟨by simp, G.trans (h8.trans g9)⟩

end Go.Proofs.YthkbenhlhldglaaDoor
