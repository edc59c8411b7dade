/-
  What is proved: what Good of the document's package hands back of any form and any arguments. No conditions but bounds.
-/
import Derived.Test.YtaebbkfbapajkaaDoorUq
namespace Go.Proofs.YtaebbkfbapajkaaDoor
open Go.RowKit Go.Sort
attribute [local go_sem ↓] run_min2 run_max2

set_option maxRecDepth 100000 in
set_option maxHeartbeats 16000000 in
theorem goodG (T : ByteArray) (A : Option Addr) (c : Nat) (X : List (Av × Value)) (w : World) (hX : Vv w A X) (hl : X.length ≤ 1000000) (hT : T.size ≤ 1000) (hmem : ∀ c ∈ T.data.toList, c = 105 ∨ c = 117 ∨ c = 115 ∨ c = 114 ∨ c = 98) :
    Calls Tryd.prog 11 #[.string T, .slice A X.length c] w (MadeQ w (goodL T.data.toList (X.map Prod.fst))) := by
  obtain ⟨Lf, hLf⟩ : ∃ l, l = goodL T.data.toList (X.map Prod.fst) := ⟨_, rfl⟩
  rw [← hLf]
  have hLfl : Lf.length = T.size := by rw [hLf, goodL_len]; rfl
  obtain ⟨n, hn⟩ : ∃ n, n = X.length := ⟨_, rfl⟩
  rw [← hn] at hl ⊢
  replace hLf := Lib.hid hLf
  replace hLfl := Lib.hid hLfl
  replace hn := Lib.hid hn
  replace hmem := Lib.hid hmem
  obtain ⟨m, hm⟩ : ∃ m, m = T.size := ⟨_, rfl⟩
  have hmi : (T.size : Int) = m := by rw [hm]
  rw [← hm] at hT
  replace hm := Lib.hid hm
  go_enter Tryd.func11, Tryd.ntmps11
  go_wp2
  go_loopw [5, 6] (fun l i wr => ∃ k Al cl Y, k ≤ m ∧ i = .int .i64 ((k : Nat) : Int) ∧ l = .slice Al (Y : List (Av × Value)).length cl ∧ Hid (Y.map Prod.fst = Lf.take k) ∧ Hid (Y.length = k) ∧ OwV wr w.heap.size Al cl Y ∧ Hid (∀ p ∈ Y, Sv w p.2 p.1.b) ∧ Bl w wr) (fun _ i _ => m - (intOf i).toNat)
  case atStart => exact ⟨0, none, 0, [], Nat.zero_le _, rfl, rfl, Lib.hid rfl, Lib.hid rfl, OwV.nil _ _, Lib.hid (fun p hp => by simp at hp), Bl.refl _⟩
  case round =>
    obtain ⟨k, Al, cl, Y, hk, rfl, rfl, hY, hYl, own, hsv, G⟩ := hrel
    have hz3 := G.size
    have hYk : Y.length ≤ 1000 := by rw [hYl.out]; omega
    by_cases hlt : k < m
    · have q1 : (k : Int) < m := by omega
      have q3 : k < T.size := by rw [← hm.out]; exact hlt
      have hc := letter_at T q3
      have hm5 := hmem.out T[k] (List.mem_of_getElem? hc)
      have hb8 : (T[k].toNat : Int) < 256 := by have := T[k].toNat_lt; omega
      have hget := goodL_get T.data.toList (X.map Prod.fst) k T[k] hc
      rw [← hLf.out] at hget
      have hlit : ∀ c : UInt8, T[k] = c → (T[k].toNat : Int) = c.toNat := fun c h => by rw [h]
      replace hc := Lib.hid hc
      replace hlit := Lib.hid hlit
      replace hYl := Lib.hid hYl.out
      by_cases hx : k < n
      · have q5 : (k : Int) < n := by omega
        obtain ⟨b, off, p, rfl, hp8, hcells, hsvp⟩ := (hX.bl G).at (k := k) (by rw [← hn.out]; exact hx)
        have hsw : Sv w p.2 p.1.b := hX.2 p (List.mem_of_getElem? hp8)
        have hpd : (X.map Prod.fst).getD k zeroV = p.1 := by rw [List.getD_eq_getElem?_getD, List.getElem?_map, hp8]; rfl
        rw [hpd] at hget
        have hnext := fun v c (h : T[k] = c) => show (Y.map Prod.fst) ++ [((goodV c p.1, v) : Av × Value).1] = Lf.take (k + 1) by rw [take_snoc hget, ← hY.out, h]
        clear hsvp hp8 hX hget hpd
        have hcells := hcells.bl ((Bl.refl wr).alloc (.cells #[.int .i64 0, .int .i64 0, .string ⟨#[]⟩, .int .i64 0, .int .i64 0, .int .i64 0, .int .i64 0, .slice none 0 0] 47))
        obtain ⟨⟨pk, pn, ps, px0, py0, px1, py1, pb⟩, pv⟩ := p
        obtain ⟨F0, F1, F2, F3, F4, F5, F6, F7⟩ := hcells
        dsimp only at *
        obtain ⟨Ab, cb, rfl, hAb, hlb, hcb, hrow⟩ := hsw
        have hcb2 : (cb : Int) ≤ 9223372036854775807 := by unfold maxLen at hcb; omega
        have tn := tmodS pn
        have t0 := tmodS px0
        have t1 := tmodS py0
        have t2 := tmodS px1
        have t3 := tmodS py1
        obtain ⟨tn0, tn1⟩ := tn
        obtain ⟨t00, t01⟩ := t0
        obtain ⟨t10, t11⟩ := t1
        obtain ⟨t20, t21⟩ := t2
        obtain ⟨t30, t31⟩ := t3
        have hm1 : min (ps.size : Int) 20 = ((min ps.size 20 : Nat) : Int) := by omega
        have hm2 : min (pb.length : Int) 20 = ((min pb.length 20 : Nat) : Int) := by omega
        have ht : (pb.take 20).length = min pb.length 20 := by rw [List.length_take, Nat.min_comm]
        have hsv2 : Sv w (.slice Ab (min pb.length 20) cb) (pb.take 20) := ⟨Ab, cb, by rw [ht], hAb, by rw [ht]; omega, hcb, by
          rcases hrow with h | ⟨b', off', h1, h2⟩
          · left; rw [h]; simp
          · exact .inr ⟨b', off', h1, h2.take 20⟩⟩
        have hM1 : min ps.size 20 ≤ ps.size := Nat.min_le_left _ _
        have hM2 : min pb.length 20 ≤ cb := by omega
        have g1 : ∀ v, (Y.map Prod.fst) ++ [((vI (pn.tmod 2147483648), v) : Av × Value).1] = Lf.take (k + 1) ∨ ¬ T[k] = 105 := fun v => by
          by_cases h : T[k] = 105
          · exact .inl (hnext v 105 h)
          · exact .inr h
        have g2 : ∀ v, (Y.map Prod.fst) ++ [((vI (max (pn.tmod 2147483648) (-(pn.tmod 2147483648))), v) : Av × Value).1] = Lf.take (k + 1) ∨ ¬ T[k] = 117 := fun v => by
          by_cases h : T[k] = 117
          · exact .inl (hnext v 117 h)
          · exact .inr h
        have g3 : ∀ v, (Y.map Prod.fst) ++ [((vS (ps.extract 0 (min ps.size 20)), v) : Av × Value).1] = Lf.take (k + 1) ∨ ¬ T[k] = 115 := fun v => by
          by_cases h : T[k] = 115
          · exact .inl (hnext v 115 h)
          · exact .inr h
        have g4 : ∀ v, (Y.map Prod.fst) ++ [((vR (px0.tmod 2147483648) (py0.tmod 2147483648) (px1.tmod 2147483648) (py1.tmod 2147483648), v) : Av × Value).1] = Lf.take (k + 1) ∨ ¬ T[k] = 114 := fun v => by
          by_cases h : T[k] = 114
          · exact .inl (hnext v 114 h)
          · exact .inr h
        have g5 : ∀ v, (Y.map Prod.fst) ++ [((vB (pb.take 20), v) : Av × Value).1] = Lf.take (k + 1) ∨ ¬ T[k] = 98 := fun v => by
          by_cases h : T[k] = 98
          · exact .inl (hnext v 98 h)
          · exact .inr h
        clear ht hrow hlb hnext
        generalize pb.take 20 = pb' at *
        generalize min ps.size 20 = M1 at *
        generalize min pb.length 20 = M2 at *
        generalize pb.length = pbn at *
        have wn : IntKind.i64.wrap (-(pn.tmod 2147483648)) = -(pn.tmod 2147483648) := IntWalk.i64_in _ (by omega)
        have hM1' : (M1 : Int) ≤ ps.size := by omega
        have hM2' : (M2 : Int) ≤ cb := by omega
        replace g1 := Lib.hid g1
        replace g2 := Lib.hid g2
        replace g3 := Lib.hid g3
        replace g4 := Lib.hid g4
        replace g5 := Lib.hid g5
        replace hsv2 := Lib.hid hsv2
        rcases hm5 with hm5 | hm5 | hm5 | hm5 | hm5
        · have e0 := hlit.out 105 hm5
          simp only [UInt8.reduceToNat] at e0
          have hn1 := (g1.out (.slice none 0 0)).resolve_right (fun h => h hm5)
          replace hn1 := Lib.hid hn1
          replace hm5 := Lib.hid hm5
          have own1 := own.bl ((((Bl.refl wr).alloc (.cells #[.int .i64 pk, .int .i64 pn, .string ps, .int .i64 px0, .int .i64 py0, .int .i64 px1, .int .i64 py1, .slice Ab pbn cb] 47)).alloc (.cells (c8 (vI (pn.tmod 2147483648), .slice none 0 0)).toArray 47)).alloc (.cells (c8 (vI (pn.tmod 2147483648), .slice none 0 0)).toArray 47))
          go_wp2_with (at_builtin; refine wp_app_gen Tryd.underlying22 infoV rfl (by decide) (by decide) rfl (.tmp 82) (.tmp 84) rfl Al Y.length cl (cV Y) rfl w.heap.size own1 (some ⟨wr.heap.size + 1 + 1, 0, none⟩) 1 1 (c8 (vI (pn.tmod 2147483648), .slice none 0 0)) rfl (by simp) (by rw [c8_len]) (News.at 1 (At.newAt (by simp) _ _)) (c8_one ⟨_, _, _, rfl⟩) (by omega) (by simp; omega) ?_; intro A2 c2 w4 own2 by2 _; have G4 : Bl w w4 := app_bl by2 (((G.alloc _).alloc _).alloc _) (ow_lies own1) (Nat.le_refl _))
          go_roundw
          case rel => exact ⟨k + 1, A2, c2, Y ++ [(vI (pn.tmod 2147483648), .slice none 0 0)], by omega, by go_num, by simp, Lib.hid (by rw [List.map_append]; exact hn1.out), Lib.hid (by simp [hYl.out]), own_snoc own2, Lib.hid (fun p hp => by
            rcases List.mem_append.1 hp with hp | hp
            · exact hsv.out p hp
            · simp at hp; subst hp; exact Sv.nil _), G4⟩
          case measure => simp [intOf]; omega
        · have e0 := hlit.out 117 hm5
          simp only [UInt8.reduceToNat] at e0
          have hn1 := (g2.out (.slice none 0 0)).resolve_right (fun h => h hm5)
          replace hn1 := Lib.hid hn1
          replace hm5 := Lib.hid hm5
          have own1 := own.bl ((((Bl.refl wr).alloc (.cells #[.int .i64 pk, .int .i64 pn, .string ps, .int .i64 px0, .int .i64 py0, .int .i64 px1, .int .i64 py1, .slice Ab pbn cb] 47)).alloc (.cells (c8 (vI (max (pn.tmod 2147483648) (-(pn.tmod 2147483648))), .slice none 0 0)).toArray 47)).alloc (.cells (c8 (vI (max (pn.tmod 2147483648) (-(pn.tmod 2147483648))), .slice none 0 0)).toArray 47))
          go_wp2_with (at_builtin; refine wp_app_gen Tryd.underlying22 infoV rfl (by decide) (by decide) rfl (.tmp 82) (.tmp 84) rfl Al Y.length cl (cV Y) rfl w.heap.size own1 (some ⟨wr.heap.size + 1 + 1, 0, none⟩) 1 1 (c8 (vI (max (pn.tmod 2147483648) (-(pn.tmod 2147483648))), .slice none 0 0)) rfl (by simp) (by rw [c8_len]) (News.at 1 (At.newAt (by simp) _ _)) (c8_one ⟨_, _, _, rfl⟩) (by omega) (by simp; omega) ?_; intro A2 c2 w4 own2 by2 _; have G4 : Bl w w4 := app_bl by2 (((G.alloc _).alloc _).alloc _) (ow_lies own1) (Nat.le_refl _))
          go_roundw
          case rel => exact ⟨k + 1, A2, c2, Y ++ [(vI (max (pn.tmod 2147483648) (-(pn.tmod 2147483648))), .slice none 0 0)], by omega, by go_num, by simp, Lib.hid (by rw [List.map_append]; exact hn1.out), Lib.hid (by simp [hYl.out]), own_snoc own2, Lib.hid (fun p hp => by
            rcases List.mem_append.1 hp with hp | hp
            · exact hsv.out p hp
            · simp at hp; subst hp; exact Sv.nil _), G4⟩
          case measure => simp [intOf]; omega
        · have e0 := hlit.out 115 hm5
          simp only [UInt8.reduceToNat] at e0
          have hn1 := (g3.out (.slice none 0 0)).resolve_right (fun h => h hm5)
          replace hn1 := Lib.hid hn1
          replace hm5 := Lib.hid hm5
          have own1 := own.bl ((((Bl.refl wr).alloc (.cells #[.int .i64 pk, .int .i64 pn, .string ps, .int .i64 px0, .int .i64 py0, .int .i64 px1, .int .i64 py1, .slice Ab pbn cb] 47)).alloc (.cells (c8 (vS (ps.extract 0 M1), .slice none 0 0)).toArray 47)).alloc (.cells (c8 (vS (ps.extract 0 M1), .slice none 0 0)).toArray 47))
          go_wp2_with (at_builtin; refine wp_app_gen Tryd.underlying22 infoV rfl (by decide) (by decide) rfl (.tmp 82) (.tmp 84) rfl Al Y.length cl (cV Y) rfl w.heap.size own1 (some ⟨wr.heap.size + 1 + 1, 0, none⟩) 1 1 (c8 (vS (ps.extract 0 M1), .slice none 0 0)) rfl (by simp) (by rw [c8_len]) (News.at 1 (At.newAt (by simp) _ _)) (c8_one ⟨_, _, _, rfl⟩) (by omega) (by simp; omega) ?_; intro A2 c2 w4 own2 by2 _; have G4 : Bl w w4 := app_bl by2 (((G.alloc _).alloc _).alloc _) (ow_lies own1) (Nat.le_refl _))
          go_roundw
          case rel => exact ⟨k + 1, A2, c2, Y ++ [(vS (ps.extract 0 M1), .slice none 0 0)], by omega, by go_num, by simp, Lib.hid (by rw [List.map_append]; exact hn1.out), Lib.hid (by simp [hYl.out]), own_snoc own2, Lib.hid (fun p hp => by
            rcases List.mem_append.1 hp with hp | hp
            · exact hsv.out p hp
            · simp at hp; subst hp; exact Sv.nil _), G4⟩
          case measure => simp [intOf]; omega
        · have e0 := hlit.out 114 hm5
          simp only [UInt8.reduceToNat] at e0
          have hn1 := (g4.out (.slice none 0 0)).resolve_right (fun h => h hm5)
          replace hn1 := Lib.hid hn1
          replace hm5 := Lib.hid hm5
          have own1 := own.bl ((((Bl.refl wr).alloc (.cells #[.int .i64 pk, .int .i64 pn, .string ps, .int .i64 px0, .int .i64 py0, .int .i64 px1, .int .i64 py1, .slice Ab pbn cb] 47)).alloc (.cells (c8 (vR (px0.tmod 2147483648) (py0.tmod 2147483648) (px1.tmod 2147483648) (py1.tmod 2147483648), .slice none 0 0)).toArray 47)).alloc (.cells (c8 (vR (px0.tmod 2147483648) (py0.tmod 2147483648) (px1.tmod 2147483648) (py1.tmod 2147483648), .slice none 0 0)).toArray 47))
          go_wp2_with (at_builtin; refine wp_app_gen Tryd.underlying22 infoV rfl (by decide) (by decide) rfl (.tmp 82) (.tmp 84) rfl Al Y.length cl (cV Y) rfl w.heap.size own1 (some ⟨wr.heap.size + 1 + 1, 0, none⟩) 1 1 (c8 (vR (px0.tmod 2147483648) (py0.tmod 2147483648) (px1.tmod 2147483648) (py1.tmod 2147483648), .slice none 0 0)) rfl (by simp) (by rw [c8_len]) (News.at 1 (At.newAt (by simp) _ _)) (c8_one ⟨_, _, _, rfl⟩) (by omega) (by simp; omega) ?_; intro A2 c2 w4 own2 by2 _; have G4 : Bl w w4 := app_bl by2 (((G.alloc _).alloc _).alloc _) (ow_lies own1) (Nat.le_refl _))
          go_roundw
          case rel => exact ⟨k + 1, A2, c2, Y ++ [(vR (px0.tmod 2147483648) (py0.tmod 2147483648) (px1.tmod 2147483648) (py1.tmod 2147483648), .slice none 0 0)], by omega, by go_num, by simp, Lib.hid (by rw [List.map_append]; exact hn1.out), Lib.hid (by simp [hYl.out]), own_snoc own2, Lib.hid (fun p hp => by
            rcases List.mem_append.1 hp with hp | hp
            · exact hsv.out p hp
            · simp at hp; subst hp; exact Sv.nil _), G4⟩
          case measure => simp [intOf]; omega
        · have e0 := hlit.out 98 hm5
          simp only [UInt8.reduceToNat] at e0
          have hn1 := (g5.out (.slice Ab M2 cb)).resolve_right (fun h => h hm5)
          replace hn1 := Lib.hid hn1
          replace hm5 := Lib.hid hm5
          have own1 := own.bl ((((Bl.refl wr).alloc (.cells #[.int .i64 pk, .int .i64 pn, .string ps, .int .i64 px0, .int .i64 py0, .int .i64 px1, .int .i64 py1, .slice Ab pbn cb] 47)).alloc (.cells (c8 (vB pb', .slice Ab M2 cb)).toArray 47)).alloc (.cells (c8 (vB pb', .slice Ab M2 cb)).toArray 47))
          go_wp2_with (at_builtin; refine wp_app_gen Tryd.underlying22 infoV rfl (by decide) (by decide) rfl (.tmp 82) (.tmp 84) rfl Al Y.length cl (cV Y) rfl w.heap.size own1 (some ⟨wr.heap.size + 1 + 1, 0, none⟩) 1 1 (c8 (vB pb', .slice Ab M2 cb)) rfl (by simp) (by rw [c8_len]) (News.at 1 (At.newAt (by simp) _ _)) (c8_one ⟨_, _, _, rfl⟩) (by omega) (by simp; omega) ?_; intro A2 c2 w4 own2 by2 _; have G4 : Bl w w4 := app_bl by2 (((G.alloc _).alloc _).alloc _) (ow_lies own1) (Nat.le_refl _))
          go_roundw
          case rel => exact ⟨k + 1, A2, c2, Y ++ [(vB pb', .slice Ab M2 cb)], by omega, by go_num, by simp, Lib.hid (by rw [List.map_append]; exact hn1.out), Lib.hid (by simp [hYl.out]), own_snoc own2, Lib.hid (fun p hp => by
            rcases List.mem_append.1 hp with hp | hp
            · exact hsv.out p hp
            · simp at hp; subst hp; exact hsv2.out), G4⟩
          case measure => simp [intOf]; omega
      · have q5 : ¬ (k : Int) < n := by omega
        have hpd : (X.map Prod.fst).getD k zeroV = zeroV := by rw [List.getD_eq_getElem?_getD, List.getElem?_eq_none (by rw [List.length_map, ← hn.out]; omega)]; rfl
        rw [hpd] at hget
        have hnext := fun v c (h : T[k] = c) => show (Y.map Prod.fst) ++ [((goodV c zeroV, v) : Av × Value).1] = Lf.take (k + 1) by rw [take_snoc hget, ← hY.out, h]
        clear hX hget hpd
        have g1 : ∀ v, (Y.map Prod.fst) ++ [((vI 0, v) : Av × Value).1] = Lf.take (k + 1) ∨ ¬ T[k] = 105 := fun v => by
          by_cases h : T[k] = 105
          · exact .inl (hnext v 105 h)
          · exact .inr h
        have g2 : ∀ v, (Y.map Prod.fst) ++ [((vI 0, v) : Av × Value).1] = Lf.take (k + 1) ∨ ¬ T[k] = 117 := fun v => by
          by_cases h : T[k] = 117
          · exact .inl (hnext v 117 h)
          · exact .inr h
        have g3 : ∀ v, (Y.map Prod.fst) ++ [((vS ⟨#[]⟩, v) : Av × Value).1] = Lf.take (k + 1) ∨ ¬ T[k] = 115 := fun v => by
          by_cases h : T[k] = 115
          · exact .inl (hnext v 115 h)
          · exact .inr h
        have g4 : ∀ v, (Y.map Prod.fst) ++ [((vR 0 0 0 0, v) : Av × Value).1] = Lf.take (k + 1) ∨ ¬ T[k] = 114 := fun v => by
          by_cases h : T[k] = 114
          · exact .inl (hnext v 114 h)
          · exact .inr h
        have g5 : ∀ v, (Y.map Prod.fst) ++ [((vB [], v) : Av × Value).1] = Lf.take (k + 1) ∨ ¬ T[k] = 98 := fun v => by
          by_cases h : T[k] = 98
          · exact .inl (hnext v 98 h)
          · exact .inr h
        clear hnext
        replace g1 := Lib.hid g1
        replace g2 := Lib.hid g2
        replace g3 := Lib.hid g3
        replace g4 := Lib.hid g4
        replace g5 := Lib.hid g5
        rcases hm5 with hm5 | hm5 | hm5 | hm5 | hm5
        · have e0 := hlit.out 105 hm5
          simp only [UInt8.reduceToNat] at e0
          have hn1 := (g1.out (.slice none 0 0)).resolve_right (fun h => h hm5)
          replace hn1 := Lib.hid hn1
          replace hm5 := Lib.hid hm5
          have own1 := own.bl ((((Bl.refl wr).alloc (.cells #[.int .i64 0, .int .i64 0, .string ⟨#[]⟩, .int .i64 0, .int .i64 0, .int .i64 0, .int .i64 0, .slice none 0 0] 47)).alloc (.cells (c8 (vI 0, .slice none 0 0)).toArray 47)).alloc (.cells (c8 (vI 0, .slice none 0 0)).toArray 47))
          go_wp2_with (at_builtin; refine wp_app_gen Tryd.underlying22 infoV rfl (by decide) (by decide) rfl (.tmp 82) (.tmp 84) rfl Al Y.length cl (cV Y) rfl w.heap.size own1 (some ⟨wr.heap.size + 1 + 1, 0, none⟩) 1 1 (c8 (vI 0, .slice none 0 0)) rfl (by simp) (by rw [c8_len]) (News.at 1 (At.newAt (by simp) _ _)) (c8_one ⟨_, _, _, rfl⟩) (by omega) (by simp; omega) ?_; intro A2 c2 w4 own2 by2 _; have G4 : Bl w w4 := app_bl by2 (((G.alloc _).alloc _).alloc _) (ow_lies own1) (Nat.le_refl _))
          go_roundw
          case rel => exact ⟨k + 1, A2, c2, Y ++ [(vI 0, .slice none 0 0)], by omega, by go_num, by simp, Lib.hid (by rw [List.map_append]; exact hn1.out), Lib.hid (by simp [hYl.out]), own_snoc own2, Lib.hid (fun p hp => by
            rcases List.mem_append.1 hp with hp | hp
            · exact hsv.out p hp
            · simp at hp; subst hp; exact Sv.nil _), G4⟩
          case measure => simp [intOf]; omega
        · have e0 := hlit.out 117 hm5
          simp only [UInt8.reduceToNat] at e0
          have hn1 := (g2.out (.slice none 0 0)).resolve_right (fun h => h hm5)
          replace hn1 := Lib.hid hn1
          replace hm5 := Lib.hid hm5
          have own1 := own.bl ((((Bl.refl wr).alloc (.cells #[.int .i64 0, .int .i64 0, .string ⟨#[]⟩, .int .i64 0, .int .i64 0, .int .i64 0, .int .i64 0, .slice none 0 0] 47)).alloc (.cells (c8 (vI 0, .slice none 0 0)).toArray 47)).alloc (.cells (c8 (vI 0, .slice none 0 0)).toArray 47))
          go_wp2_with (at_builtin; refine wp_app_gen Tryd.underlying22 infoV rfl (by decide) (by decide) rfl (.tmp 82) (.tmp 84) rfl Al Y.length cl (cV Y) rfl w.heap.size own1 (some ⟨wr.heap.size + 1 + 1, 0, none⟩) 1 1 (c8 (vI 0, .slice none 0 0)) rfl (by simp) (by rw [c8_len]) (News.at 1 (At.newAt (by simp) _ _)) (c8_one ⟨_, _, _, rfl⟩) (by omega) (by simp; omega) ?_; intro A2 c2 w4 own2 by2 _; have G4 : Bl w w4 := app_bl by2 (((G.alloc _).alloc _).alloc _) (ow_lies own1) (Nat.le_refl _))
          go_roundw
          case rel => exact ⟨k + 1, A2, c2, Y ++ [(vI 0, .slice none 0 0)], by omega, by go_num, by simp, Lib.hid (by rw [List.map_append]; exact hn1.out), Lib.hid (by simp [hYl.out]), own_snoc own2, Lib.hid (fun p hp => by
            rcases List.mem_append.1 hp with hp | hp
            · exact hsv.out p hp
            · simp at hp; subst hp; exact Sv.nil _), G4⟩
          case measure => simp [intOf]; omega
        · have e0 := hlit.out 115 hm5
          simp only [UInt8.reduceToNat] at e0
          have hn1 := (g3.out (.slice none 0 0)).resolve_right (fun h => h hm5)
          replace hn1 := Lib.hid hn1
          replace hm5 := Lib.hid hm5
          have own1 := own.bl ((((Bl.refl wr).alloc (.cells #[.int .i64 0, .int .i64 0, .string ⟨#[]⟩, .int .i64 0, .int .i64 0, .int .i64 0, .int .i64 0, .slice none 0 0] 47)).alloc (.cells (c8 (vS ⟨#[]⟩, .slice none 0 0)).toArray 47)).alloc (.cells (c8 (vS ⟨#[]⟩, .slice none 0 0)).toArray 47))
          go_wp2_with (at_builtin; refine wp_app_gen Tryd.underlying22 infoV rfl (by decide) (by decide) rfl (.tmp 82) (.tmp 84) rfl Al Y.length cl (cV Y) rfl w.heap.size own1 (some ⟨wr.heap.size + 1 + 1, 0, none⟩) 1 1 (c8 (vS ⟨#[]⟩, .slice none 0 0)) rfl (by simp) (by rw [c8_len]) (News.at 1 (At.newAt (by simp) _ _)) (c8_one ⟨_, _, _, rfl⟩) (by omega) (by simp; omega) ?_; intro A2 c2 w4 own2 by2 _; have G4 : Bl w w4 := app_bl by2 (((G.alloc _).alloc _).alloc _) (ow_lies own1) (Nat.le_refl _))
          go_roundw
          case rel => exact ⟨k + 1, A2, c2, Y ++ [(vS ⟨#[]⟩, .slice none 0 0)], by omega, by go_num, by simp, Lib.hid (by rw [List.map_append]; exact hn1.out), Lib.hid (by simp [hYl.out]), own_snoc own2, Lib.hid (fun p hp => by
            rcases List.mem_append.1 hp with hp | hp
            · exact hsv.out p hp
            · simp at hp; subst hp; exact Sv.nil _), G4⟩
          case measure => simp [intOf]; omega
        · have e0 := hlit.out 114 hm5
          simp only [UInt8.reduceToNat] at e0
          have hn1 := (g4.out (.slice none 0 0)).resolve_right (fun h => h hm5)
          replace hn1 := Lib.hid hn1
          replace hm5 := Lib.hid hm5
          have own1 := own.bl ((((Bl.refl wr).alloc (.cells #[.int .i64 0, .int .i64 0, .string ⟨#[]⟩, .int .i64 0, .int .i64 0, .int .i64 0, .int .i64 0, .slice none 0 0] 47)).alloc (.cells (c8 (vR 0 0 0 0, .slice none 0 0)).toArray 47)).alloc (.cells (c8 (vR 0 0 0 0, .slice none 0 0)).toArray 47))
          go_wp2_with (at_builtin; refine wp_app_gen Tryd.underlying22 infoV rfl (by decide) (by decide) rfl (.tmp 82) (.tmp 84) rfl Al Y.length cl (cV Y) rfl w.heap.size own1 (some ⟨wr.heap.size + 1 + 1, 0, none⟩) 1 1 (c8 (vR 0 0 0 0, .slice none 0 0)) rfl (by simp) (by rw [c8_len]) (News.at 1 (At.newAt (by simp) _ _)) (c8_one ⟨_, _, _, rfl⟩) (by omega) (by simp; omega) ?_; intro A2 c2 w4 own2 by2 _; have G4 : Bl w w4 := app_bl by2 (((G.alloc _).alloc _).alloc _) (ow_lies own1) (Nat.le_refl _))
          go_roundw
          case rel => exact ⟨k + 1, A2, c2, Y ++ [(vR 0 0 0 0, .slice none 0 0)], by omega, by go_num, by simp, Lib.hid (by rw [List.map_append]; exact hn1.out), Lib.hid (by simp [hYl.out]), own_snoc own2, Lib.hid (fun p hp => by
            rcases List.mem_append.1 hp with hp | hp
            · exact hsv.out p hp
            · simp at hp; subst hp; exact Sv.nil _), G4⟩
          case measure => simp [intOf]; omega
        · have e0 := hlit.out 98 hm5
          simp only [UInt8.reduceToNat] at e0
          have hn1 := (g5.out (.slice none 0 0)).resolve_right (fun h => h hm5)
          replace hn1 := Lib.hid hn1
          replace hm5 := Lib.hid hm5
          have own1 := own.bl ((((Bl.refl wr).alloc (.cells #[.int .i64 0, .int .i64 0, .string ⟨#[]⟩, .int .i64 0, .int .i64 0, .int .i64 0, .int .i64 0, .slice none 0 0] 47)).alloc (.cells (c8 (vB [], .slice none 0 0)).toArray 47)).alloc (.cells (c8 (vB [], .slice none 0 0)).toArray 47))
          go_wp2_with (at_builtin; refine wp_app_gen Tryd.underlying22 infoV rfl (by decide) (by decide) rfl (.tmp 82) (.tmp 84) rfl Al Y.length cl (cV Y) rfl w.heap.size own1 (some ⟨wr.heap.size + 1 + 1, 0, none⟩) 1 1 (c8 (vB [], .slice none 0 0)) rfl (by simp) (by rw [c8_len]) (News.at 1 (At.newAt (by simp) _ _)) (c8_one ⟨_, _, _, rfl⟩) (by omega) (by simp; omega) ?_; intro A2 c2 w4 own2 by2 _; have G4 : Bl w w4 := app_bl by2 (((G.alloc _).alloc _).alloc _) (ow_lies own1) (Nat.le_refl _))
          go_roundw
          case rel => exact ⟨k + 1, A2, c2, Y ++ [(vB [], .slice none 0 0)], by omega, by go_num, by simp, Lib.hid (by rw [List.map_append]; exact hn1.out), Lib.hid (by simp [hYl.out]), own_snoc own2, Lib.hid (fun p hp => by
            rcases List.mem_append.1 hp with hp | hp
            · exact hsv.out p hp
            · simp at hp; subst hp; exact Sv.nil _), G4⟩
          case measure => simp [intOf]; omega
    · have q1 : ¬ (k : Int) < m := by omega
      have hkm : k = m := by omega
      have hfin : Y.map Prod.fst = Lf := by rw [hY.out, List.take_of_length_le (by rw [hLfl.out, ← hm.out]; omega)]
      replace hfin := Lib.hid hfin
      replace hkm := Lib.hid hkm
      clear hX
      go_wp2
      go_ret
      exact ⟨Al, cl, Y, rfl, hfin.out, own, hsv.out, G⟩

end Go.Proofs.YtaebbkfbapajkaaDoor
