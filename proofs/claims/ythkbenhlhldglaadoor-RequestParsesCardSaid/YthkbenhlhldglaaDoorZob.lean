/-
  What is proved: Encode of the document where there is no such message. No conditions but bounds.
-/
import Derived.Test.YthkbenhlhldglaaDoorZo
import Derived.Deep.RegionHeld3
namespace Go.Proofs.YthkbenhlhldglaaDoor
open Go.RowKit Go.Sort

set_option maxRecDepth 100000 in
set_option maxHeartbeats 2000000 in
theorem renc_id (N n : Nat) (hN : N < 19) (id a b x0 y0 x1 y1 : Int) (s : ByteArray) (A : Option Addr) (c : Nat) (w : World) (F : ByteArray) (l : List Av) (p : List Int × Int) (got : Rq × Int) (L : List Int) (sm mb : Bool)
    (hN1 : L.length = n) (hsv : Sv w (.slice A n c) L) (hl : l = argL F.data.toList 0 ⟨N, id, a, b, x0, y0, x1, y1, s, L⟩) (hF : F.size ≤ 2) (hmem : ∀ c ∈ F.data.toList, c = 105 ∨ c = 117 ∨ c = 115 ∨ c = 114 ∨ c = 98)
    (cf : ∀ V, Calls Tryd.prog 41 #[] V (fun e w' => e = .returned (.slice (some ⟨V.heap.size, 0, none⟩) 19 19) ∧ w'.cell? ⟨V.heap.size, N, none⟩ = some (.string F) ∧ Gr V w'))
    (cp : ∀ A' c' X V, X.map Prod.fst = l → Vv V A' X → Calls Tryd.prog 42 #[.string F, .slice A' (X : List (Av × Value)).length c'] V (PackQ V p))
    (cm : ∀ A' c' V, Calls Tryd.prog 43 #[.agg #[.int .i64 N, .int .i64 id, .slice A' p.1.length c']] V (Rt V (.bool mb)))
    (cd : ∀ A' c' V, Sv V (.slice A' p.1.length c') p.1 → Calls Tryd.prog 17 #[.agg #[.int .i64 N, .int .i64 id, .slice A' p.1.length c']] V (DecQ V (fun k => A'.map (·.block) = some k) got))
    (_cs : ∀ V d, Bl w V → Sv V d got.1.d → Calls Tryd.prog 44 #[vQ got.1 d, .agg #[.int .i64 N, .int .i64 id, .int .i64 a, .int .i64 b, .int .i64 x0, .int .i64 y0, .int .i64 x1, .int .i64 y1, .string s, .slice A n c]] V (Rt V (.bool sm))) (hE : p.2 = 0) (hm : mb = false) :
    Calls Tryd.prog 13 #[.agg #[.int .i64 N, .int .i64 id, .int .i64 a, .int .i64 b, .int .i64 x0, .int .i64 y0, .int .i64 x1, .int .i64 y1, .string s, .slice A n c]] w (EncQ w (zM, 1)) := by
  clear _cs
  obtain ⟨pl, pe⟩ := p
  dsimp only at hE
  subst hE hm
  have X0 := (At.new w #[.int .i64 N, .int .i64 id, .int .i64 a, .int .i64 b, .int .i64 x0, .int .i64 y0, .int .i64 x1, .int .i64 y1, .string s, .slice A n c] 28).alloc (.cells #[.int .i64 0, .int .i64 0, .slice none 0 0] 24)
  have X1 := At.newAt (w := w.alloc (.cells #[.int .i64 N, .int .i64 id, .int .i64 a, .int .i64 b, .int .i64 x0, .int .i64 y0, .int .i64 x1, .int .i64 y1, .string s, .slice A n c] 28)) (n := w.heap.size + 1) (by simp) #[.int .i64 0, .int .i64 0, .slice none 0 0] 24
  have G0 : Bl w ((w.alloc (.cells #[.int .i64 N, .int .i64 id, .int .i64 a, .int .i64 b, .int .i64 x0, .int .i64 y0, .int .i64 x1, .int .i64 y1, .string s, .slice A n c] 28)).alloc (.cells #[.int .i64 0, .int .i64 0, .slice none 0 0] 24)) := ((Bl.refl w).alloc _).alloc _
  have hNm : IntKind.i64.wrap (N : Int) = N := IntWalk.i64_in _ (by omega)
  have q0 : ¬ (N : Int) < 0 := by omega
  have q18 : ¬ 18 < (N : Int) := by omega
  have q19 : (N : Int) < 19 := by omega
  have hsz : F.data.toList.length = F.size := rfl
  have hal := argL_len F.data.toList 0 ⟨N, id, a, b, x0, y0, x1, y1, s, L⟩
  obtain ⟨nf, hnf⟩ : ∃ nf, nf = F.size := ⟨_, rfl⟩
  have hsn : (F.size : Int) = nf := by rw [hnf]
  have hn2 : nf ≤ 2 := by omega
  have hlen : l.length = nf := by rw [hl, hal, hsz, hnf]
  replace hl := Lib.hid hl
  replace hnf := Lib.hid hnf
  replace hlen := Lib.hid hlen
  replace hmem := Lib.hid hmem
  replace hsv := Lib.hid hsv
  replace hsz := Lib.hid hsz
  replace hN1 := Lib.hid hN1
  clear hal hF
  go_enter Tryd.func13, Tryd.ntmps13
  go_wp2
  generalize ((w.alloc (.cells #[.int .i64 N, .int .i64 id, .int .i64 a, .int .i64 b, .int .i64 x0, .int .i64 y0, .int .i64 x1, .int .i64 y1, .string s, .slice A n c] 28)).alloc (.cells #[.int .i64 0, .int .i64 0, .slice none 0 0] 24)) = w0 at *
  have SK : ∀ V, Bl w0 V → V.cell? ⟨w.heap.size, 0, none⟩ = some (.int .i64 N) ∧ Bl w0 V := fun V g => ⟨((X0.bl g).cell 0).trans rfl, g⟩
  replace SK := Lib.hid SK
  refine wp_region_held_drew (S := fun V => V.cell? ⟨w.heap.size, 0, none⟩ = some (.int .i64 N) ∧ Bl w0 V) (by kernel_rfl) (SK.out _ (Bl.refl w0).drew) (fun hHeld => ?_)
  refine wpAnyH_take (i := 1) (v := ?_) rfl (by kernel_rfl) (by kernel_rfl) (by kernel_rfl) (fun _ _ _ h => h) (Or.inl ⟨by rfl, ?hy1⟩) (by assumption) ?rest1
  case hy1 => intro w' hSw; (try dsimp only at hSw); go_simp; (try with_reducible rfl)
  simp only [Act.put, List.setIfInBounds_toArray]
  refine wpAnyH_take (i := 2) (v := ?_) rfl (by kernel_rfl) (by kernel_rfl) (by kernel_rfl) (fun _ _ _ h => h) (Or.inl ⟨by rfl, ?hy2⟩) (by assumption) ?rest2
  case hy2 => intro w' hSw; (try dsimp only at hSw); go_simp; (try with_reducible rfl)
  simp only [Act.put]
  refine wpAnyH_ready (rs := [0]) (by kernel_rfl) (by simp) (AllReadyH.cons rfl (fun K9 hK9 => ?_) AllReadyH.nil)
  go_simp
  refine (cf _).mono ?_
  rintro e w1 ⟨rfl, hF8, g8⟩
  have hF9 : w1.cell? ⟨w0.heap.size, N, none⟩ = some (.string F) := hF8
  have G8 : Bl w0 w1 := (Bl.refl w0).drew.gr g8
  have hS1 := SK.out w1 G8
  dsimp only
  refine hK9.out _ _ (hS1) (fun _ => ?_)
  clear hK9 K9
  try simp only [Act.put]
  refine wpAnyH_take (i := 3) (v := ?_) rfl (by kernel_rfl) (by kernel_rfl) (by kernel_rfl) (fun _ _ _ h => h) (Or.inl ⟨by rfl, ?hy3⟩) (by assumption) ?rest3
  case hy3 => intro w' hSw; (try dsimp only at hSw); go_simp; (try with_reducible rfl)
  simp only [Act.put]
  refine wpAnyH_ready (rs := [4]) (by kernel_rfl) (by simp) (AllReadyH.cons rfl (fun K9 hK9 => ?_) AllReadyH.nil)
  go_simp
  refine hK9.out _ _ (hS1) (fun _ => ?_)
  clear hK9 K9
  try simp only [Act.put]
  refine wpAnyH_take (i := 5) (v := ?_) rfl (by kernel_rfl) (by kernel_rfl) (by kernel_rfl) (fun _ _ _ h => h) (Or.inl ⟨by rfl, ?hy5⟩) (by assumption) ?rest5
  case hy5 => intro w' hSw; (try dsimp only at hSw); go_simp; (try with_reducible rfl)
  simp only [Act.put, List.getElem_toArray, List.getElem_cons_succ, List.getElem_cons_zero]
  refine wpAnyH_done (by kernel_rfl) ?_ _
  have G1 := G0.trans G8
  have X02 := X0.bl G8
  have X12 := X1.bl G8
  clear hF8 hF9 g8 hHeld hS1 SK X0 X1 cf
  replace hsn := Lib.hid hsn
  go_wp2
  go_loopw [5, 6] (fun l5 i wr => ∃ k Al cl Y, k ≤ nf ∧ i = .int .i64 ((k : Nat) : Int) ∧ l5 = .slice Al (Y : List (Av × Value)).length cl ∧ OwV wr w1.heap.size Al cl Y ∧ Hid (∀ p ∈ Y, Sv w p.2 p.1.b) ∧ Hid (Y.map Prod.fst = l.take k) ∧ Bl w1 wr ∧ Y.length ≤ 2) (fun _ i _ => nf - (intOf i).toNat)
  case atStart => exact ⟨0, none, 0, [], Nat.zero_le _, rfl, rfl, OwV.nil _ _, Lib.hid (fun p hp => by simp at hp), Lib.hid rfl, Bl.refl _, by simp⟩
  case round =>
    obtain ⟨k, Al, cl, Y, hk, rfl, rfl, own, hYs, hYm, G, hx2⟩ := hrel
    have hsz0 := G.size
    have hxk : Y.length = k := by have := congrArg List.length hYm.out; rw [List.length_map, List.length_take, hlen.out] at this; omega
    by_cases hlt : k < nf
    · have q1 : (k : Int) < nf := by omega
      have q2 : (k : Int) < (F.size : Int) := by rw [hsn.out]; exact q1
      have q3 : k < F.size := by rw [← hnf.out]; exact hlt
      have q4 : (k : Int) < 2 := by omega
      have hc := letter_at F q3
      have hmm := hmem.out F[k] (List.mem_of_getElem? hc)
      have hget := argL_get F.data.toList 0 k ⟨N, id, a, b, x0, y0, x1, y1, s, L⟩ F[k] hc
      rw [← hl.out, Nat.zero_add] at hget
      have Y0 := X02.bl G
      have hlit : ∀ c : UInt8, F[k] = c → (F[k].toNat : Int) = c.toNat := fun c h => by rw [h]
      have hYn : ∀ c u, F[k] = c → (Y ++ [(argC c k ⟨N, id, a, b, x0, y0, x1, y1, s, L⟩, u)]).map Prod.fst = l.take (k + 1) := fun c u hcu => by
        rw [take_snoc1 hget, hcu, List.map_append, hYm.out]; rfl
      replace hxk := Lib.hid hxk
      replace hYn := Lib.hid hYn
      replace hget := Lib.hid hget
      replace hc := Lib.hid hc
      have y2 : wr.cell? ⟨w.heap.size, 2, none⟩ = some (.int .i64 a) := (Y0.cell 2).trans rfl
      have y3 : wr.cell? ⟨w.heap.size, 3, none⟩ = some (.int .i64 b) := (Y0.cell 3).trans rfl
      have y4 : wr.cell? ⟨w.heap.size, 4, none⟩ = some (.int .i64 x0) := (Y0.cell 4).trans rfl
      have y5 : wr.cell? ⟨w.heap.size, 5, none⟩ = some (.int .i64 y0) := (Y0.cell 5).trans rfl
      have y6 : wr.cell? ⟨w.heap.size, 6, none⟩ = some (.int .i64 x1) := (Y0.cell 6).trans rfl
      have y7 : wr.cell? ⟨w.heap.size, 7, none⟩ = some (.int .i64 y1) := (Y0.cell 7).trans rfl
      have y8 : wr.cell? ⟨w.heap.size, 8, none⟩ = some (.string s) := (Y0.cell 8).trans rfl
      have y9 : wr.cell? ⟨w.heap.size, 9, none⟩ = some (.slice A n c) := (Y0.cell 9).trans rfl
      rcases hmm with hmm | hmm | hmm | hmm | hmm
      · by_cases hk0 : k = 0
        · have q5 : ¬ 0 < (k : Int) := by omega
          have e0 := hlit 105 hmm
          simp only [UInt8.reduceToNat] at e0
          have hA1 : (Y ++ [(vI a, Value.slice none 0 0)]).map Prod.fst = l.take (k + 1) := by have := hYn.out 105 (Value.slice none 0 0) hmm; simpa [argC, hk0] using this
          replace hk0 := Lib.hid hk0
          replace hA1 := Lib.hid hA1
          replace hmm := Lib.hid hmm
          clear hlit
          have own1 := own.bl ((Bl.refl wr).alloc (.cells (c8 (vI a, Value.slice none 0 0)).toArray 88))
          go_wp2_with (at_builtin; refine wp_app_gen Tryd.underlying86 infoV rfl (by decide) (by decide) rfl (.tmp 44) (.tmp 47) rfl Al Y.length cl (cV Y) rfl w1.heap.size own1 (some ⟨wr.heap.size, 0, none⟩) 1 1 (c8 (vI a, Value.slice none 0 0)) rfl (by simp) (by rw [c8_len]) (News.at 1 (At.new wr _ _)) (c8_one ⟨_, _, _, rfl⟩) (by omega) (by simp; omega) ?_; intro A2 c2 w4 own2 by2 _; have G4 : Bl w1 w4 := app_bl by2 (G.alloc _) (ow_lies own1) (Nat.le_refl _))
          go_roundw
          case rel => exact ⟨k + 1, A2, c2, Y ++ [(vI a, Value.slice none 0 0)], by omega, by go_num, by simp, own_snoc own2, Lib.hid (fun p hp => by
            rcases List.mem_append.1 hp with hp | hp
            · exact hYs.out p hp
            · simp at hp; subst hp; exact Sv.nil _), hA1, G4, by have := hxk.out; simp; omega⟩
          case measure => simp [intOf]; omega
        · have q5 : 0 < (k : Int) := by omega
          have e0 := hlit 105 hmm
          simp only [UInt8.reduceToNat] at e0
          have hA1 : (Y ++ [(vI b, Value.slice none 0 0)]).map Prod.fst = l.take (k + 1) := by have := hYn.out 105 (Value.slice none 0 0) hmm; simpa [argC, hk0] using this
          replace hk0 := Lib.hid hk0
          replace hA1 := Lib.hid hA1
          replace hmm := Lib.hid hmm
          clear hlit
          have own1 := own.bl ((Bl.refl wr).alloc (.cells (c8 (vI b, Value.slice none 0 0)).toArray 88))
          go_wp2_with (at_builtin; refine wp_app_gen Tryd.underlying86 infoV rfl (by decide) (by decide) rfl (.tmp 44) (.tmp 47) rfl Al Y.length cl (cV Y) rfl w1.heap.size own1 (some ⟨wr.heap.size, 0, none⟩) 1 1 (c8 (vI b, Value.slice none 0 0)) rfl (by simp) (by rw [c8_len]) (News.at 1 (At.new wr _ _)) (c8_one ⟨_, _, _, rfl⟩) (by omega) (by simp; omega) ?_; intro A2 c2 w4 own2 by2 _; have G4 : Bl w1 w4 := app_bl by2 (G.alloc _) (ow_lies own1) (Nat.le_refl _))
          go_roundw
          case rel => exact ⟨k + 1, A2, c2, Y ++ [(vI b, Value.slice none 0 0)], by omega, by go_num, by simp, own_snoc own2, Lib.hid (fun p hp => by
            rcases List.mem_append.1 hp with hp | hp
            · exact hYs.out p hp
            · simp at hp; subst hp; exact Sv.nil _), hA1, G4, by have := hxk.out; simp; omega⟩
          case measure => simp [intOf]; omega
      · by_cases hk0 : k = 0
        · have q5 : ¬ 0 < (k : Int) := by omega
          have e0 := hlit 117 hmm
          simp only [UInt8.reduceToNat] at e0
          have hA1 : (Y ++ [(vI a, Value.slice none 0 0)]).map Prod.fst = l.take (k + 1) := by have := hYn.out 117 (Value.slice none 0 0) hmm; simpa [argC, hk0] using this
          replace hk0 := Lib.hid hk0
          replace hA1 := Lib.hid hA1
          replace hmm := Lib.hid hmm
          clear hlit
          have own1 := own.bl ((Bl.refl wr).alloc (.cells (c8 (vI a, Value.slice none 0 0)).toArray 88))
          go_wp2_with (at_builtin; refine wp_app_gen Tryd.underlying86 infoV rfl (by decide) (by decide) rfl (.tmp 44) (.tmp 47) rfl Al Y.length cl (cV Y) rfl w1.heap.size own1 (some ⟨wr.heap.size, 0, none⟩) 1 1 (c8 (vI a, Value.slice none 0 0)) rfl (by simp) (by rw [c8_len]) (News.at 1 (At.new wr _ _)) (c8_one ⟨_, _, _, rfl⟩) (by omega) (by simp; omega) ?_; intro A2 c2 w4 own2 by2 _; have G4 : Bl w1 w4 := app_bl by2 (G.alloc _) (ow_lies own1) (Nat.le_refl _))
          go_roundw
          case rel => exact ⟨k + 1, A2, c2, Y ++ [(vI a, Value.slice none 0 0)], by omega, by go_num, by simp, own_snoc own2, Lib.hid (fun p hp => by
            rcases List.mem_append.1 hp with hp | hp
            · exact hYs.out p hp
            · simp at hp; subst hp; exact Sv.nil _), hA1, G4, by have := hxk.out; simp; omega⟩
          case measure => simp [intOf]; omega
        · have q5 : 0 < (k : Int) := by omega
          have e0 := hlit 117 hmm
          simp only [UInt8.reduceToNat] at e0
          have hA1 : (Y ++ [(vI b, Value.slice none 0 0)]).map Prod.fst = l.take (k + 1) := by have := hYn.out 117 (Value.slice none 0 0) hmm; simpa [argC, hk0] using this
          replace hk0 := Lib.hid hk0
          replace hA1 := Lib.hid hA1
          replace hmm := Lib.hid hmm
          clear hlit
          have own1 := own.bl ((Bl.refl wr).alloc (.cells (c8 (vI b, Value.slice none 0 0)).toArray 88))
          go_wp2_with (at_builtin; refine wp_app_gen Tryd.underlying86 infoV rfl (by decide) (by decide) rfl (.tmp 44) (.tmp 47) rfl Al Y.length cl (cV Y) rfl w1.heap.size own1 (some ⟨wr.heap.size, 0, none⟩) 1 1 (c8 (vI b, Value.slice none 0 0)) rfl (by simp) (by rw [c8_len]) (News.at 1 (At.new wr _ _)) (c8_one ⟨_, _, _, rfl⟩) (by omega) (by simp; omega) ?_; intro A2 c2 w4 own2 by2 _; have G4 : Bl w1 w4 := app_bl by2 (G.alloc _) (ow_lies own1) (Nat.le_refl _))
          go_roundw
          case rel => exact ⟨k + 1, A2, c2, Y ++ [(vI b, Value.slice none 0 0)], by omega, by go_num, by simp, own_snoc own2, Lib.hid (fun p hp => by
            rcases List.mem_append.1 hp with hp | hp
            · exact hYs.out p hp
            · simp at hp; subst hp; exact Sv.nil _), hA1, G4, by have := hxk.out; simp; omega⟩
          case measure => simp [intOf]; omega
      · skip
        have e0 := hlit 115 hmm
        simp only [UInt8.reduceToNat] at e0
        have hA1 : (Y ++ [(vS s, Value.slice none 0 0)]).map Prod.fst = l.take (k + 1) := by have := hYn.out 115 (Value.slice none 0 0) hmm; exact this
        replace hA1 := Lib.hid hA1
        replace hmm := Lib.hid hmm
        clear hlit
        have own1 := own.bl ((Bl.refl wr).alloc (.cells (c8 (vS s, Value.slice none 0 0)).toArray 88))
        go_wp2_with (at_builtin; refine wp_app_gen Tryd.underlying86 infoV rfl (by decide) (by decide) rfl (.tmp 51) (.tmp 55) rfl Al Y.length cl (cV Y) rfl w1.heap.size own1 (some ⟨wr.heap.size, 0, none⟩) 1 1 (c8 (vS s, Value.slice none 0 0)) rfl (by simp) (by rw [c8_len]) (News.at 1 (At.new wr _ _)) (c8_one ⟨_, _, _, rfl⟩) (by omega) (by simp; omega) ?_; intro A2 c2 w4 own2 by2 _; have G4 : Bl w1 w4 := app_bl by2 (G.alloc _) (ow_lies own1) (Nat.le_refl _))
        go_roundw
        case rel => exact ⟨k + 1, A2, c2, Y ++ [(vS s, Value.slice none 0 0)], by omega, by go_num, by simp, own_snoc own2, Lib.hid (fun p hp => by
          rcases List.mem_append.1 hp with hp | hp
          · exact hYs.out p hp
          · simp at hp; subst hp; exact Sv.nil _), hA1, G4, by have := hxk.out; simp; omega⟩
        case measure => simp [intOf]; omega
      · skip
        have e0 := hlit 114 hmm
        simp only [UInt8.reduceToNat] at e0
        have hA1 : (Y ++ [(vR x0 y0 x1 y1, Value.slice none 0 0)]).map Prod.fst = l.take (k + 1) := by have := hYn.out 114 (Value.slice none 0 0) hmm; exact this
        replace hA1 := Lib.hid hA1
        replace hmm := Lib.hid hmm
        clear hlit
        have own1 := own.bl ((Bl.refl wr).alloc (.cells (c8 (vR x0 y0 x1 y1, Value.slice none 0 0)).toArray 88))
        go_wp2_with (at_builtin; refine wp_app_gen Tryd.underlying86 infoV rfl (by decide) (by decide) rfl (.tmp 59) (.tmp 63) rfl Al Y.length cl (cV Y) rfl w1.heap.size own1 (some ⟨wr.heap.size, 0, none⟩) 1 1 (c8 (vR x0 y0 x1 y1, Value.slice none 0 0)) rfl (by simp) (by rw [c8_len]) (News.at 1 (At.new wr _ _)) (c8_one ⟨_, _, _, rfl⟩) (by omega) (by simp; omega) ?_; intro A2 c2 w4 own2 by2 _; have G4 : Bl w1 w4 := app_bl by2 (G.alloc _) (ow_lies own1) (Nat.le_refl _))
        go_roundw
        case rel => exact ⟨k + 1, A2, c2, Y ++ [(vR x0 y0 x1 y1, Value.slice none 0 0)], by omega, by go_num, by simp, own_snoc own2, Lib.hid (fun p hp => by
          rcases List.mem_append.1 hp with hp | hp
          · exact hYs.out p hp
          · simp at hp; subst hp; exact Sv.nil _), hA1, G4, by have := hxk.out; simp; omega⟩
        case measure => simp [intOf]; omega
      · skip
        have e0 := hlit 98 hmm
        simp only [UInt8.reduceToNat] at e0
        have hA1 : (Y ++ [(vB L, Value.slice A n c)]).map Prod.fst = l.take (k + 1) := by have := hYn.out 98 (Value.slice A n c) hmm; exact this
        replace hA1 := Lib.hid hA1
        replace hmm := Lib.hid hmm
        clear hlit
        have own1 := own.bl ((Bl.refl wr).alloc (.cells (c8 (vB L, Value.slice A n c)).toArray 88))
        go_wp2_with (at_builtin; refine wp_app_gen Tryd.underlying86 infoV rfl (by decide) (by decide) rfl (.tmp 67) (.tmp 71) rfl Al Y.length cl (cV Y) rfl w1.heap.size own1 (some ⟨wr.heap.size, 0, none⟩) 1 1 (c8 (vB L, Value.slice A n c)) rfl (by simp) (by rw [c8_len]) (News.at 1 (At.new wr _ _)) (c8_one ⟨_, _, _, rfl⟩) (by omega) (by simp; omega) ?_; intro A2 c2 w4 own2 by2 _; have G4 : Bl w1 w4 := app_bl by2 (G.alloc _) (ow_lies own1) (Nat.le_refl _))
        go_roundw
        case rel => exact ⟨k + 1, A2, c2, Y ++ [(vB L, Value.slice A n c)], by omega, by go_num, by simp, own_snoc own2, Lib.hid (fun p hp => by
          rcases List.mem_append.1 hp with hp | hp
          · exact hYs.out p hp
          · simp at hp; subst hp; exact hsv.out), hA1, G4, by have := hxk.out; simp; omega⟩
        case measure => simp [intOf]; omega
    · have q1 : ¬ (k : Int) < nf := by omega
      have q2 : ¬ (k : Int) < (F.size : Int) := by rw [hsn.out]; exact q1
      have hkn : k = nf := by omega
      have hfin : Y.map Prod.fst = l := by rw [hYm.out]; exact List.take_of_length_le (by rw [hlen.out]; omega)
      have GG := G1.trans G
      have hVv := own.vv fun p hp => (hYs.out p hp).bl GG
      have cp1 := cp Al cl Y wr hfin hVv
      have Z0 := X02.bl G
      have Z1 := X12.bl G
      replace hkn := Lib.hid hkn
      replace hxk := Lib.hid hxk
      replace hfin := Lib.hid hfin
      clear cp hVv own hYs X02 X12
      go_wp2_with fail
      refine cp1.mono ?_
      rintro e w2 ⟨A9, c9, rfl, hsv9, g9⟩
      have G3 := GG.trans g9
      have X03 := Z0.bl g9
      have X13 := Z1.bl g9
      clear cp1 Z0 Z1 GG
      have L0 := X03.lt
      have L1 := X13.lt
      have a0 : w2.cell? ⟨w.heap.size, 0, none⟩ = some (.int .i64 N) := (X03.cell 0).trans rfl
      have a1 : w2.cell? ⟨w.heap.size, 1, none⟩ = some (.int .i64 id) := (X03.cell 1).trans rfl
      obtain ⟨pn, hpn⟩ : ∃ pn, pn = pl.length := ⟨_, rfl⟩
      have hfar := far_msg X13 hsv9
      rw [← hpn] at hfar
      replace hfar := Lib.hid hfar
      have cm1 := fun V => cm A9 c9 V
      have cd1 := fun V => cd A9 c9 V
      clear cm cd
      rw [← hpn] at cm1 cd1 hsv9 ⊢
      have X04 := X03.alloc (.cells #[.int .i64 N, .int .i64 id, .slice A9 pn c9] 24)
      have X14 := X13.alloc (.cells #[.int .i64 N, .int .i64 id, .slice A9 pn c9] 24)
      have X34 := At.new w2 #[.int .i64 N, .int .i64 id, .slice A9 pn c9] 24
      have G4 := G3.alloc (.cells #[.int .i64 N, .int .i64 id, .slice A9 pn c9] 24)
      have hsv10 := hsv9.bl ((Bl.refl w2).alloc (.cells #[.int .i64 N, .int .i64 id, .slice A9 pn c9] 24))
      replace hsv10 := Lib.hid hsv10
      replace hpn := Lib.hid hpn
      replace cd1 := Lib.hid cd1
      go_wp2_with fail
      refine (cm1 _).mono ?_
      rintro e w3 ⟨rfl, g3⟩
      have X05 := X04.gr g3
      have X15 := X14.gr g3
      have X35 := X34.gr g3
      have G5 := G4.gr g3
      have hsv11 := hsv10.out.bl g3.bl
      replace hsv11 := Lib.hid hsv11
      have L3 := X35.lt
      clear a0 a1 X03 X13 X04 X14 X34 G4 G3 hsv10 hsv9 cm1
      have k0 : (w3).cell? ⟨w.heap.size + 1, 0, none⟩ = some (.int .i64 0) := (X15.cell 0).trans rfl
      have f0 : (w3).frozen? ⟨w.heap.size + 1, 0, none⟩ = false := X15.free 0
      have k1 : (w3).cell? ⟨w.heap.size + 1, 1, none⟩ = some (.int .i64 0) := (X15.cell 1).trans rfl
      have f1 : (w3).frozen? ⟨w.heap.size + 1, 1, none⟩ = false := X15.free 1
      have k2 : (w3).cell? ⟨w.heap.size + 1, 2, none⟩ = some (.slice none 0 0) := (X15.cell 2).trans rfl
      have f2 : (w3).frozen? ⟨w.heap.size + 1, 2, none⟩ = false := X15.free 2
      go_wp2
      clear k0 f0 k1 f1 k2 f2
      have Y := put3_at X15 (.int .i64 0) (.int .i64 0) (.slice none 0 0)
      have GY := put3_bl (b := w.heap.size + 1) G5 (by omega) (.int .i64 0) (.int .i64 0) (.slice none 0 0)
      generalize (((w3.setCell ⟨w.heap.size + 1, 0, none⟩ (.int .i64 0)).setCell ⟨w.heap.size + 1, 1, none⟩ (.int .i64 0)).setCell ⟨w.heap.size + 1, 2, none⟩ (.slice none 0 0)) = VV at *
      have d0 : VV.cell? ⟨w.heap.size + 1, 0, none⟩ = some (.int .i64 0) := (Y.cell 0).trans rfl
      have d1 : VV.cell? ⟨w.heap.size + 1, 1, none⟩ = some (.int .i64 0) := (Y.cell 1).trans rfl
      have d2 : VV.cell? ⟨w.heap.size + 1, 2, none⟩ = some (.slice none 0 0) := (Y.cell 2).trans rfl
      exact bodyPost_ret (v := .tuple #[.agg #[.int .i64 0, .int .i64 0, .slice none 0 0], .int .i64 1]) (by simp [results, Tryd.results13, go_sem, d0, d1, d2]) rfl ⟨.slice none 0 0, rfl, Sv.nil _, GY⟩

end Go.Proofs.YthkbenhlhldglaaDoor
