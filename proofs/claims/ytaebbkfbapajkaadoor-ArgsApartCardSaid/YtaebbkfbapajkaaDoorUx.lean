/-
  What is proved: the walk of the statement ArgsPack. No conditions.
-/
import Derived.Test.YtaebbkfbapajkaaDoorUv
import Derived.Test.YtaebbkfbapajkaaDoorUj
import Derived.Deep.RegionHeld3
import Derived.Lib.QuietBelow
import Derived.Deep.CutBlock
import Derived.Deep.DeepCutAuto
namespace Go.Proofs.YtaebbkfbapajkaaDoor
open Go.RowKit Go.Sort
attribute [local go_sem ↓] run_min2 run_max2

theorem lets_bd (t : List UInt8) (h : t.length ≤ 8) : formB (lets t) = true := by
  unfold formB; rw [lets_form, lets_len]; simpa using h
theorem three_at {α : Type} {P : α → Prop} {a b c : α} (ha : P a) (hb : P b) (hc : P c) (k : Nat) (hk : k < 3) : ∃ x, [a, b, c][k]? = some x ∧ P x := by
  match k, hk with
  | 0, _ => exact ⟨a, rfl, ha⟩
  | 1, _ => exact ⟨b, rfl, hb⟩
  | 2, _ => exact ⟨c, rfl, hc⟩
/-- What one round has: a text, a row of arguments. -/
structure PkRow (W : World) (bf bl k : Nat) (S : ByteArray) (A : Option Addr) (c : Nat) (X : List (Av × Value)) : Prop where
  f : W.cell? ⟨bf, k, none⟩ = some (.string S)
  l : W.cell? ⟨bl, k, none⟩ = some (.slice A X.length c)
  s : S.size ≤ 12
  v : Vv W A X
  n : X.length ≤ 10

set_option maxRecDepth 100000 in
set_option maxHeartbeats 16000000 in
theorem pack_core (s0 : ByteArray) (hs0 : s0.size ≤ maxLen) (A1 : Option Addr) (c1 : Nat) (X1 : List (Av × Value)) (w : World) (hX1 : Vv w A1 X1) (hl1 : X1.length ≤ maxLen) :
    Calls Tryd.prog 3 #[.string s0, .slice A1 X1.length c1] w fun e w' => e = .returned (.bool true) ∧ Bl w w' := by
  have hsm : (s0.size : Int) ≤ 9223372036854775807 := by unfold maxLen at hs0; omega
  have cf := fewV1 A1 c1 X1 w hX1 hl1
  have hfl : (fewL (X1.map Prod.fst)).length ≤ 10 := by unfold fewL; rw [List.length_map, List.length_take]; omega
  generalize fewL (X1.map Prod.fst) = F1 at *
  generalize X1.length = n1 at *
  replace hfl := Lib.hid hfl
  clear hX1 hl1
  go_enter Tryd.func3, Tryd.ntmps3
  go_upto_if 16 with fail
  go_cut [0] (fun o wx => ∃ F : ByteArray, o = .string F ∧ F.size ≤ 12 ∧ wx = w)
  case first =>
    by_cases h : (12 : Int) < s0.size
    · go_wp2
      go_meet
      exact ⟨_, rfl, by rw [ByteArray.size_extract]; omega, rfl⟩
    · go_wp2
      go_meet
      exact ⟨s0, rfl, by omega, rfl⟩
  case rest =>
    obtain ⟨F, rfl, hF, rfl⟩ := hcut
    go_wp2_with fail
    refine cf.mono ?_
    rintro e w2 ⟨A2, c2, X2, rfl, hX2, own2, hsv2, g2⟩
    have hn2 : X2.length ≤ 10 := by have := congrArg List.length hX2; rw [List.length_map] at this; have := hfl.out; omega
    have hv2 := own2.vv fun p hp => (hsv2 p hp).bl g2
    have cl := letters1 F w2 (by unfold maxLen; omega)
    clear cf
    obtain ⟨n2, hn2e⟩ : ∃ n, n = X2.length := ⟨_, rfl⟩
    rw [← hn2e]
    replace hn2e := Lib.hid hn2e
    replace hn2 := Lib.hid hn2
    go_wp2_with fail
    refine cl.mono ?_
    rintro e w3 ⟨T, rfl, hT, g3⟩
    clear cl
    have hTl : T.data.toList.length ≤ 8 := by rw [hT, lets_len, List.length_take]; omega
    have hTs : T.size ≤ 8 := hTl
    have hTf : formR T.data.toList = true := by rw [hT]; exact lets_form _
    have cg := goodG T A2 c2 X2 w3 (hv2.bl g3) (by have := hn2.out; omega) (by omega) (formR_mem _ hTf)
    have hgl : (goodL T.data.toList (X2.map Prod.fst)).length ≤ 8 := by rw [goodL_len]; exact hTl
    generalize goodL T.data.toList (X2.map Prod.fst) = F2 at *
    rw [← hn2e.out] at cg
    replace hT := Lib.hid hT
    replace hTf := Lib.hid hTf
    replace hTl := Lib.hid hTl
    replace cg := Lib.hid cg
    go_wp2_with fail
    refine cg.out.mono ?_
    rintro e w4 ⟨A4, c4, X4, rfl, hX4, own4, hsv4, g4⟩
    have hn4 : X4.length ≤ 10 := by have := congrArg List.length hX4; rw [List.length_map] at this; omega
    clear cg
    have hv4 := own4.vv fun p hp => (hsv4 p hp).bl g4
    have H4 : Bl w2 w4 := g3.trans g4
    have b5 := At.new w4 #[.string F, .string T, .string T] 9
    obtain ⟨w5, hw5⟩ : ∃ V, V = w4.alloc (.cells #[.string F, .string T, .string T] 9) := ⟨_, rfl⟩
    obtain ⟨p5, hp5⟩ : ∃ p, p = w4.heap.size := ⟨_, rfl⟩
    rw [← hw5, ← hp5] at b5
    have H5 : Bl w4 w5 := by rw [hw5]; exact (Bl.refl w4).alloc _
    have b6 := At.newAt (w := w5) (n := w4.heap.size + 1) (by rw [hw5]; simp) #[.slice A2 n2 c2, .slice A2 n2 c2, .slice A4 X4.length c4] 22
    obtain ⟨w6, hw6⟩ : ∃ V, V = w5.alloc (.cells #[.slice A2 n2 c2, .slice A2 n2 c2, .slice A4 X4.length c4] 22) := ⟨_, rfl⟩
    obtain ⟨p6, hp6⟩ : ∃ p, p = w4.heap.size + 1 := ⟨_, rfl⟩
    rw [← hw6, ← hp6] at b6
    have H6 : Bl w5 w6 := by rw [hw6]; exact (Bl.refl w5).alloc _
    have b5' := b5.bl H6
    have rows : ∀ k, k < 3 → ∃ S A c X, PkRow w6 p5 p6 k S A c X := by
      intro k hk
      have v2 := hv2.bl (H4.trans (H5.trans H6))
      have v4 := hv4.bl (H5.trans H6)
      have q2 : ∀ k, k < 3 → w6.cell? ⟨p6, k, none⟩ = _ := fun k _ => b6.cell k
      match k, hk with
      | 0, _ => exact ⟨F, A2, c2, X2, b5'.cell 0, by rw [← hn2e.out]; exact b6.cell 0, hF, v2, hn2.out⟩
      | 1, _ => exact ⟨T, A2, c2, X2, b5'.cell 1, by rw [← hn2e.out]; exact b6.cell 1, by omega, v2, hn2.out⟩
      | 2, _ => exact ⟨T, A4, c4, X4, b5'.cell 2, b6.cell 2, by omega, v4, hn4⟩
    have G6 : Bl wc w6 := g2.trans (H4.trans (H5.trans H6))
    replace hw5 := Lib.hid hw5
    replace hw6 := Lib.hid hw6
    replace hp5 := Lib.hid hp5
    replace hp6 := Lib.hid hp6
    replace rows := Lib.hid rows
    clear b5 b6 b5' hv2 hv4 own2 own4 hX2 hX4 hsv2 hsv4
    go_wp2
    rw [← hw5.out, ← hw6.out, ← hp6.out, ← hp5.out]
    go_loopw [9] (fun i wr => ∃ k : Nat, k ≤ 3 ∧ i = .int .i64 ((k : Nat) : Int) ∧ Bl w6 wr) (fun i _ => 3 - (intOf i).toNat)
    case atStart => exact ⟨0, Nat.zero_le _, rfl, Bl.refl _⟩
    case round =>
      obtain ⟨k, hk, rfl, H⟩ := hrel
      by_cases hlt : k < 3
      · have q1 : (k : Int) < 3 := by omega
        obtain ⟨S, A, c, X, hr⟩ := rows.out k hlt
        obtain ⟨rf, rl, hS, hv, hn⟩ := hr
        have cal := fun V (g : Bl wr V) => all1 A c X V (hv.bl (H.trans g)) (by omega)
        have cre := fun V (g : Bl wr V) => rpack1 S A c X V (by omega) (by omega) (hv.bl (H.trans g))
        have cap := fun A' c' xs V (hY : Yv V A' xs) (ha : AllA V xs (X.map Prod.fst)) => apack1 S A' c' xs (X.map Prod.fst) V (by omega) (by rw [List.length_map]; omega) hY ha
        have cfa := fun V => aform1 S V (by omega)
        have cfr := fun V => rform1 S V (by omega)
        generalize pkR S.data.toList (X.map Prod.fst) = R at *
        generalize X.map Prod.fst = XA at *
        generalize formB S.data.toList = fb at *
        obtain ⟨RL, RE⟩ := R
        unfold PackQ at cap cre
        dsimp only at cap cre
        generalize X.length = n at *
        have rf' := H.keep rf
        have rl' := H.keep rl
        replace cal := Lib.hid cal
        replace cre := Lib.hid cre
        replace cap := Lib.hid cap
        replace cfa := Lib.hid cfa
        replace cfr := Lib.hid cfr
        have SK : ∀ V, Bl wr V → V.cell? ⟨p5, k, none⟩ = some (.string S) ∧ V.cell? ⟨p6, k, none⟩ = some (.slice A n c) ∧ Bl wr V := fun V g => ⟨g.keep rf', g.keep rl', g⟩
        replace SK := Lib.hid SK
        clear rf rl hv hn hS
        go_wp2
        go_region_held3 (fun V => V.cell? ⟨p5, k, none⟩ = some (.string S) ∧ V.cell? ⟨p6, k, none⟩ = some (.slice A n c) ∧ Bl wr V) ((refine SK.out _ ?_; repeat (first | with_reducible assumption | with_reducible exact Bl.refl _ | with_reducible exact G8 | with_reducible exact G7 | with_reducible apply Bl.drew))) ((first | (go_at_call 13; (refine (cal.out _ (by first | with_reducible exact Bl.refl _ | with_reducible exact (Bl.refl _).drew)).mono ?_); rintro e V7 ⟨A7, c7, xs7, rfl, hy7, ha7, g7⟩; have G7 : Bl wr V7 := (Bl.refl wr).drew.trans g7) | (go_at_call 12; (refine (cap.out _ _ _ _ hy7 ha7).mono ?_); rintro e V8 ⟨A8, c8, rfl, hs8, g8⟩; have G8 : Bl wr V8 := G7.trans g8) | fail))
        have SK8 : ∀ V, Bl V8 V → V.cell? ⟨p5, k, none⟩ = some (.string S) ∧ V.cell? ⟨p6, k, none⟩ = some (.slice A n c) ∧ Bl V8 V := fun V g => ⟨(G8.trans g).keep rf', (G8.trans g).keep rl', g⟩
        replace SK8 := Lib.hid SK8
        replace hs8 := Lib.hid hs8
        have cre8 := Lib.hid fun V (g : Bl V8 V) => cre.out V (G8.trans g)
        clear hy7 ha7 g7 g8 cal cap
        go_wp2
        go_region_held3 (fun V => V.cell? ⟨p5, k, none⟩ = some (.string S) ∧ V.cell? ⟨p6, k, none⟩ = some (.slice A n c) ∧ Bl V8 V) ((refine SK8.out _ ?_; repeat (first | with_reducible assumption | with_reducible exact Bl.refl _ | with_reducible exact G9 | with_reducible apply Bl.drew))) ((first | (go_at_call 14; (refine (cre8.out _ (by first | with_reducible exact Bl.refl _ | with_reducible exact (Bl.refl _).drew)).mono ?_); rintro e V9 ⟨A9, c9, rfl, hs9, g9⟩; have G9 : Bl V8 V9 := (Bl.refl V8).drew.trans g9) | fail))
        have T8 : ∀ d os, (convert 28 9 (.slice A8 RL.length c8)).run Tryd.prog (grow (redrawn V9 d) os) = .ok (.string (strOfNums RL)) (grow (redrawn V9 d) os) := fun d os => by
          obtain ⟨A', c', h1, _, _, _, h2⟩ := hs8.out
          injection h1 with e1 e2 e3
          subst e1 e3
          exact Sv.text (h2.bl (G9.trans (below_regrown V9 d os)))
        have T9 : ∀ d os, (convert 28 9 (.slice A9 RL.length c9)).run Tryd.prog (grow (redrawn V9 d) os) = .ok (.string (strOfNums RL)) (grow (redrawn V9 d) os) := fun d os => by
          obtain ⟨A', c', h1, _, _, _, h2⟩ := hs9
          injection h1 with e1 e2 e3
          subst e1 e3
          exact Sv.text (h2.bl (below_regrown V9 d os))
        generalize strOfNums RL = TT at *
        have GV : Bl wr V9 := G8.trans G9
        have Y0 := cell_regrown (GV.keep rf')
        have Y1 := cell_regrown (GV.keep rl')
        have c1 : ∀ d os, Calls Tryd.prog 15 #[.string S] (grow (redrawn V9 d) os) fun e w'' => e = .returned (.bool fb) ∧ ∃ p : Regrown, w'' = grow (redrawn V9 p.d) p.os := fun d os => Calls.regrown_of (cfa.out _)
        have c2 : ∀ d os, Calls Tryd.prog 16 #[.string S] (grow (redrawn V9 d) os) fun e w'' => e = .returned (.bool fb) ∧ ∃ p : Regrown, w'' = grow (redrawn V9 p.d) p.os := fun d os => Calls.regrown_of (cfr.out _)
        clear SK SK8 cre cre8 hs8 hs9 g9 cfa cfr rf' rl'
        go_wp2
        refine wp_region_quiet_below (by kernel_rfl) (by kernel_rfl) ?_
        repeat (first | quiet_step (first | exact c1 _ _ | exact c2 _ _) | go_big_quiet_step (first | exact c1 _ _ | exact c2 _ _))
        refine wpQuiet_nil ?_
        intro _ hw'
        obtain ⟨⟨dq, osq⟩, hw''⟩ := hw'
        subst hw''
        go_wp2
        go_roundw
        case rel => exact ⟨k + 1, by omega, by go_num, H.trans (GV.trans (below_regrown V9 dq osq))⟩
        case measure => simp [intOf]; omega
      · have q1 : ¬ (k : Int) < 3 := by omega
        have cl := fun V => livesA V
        go_wp2_with fail
        refine (cl _).mono ?_
        rintro e w9 ⟨rfl, g9⟩
        go_wp2
        go_ret
        exact ⟨rfl, (G6.trans H).trans g9⟩

end Go.Proofs.YtaebbkfbapajkaaDoor
