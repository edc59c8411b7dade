/-
  What is proved: the walk of the statement ArgsSizes. No conditions.
-/
import Derived.Test.YtaebbkfbapajkaaDoorUx
namespace Go.Proofs.YtaebbkfbapajkaaDoor
open Go.RowKit Go.Sort
attribute [local go_sem ↓] run_min2 run_max2

/-- No letter has arguments of more sizes than one. -/
def fixB (l : List UInt8) : Bool := l.all fun c => c != 115 && c != 98
theorem fixB_snoc (l : List UInt8) (c : UInt8) : fixB (l ++ [c]) = (fixB l && (c != 115 && c != 98)) := by unfold fixB; simp
theorem szA_fix : ∀ (f : List UInt8) (n : Nat), (∀ c ∈ f, c = 105 ∨ c = 117 ∨ c = 115 ∨ c = 114 ∨ c = 98) → (szA n f).isSome = fixB f
  | [], n, _ => rfl
  | c :: f, n, h => by
    have hc := h c (by simp)
    have hf := fun m => szA_fix f m fun d hd => h d (by simp [hd])
    unfold szA
    unfold fixB at hf ⊢
    rw [List.all_cons]
    rcases hc with rfl | rfl | rfl | rfl | rfl
    · show (szA (n + 4) f).isSome = _; rw [hf]; rfl
    · show (szA (n + 4) f).isSome = _; rw [hf]; rfl
    · rfl
    · show (szA (n + 16) f).isSome = _; rw [hf]; rfl
    · rfl

set_option maxRecDepth 100000 in
set_option maxHeartbeats 16000000 in
theorem sizes_core (s0 : ByteArray) (hs0 : s0.size ≤ maxLen) (A1 : Option Addr) (c1 : Nat) (X1 : List (Av × Value)) (w : World) (hX1 : Vv w A1 X1) (hl1 : X1.length ≤ maxLen) :
    Calls Tryd.prog 6 #[.string s0, .slice A1 X1.length c1] w fun e w' => e = .returned (.bool true) ∧ Bl w w' := by
  have hsm : (s0.size : Int) ≤ 9223372036854775807 := by unfold maxLen at hs0; omega
  have cf := fun V (g : Bl w V) => fewV1 A1 c1 X1 V (hX1.bl g) hl1
  have hfl : (fewL (X1.map Prod.fst)).length ≤ 10 := by unfold fewL; rw [List.length_map, List.length_take]; omega
  generalize fewL (X1.map Prod.fst) = F1 at *
  generalize X1.length = n1 at *
  replace hfl := Lib.hid hfl
  replace cf := Lib.hid cf
  clear hX1 hl1
  go_enter Tryd.func6, Tryd.ntmps6
  go_upto_if 16 with fail
  go_cut [0] (fun o wx => ∃ F : ByteArray, o = .string F ∧ F.size ≤ 12 ∧ wx = w)
  case first =>
    by_cases h : (12 : Int) < s0.size
    · go_wp2
      go_meet
      exact ⟨_, rfl, by rw [ByteArray.size_extract]; omega, rfl⟩
    · go_wp2
      go_meet
      exact ⟨s0, rfl, by omega, rfl⟩
  case rest =>
    obtain ⟨F, rfl, hF, rfl⟩ := hcut
    have cl := letters1 F wc (by unfold maxLen; omega)
    go_wp2_with fail
    refine cl.mono ?_
    rintro e w3 ⟨T, rfl, hT, g3⟩
    clear cl
    have hTl : T.data.toList.length ≤ 8 := by rw [hT, lets_len, List.length_take]; omega
    have hTs : T.size ≤ 8 := hTl
    have hTf : formR T.data.toList = true := by rw [hT]; exact lets_form _
    have hTB : formB T.data.toList = true := by unfold formB; rw [hTf]; simpa using hTl
    have hTm := formR_mem _ hTf
    have cs := size1 T w3 (by omega)
    have cs2 := fun V => size1 F V (by omega)
    have cfm := fun V => rform1 F V (by omega)
    have hfix := szA_fix T.data.toList 0 hTm
    have hsz : szR T.data.toList = (match szA 0 T.data.toList with | some n => ((n : Int), true) | none => (0, false)) := by
      unfold szR
      rw [if_pos hTB]
      cases szA 0 T.data.toList <;> rfl
    have hsF : formB F.data.toList = false → szR F.data.toList = (0, false) := fun h => by unfold szR; rw [if_neg (by rw [h]; simp)]
    obtain ⟨Z, hZ⟩ : ∃ Z, Z = szA 0 T.data.toList := ⟨_, rfl⟩
    obtain ⟨fb, hfb⟩ : ∃ b, b = fixB T.data.toList := ⟨_, rfl⟩
    rw [← hZ] at hfix hsz
    rw [← hfb] at hfix
    obtain ⟨RF, hRF⟩ : ∃ R, R = szR F.data.toList := ⟨_, rfl⟩
    rw [← hRF] at cs2 hsF
    obtain ⟨RF1, RF2⟩ := RF
    dsimp only at cs2 hsF
    generalize formB F.data.toList = fF at *
    generalize hR : szR T.data.toList = R at *
    obtain ⟨R1, R2⟩ := R
    dsimp only at cs
    replace hT := Lib.hid hT
    replace hTl := Lib.hid hTl
    replace hTf := Lib.hid hTf
    replace hTB := Lib.hid hTB
    replace hTm := Lib.hid hTm
    replace hfix := Lib.hid hfix
    replace hsz := Lib.hid hsz
    replace hsF := Lib.hid hsF
    replace hZ := Lib.hid hZ
    replace hfb := Lib.hid hfb
    replace hR := Lib.hid hR
    clear hRF
    replace cs2 := Lib.hid cs2
    replace cfm := Lib.hid cfm
    go_wp2_with fail
    refine cs.mono ?_
    rintro e w4 ⟨rfl, g4⟩
    clear cs
    have G4 : Bl wc w4 := g3.trans g4
    go_wp2_with fail
    refine (cf.out _ G4).mono ?_
    rintro e w5 ⟨A5, c5, X5, rfl, hX5, own5, hsv5, g5⟩
    have hn5 : X5.length ≤ 10 := by have := congrArg List.length hX5; rw [List.length_map] at this; have := hfl.out; omega
    have hv5 := own5.vv fun p hp => (hsv5 p hp).bl g5
    have cg := goodG T A5 c5 X5 w5 hv5 (by omega) (by omega) hTm.out
    have hok := goodL_ok T.data.toList (X5.map Prod.fst) hTm.out
    have hgl : (goodL T.data.toList (X5.map Prod.fst)).length = T.data.toList.length := goodL_len _ _
    obtain ⟨bs, hbs, hbl, _⟩ := round T.data.toList (goodL T.data.toList (X5.map Prod.fst)) [] hTf.out hok
    have hlen := fun n (h : szA 0 T.data.toList = some n) => sizes T.data.toList _ bs n hok hbs h
    rw [← hZ.out] at hlen
    have hpk : pkR T.data.toList (goodL T.data.toList (X5.map Prod.fst)) = (bs, 0) := by
      unfold pkR
      rw [if_pos ⟨hTB.out, hgl⟩, hbs]
      rw [show pkE (some bs) = if 4096 < bs.length then ([], 7) else (bs, 0) from rfl, if_neg (by have := hTl.out; omega)]
    have hgl8 : (goodL T.data.toList (X5.map Prod.fst)).length ≤ 8 := by rw [hgl]; exact hTl.out
    generalize goodL T.data.toList (X5.map Prod.fst) = F2 at *
    clear hok hbs hgl hX5 own5 hsv5
    obtain ⟨n5, hn5e⟩ : ∃ n, n = X5.length := ⟨_, rfl⟩
    rw [← hn5e] at cg ⊢
    replace hn5e := Lib.hid hn5e
    replace hpk := Lib.hid hpk
    replace hlen := Lib.hid hlen
    replace cg := Lib.hid cg
    go_wp2_with fail
    refine cg.out.mono ?_
    rintro e w6 ⟨A6, c6, X6, rfl, hX6, own6, hsv6, g6⟩
    have hn6 : X6.length ≤ 10 := by have := congrArg List.length hX6; rw [List.length_map] at this; omega
    have cp := rpack1 T A6 c6 X6 w6 (by omega) (by omega) (own6.vv fun p hp => (hsv6 p hp).bl g6)
    rw [hX6, hpk.out] at cp
    have G6 : Bl wc w6 := G4.trans (g5.trans g6)
    clear cg hX6 own6 hsv6 hv5
    unfold PackQ at cp
    dsimp only at cp
    generalize X6.length = n6 at *
    go_wp2_with fail
    refine cp.mono ?_
    rintro e w7 ⟨A7, c7, rfl, _, g7⟩
    have G7 := G6.trans g7
    clear cp
    obtain ⟨m, hm⟩ : ∃ m, m = T.size := ⟨_, rfl⟩
    have hmi : (T.size : Int) = m := by rw [hm]
    have hm8 : m ≤ 8 := by omega
    replace hm := Lib.hid hm
    go_wp2
    replace hmi := Lib.hid hmi
    go_loopw [10, 11] (fun o i wr => ∃ k : Nat, k ≤ m ∧ i = .int .i64 ((k : Nat) : Int) ∧ o = .bool (fixB (T.data.toList.take k)) ∧ Bl w7 wr) (fun _ i _ => m - (intOf i).toNat)
    case atStart => exact ⟨0, Nat.zero_le _, rfl, by rw [List.take_zero]; rfl, Bl.refl _⟩
    case round =>
      obtain ⟨k, hk, rfl, rfl, H⟩ := hrel
      by_cases hlt : k < m
      · have q1 : (k : Int) < (T.size : Int) := by rw [hmi.out]; omega
        have q2 : k < T.data.toList.length := by rw [show T.data.toList.length = T.size from rfl, ← hm.out]; exact hlt
        have q3 : k < T.size := by rw [← hm.out]; exact hlt
        have hc := letter_at T q3
        have hx := take_snoc hc
        have hfx := fixB_snoc (T.data.toList.take k) T[k]
        rw [← hx] at hfx
        clear hx hc
        have hb8 : (T[k].toNat : Int) < 256 := by have := T[k].toNat_lt; omega
        have e1 : ((T[k].toNat : Int) != 115) = (T[k] != 115) := by
          rw [Bool.eq_iff_iff, bne_iff_ne, bne_iff_ne]
          exact not_congr ⟨fun h => UInt8.toNat_inj.1 (by simp; omega), fun h => by rw [h]; rfl⟩
        have e2 : ((T[k].toNat : Int) != 98) = (T[k] != 98) := by
          rw [Bool.eq_iff_iff, bne_iff_ne, bne_iff_ne]
          exact not_congr ⟨fun h => UInt8.toNat_inj.1 (by simp; omega), fun h => by rw [h]; rfl⟩
        generalize (T[k] != 115) = u1 at *
        generalize (T[k] != 98) = u2 at *
        generalize fixB (T.data.toList.take k) = fk at *
        have hfx : fixB (T.data.toList.take (k + 1)) = (fk && (u1 && u2)) := hfx
        replace hfx := Lib.hid hfx
        replace hmi := Lib.hid hmi.out
        cases fk with
        | false =>
          clear e1 e2
          go_wp2
          go_roundw
          case rel => exact ⟨k + 1, by omega, by go_num, by rw [hfx.out]; rfl, H⟩
          case measure => simp [intOf]; omega
        | true =>
          cases u1 with
          | false =>
            clear e2
            go_wp2
            go_roundw
            case rel => exact ⟨k + 1, by omega, by go_num, by rw [hfx.out]; rfl, H⟩
            case measure => simp [intOf]; omega
          | true =>
            cases u2 with
            | false =>
              go_wp2
              go_roundw
              case rel => exact ⟨k + 1, by omega, by go_num, by rw [hfx.out]; rfl, H⟩
              case measure => simp [intOf]; omega
            | true =>
              go_wp2
              go_roundw
              case rel => exact ⟨k + 1, by omega, by go_num, by rw [hfx.out]; rfl, H⟩
              case measure => simp [intOf]; omega
      · have q1 : ¬ (k : Int) < (T.size : Int) := by rw [hmi.out]; omega
        have hkm : T.data.toList.take k = T.data.toList := List.take_of_length_le (by rw [show T.data.toList.length = T.size from rfl, ← hm.out]; omega)
        rw [hkm, ← hfb.out]
        have G8 := G7.trans H
        go_wp2_with fail
        refine (cs2.out _).mono ?_
        rintro e w9 ⟨rfl, g9⟩
        have cfm := cfm.out w9
        have cl := fun V => livesA V
        have sz := hsz.out
        cases fF with
        | false =>
          have hsF := hsF.out rfl
          obtain ⟨rfl, rfl⟩ := Prod.mk.inj hsF
          clear hsF
          go_wp2_with fail
          refine cfm.mono ?_
          rintro e w10 ⟨rfl, g10⟩
          have G10 := (G8.trans g9).trans g10
          cases Z with
          | none =>
            have hf0 : false = fb := hfix.out
            obtain ⟨rfl, rfl⟩ := Prod.mk.inj sz
            subst hf0
            go_wp2_with fail
            refine (cl _).mono ?_
            rintro e w11 ⟨rfl, g11⟩
            go_wp2
            go_ret
            exact ⟨rfl, G10.trans g11⟩
          | some n =>
            have hf0 : true = fb := hfix.out
            obtain ⟨rfl, rfl⟩ := Prod.mk.inj sz
            subst hf0
            have hl := hlen.out n rfl
            rw [hl]
            go_wp2_with fail
            refine (cl _).mono ?_
            rintro e w11 ⟨rfl, g11⟩
            go_wp2
            go_ret
            exact ⟨rfl, G10.trans g11⟩
        | true =>
          go_wp2_with fail
          refine cfm.mono ?_
          rintro e w10 ⟨rfl, g10⟩
          have G10 := (G8.trans g9).trans g10
          cases Z with
          | none =>
            have hf0 : false = fb := hfix.out
            obtain ⟨rfl, rfl⟩ := Prod.mk.inj sz
            subst hf0
            go_wp2_with fail
            refine (cl _).mono ?_
            rintro e w11 ⟨rfl, g11⟩
            go_wp2
            go_ret
            exact ⟨rfl, G10.trans g11⟩
          | some n =>
            have hf0 : true = fb := hfix.out
            obtain ⟨rfl, rfl⟩ := Prod.mk.inj sz
            subst hf0
            have hl := hlen.out n rfl
            rw [hl]
            go_wp2_with fail
            refine (cl _).mono ?_
            rintro e w11 ⟨rfl, g11⟩
            go_wp2
            go_ret
            exact ⟨rfl, G10.trans g11⟩

end Go.Proofs.YtaebbkfbapajkaaDoor
