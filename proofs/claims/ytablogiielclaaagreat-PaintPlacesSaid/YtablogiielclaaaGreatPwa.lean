/-
  What is proved: the loop of the statement PaintPlaces, and what stands behind it, as a theorem over the code. Conditions: the two images lie, and Place's region tells where they differ.
-/
import Derived.Test.YtablogiielclaaaGreatZz17
import Derived.Test.YtablogiielclaaaGreatZz16
import Derived.Test.YtablogiielclaaaGreatZz13
import Derived.Great.BuildSlice
namespace Go.Proofs.YtablogiielclaaaGreat
open Go.RowKit Go.Sort Go.Deep

theorem pw_meas {k : Nat} (h : k < 256) : 256 - (((k + 1 : Nat) : Int)).toNat < 256 - ((k : Nat) : Int).toNat := by omega
theorem pw_step {k : Nat} (h : k < 256) : (k : Int) < 256 ∧ wrap64 ((k : Int) + 1) = (k : Int) + 1 ∧ IntKind.i64.wrap ((k : Int) + 1) = (k : Int) + 1 := ⟨by omega, by unfold wrap64; omega, IntWalk.i64_in _ (by omega)⟩
noncomputable def rest16 : Code := ((Tryz.f13.body.bind (behindC 16)).getD .skip)
set_option maxRecDepth 1000000 in
set_option maxHeartbeats 8000000 in
theorem pplaces_loop (w v16 : World) (AP : Option Addr) (nP kP pm cm po co : Nat) (XM XO : List Int) (RP : List Rc) (I16 : ImgX v16 pm cm 16 16 XM []) (O16 : ImgX v16 po co 16 16 XO []) (Gw16 : Bl w v16)
    (cH : ∀ (V : World) (x y : Int), Bl v16 V → Calls Tryz.prog 20 #[.slice AP nP kP, .int .i64 x, .int .i64 y] V (Rt V (.bool (hasL RP x y))))
    (hAp : Hid (∀ k : Nat, k < 256 → atV 16 16 XM (k % 16 : Nat) (k / 16 : Nat) ≠ atV 16 16 XO (k % 16 : Nat) (k / 16 : Nat) → hasL RP (k % 16 : Nat) (k / 16 : Nat) = true))
    (y0 y1 y2 y3 y4 y5 y6 y7 y8 y9 y13 y14 y15 y16 y17 y18 y19 y20 y21 y22 y23 y24 y25 y26 y27 y28 y29 y30 y31 y32 y33 y34 y35 y36 y37 y38 y39 y40 y41 y42 y43 y44 y45 y46 y47 y48 y49 y50 y51 y52 y53 y54 y55 y56 y57 y58 y59 y60 y61 y62 y63 y64 y65 y66 y67 y68 y69 y70 y71 y72 y73 y74 y75 y76 y77 y78 y79 y80 y81 y82 y83 y84 y85 y86 y87 y88 y89 y90 y91 y92 y93 y94 y95 y96 y97 y98 y99 y100 y101 y102 y103 y104 y105 y106 y107 y108 y109 y110 y111 y112 y113 y114 y115 y116 y117 y118 y119 y120 y121 y122 y123 y124 y125 y126 y127 y128 y129 y130 y131 : Value) :
    let Q' : Exit → Act → World → Prop := bodyPost Tryz.prog Tryz.f13 (fun e w' => e = .returned (.bool true) ∧ Bl w w')
    Code.wp Tryz.prog rest16 Q' { tmps := #[y0, y1, y2, y3, y4, y5, y6, y7, y8, y9, .slice AP nP kP, .pointer (some ⟨pm, 0, none⟩), .pointer (some ⟨po, 0, none⟩), y13, y14, y15, y16, y17, y18, y19, y20, y21, y22, y23, y24, y25, y26, y27, y28, y29, y30, y31, y32, y33, y34, y35, y36, y37, y38, y39, y40, y41, y42, y43, y44, y45, y46, y47, y48, y49, y50, y51, y52, y53, y54, y55, y56, y57, y58, y59, y60, y61, y62, y63, y64, y65, y66, y67, y68, y69, y70, y71, y72, y73, y74, y75, y76, y77, y78, y79, y80, y81, y82, y83, y84, y85, y86, y87, y88, y89, y90, y91, y92, y93, y94, y95, y96, y97, y98, y99, y100, y101, y102, y103, y104, y105, y106, y107, y108, y109, y110, y111, y112, y113, y114, y115, y116, y117, y118, y119, y120, y121, y122, y123, y124, y125, y126, y127, y128, y129, y130, y131], defers := [] } v16 := by
  intro Q'
  replace cH := Lib.hid cH
  conv => arg 2; whnf
  go_wp2
  go_loopw [14] (fun i wr => ∃ k : Nat, k ≤ 256 ∧ i = .int .i64 k ∧ Gr v16 wr) (fun i _ => 256 - (intOf i).toNat)
  case atStart => exact ⟨0, Nat.zero_le _, rfl, Gr.refl _⟩
  case round =>
    obtain ⟨k, hk, rfl, Gk⟩ := hrel
    by_cases hlt : k < 256
    · obtain ⟨hltI, hwk, hwk'⟩ := pw_step hlt
      have hA := hAp.out k hlt
      obtain ⟨i, j, hi, hj, x1, x2, x3, x4, x5, x6, x7, x8⟩ := rem_quo k 16 (by omega) (by omega)
      rw [← hi, ← hj] at hA
      clear hi hj x1
      rw [show ((16 : Nat) : Int) = 16 from rfl] at x2 x3 x4
      have ca := Lib.hid (fun (V : World) (g : Gr v16 V) => atI V (I16.gr g) i j)
      have cb := Lib.hid (fun (V : World) (g : Gr v16 V) => atI V (O16.gr g) i j)
      generalize atV 16 16 XM i j = ma at ca hA
      generalize atV 16 16 XO i j = mb at cb hA
      generalize hasB 0 0 (16 : Nat) (16 : Nat) i j = ok at ca cb
      replace hA := Lib.hid hA
      go_wp2_with fail
      refine (ca.out _ Gk).mono ?_
      rintro e u1 ⟨rfl, h1⟩
      go_wp2_with fail
      refine (cb.out _ (Gk.trans h1)).mono ?_
      rintro e u2 ⟨rfl, h2⟩
      have Gu := (Gk.trans h1).trans h2
      clear ca cb
      by_cases hab : ma = mb
      · subst hab
        clear hA
        go_wp2
        go_roundw
        case rel => exact ⟨k + 1, Nat.succ_le_of_lt hlt, by simp, Gu⟩
        case measure => simpa [intOf] using pw_meas hlt
      · have hH := cH.out u2 i j Gu.bl
        rw [hA.out hab] at hH
        clear hA
        go_wp2_with fail
        refine hH.mono ?_
        rintro e u3 ⟨rfl, h3⟩
        go_wp2
        go_roundw
        case rel => exact ⟨k + 1, Nat.succ_le_of_lt hlt, by simp, Gu.trans h3⟩
        case measure => simpa [intOf] using pw_meas hlt
    · obtain rfl : k = 256 := by omega
      go_wp2_with fail
      refine (plives1 _).mono ?_
      rintro e u4 ⟨rfl, h4⟩
      go_wp2
      go_ret
      exact ⟨rfl, (Gw16.gr Gk).gr h4⟩

end Go.Proofs.YtablogiielclaaaGreat
