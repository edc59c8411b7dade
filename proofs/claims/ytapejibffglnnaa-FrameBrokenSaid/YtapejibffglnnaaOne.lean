/-
  What is proved: the statement FrameBroken: a reader that is broken tells nothing more, whatever it is told. No conditions.
-/
import Derived.Test.YtapejibffglnnaaOq
import Derived.Test.YtapejibffglnnaaOp
import Derived.Test.YtapejibffglnnaaOn
import Derived.Test.YtapejibffglnnaaOe
import Derived.Test.YtapejibffglnnaaOh
import Derived.Test.YtapejibffglnnaaOm
import Derived.Test.YtapejibffglnnaaOg
import Derived.Test.YtapejibffglnnaaOk
import Derived.Deep.RegionHeld3
import Derived.Lib.QuietBelow
import Derived.Deep.RegionLaw
import Derived.Deep.CutBlock
import Derived.Deep.DeepCutAuto
namespace Go.Proofs.Ytapejibffglnnaa
open Go.ChangeShapes Go.WideShapes Go.ChangeAt Go.RowKit Go.Joins Go.Sort
attribute [local go_sem ↓] run_min2 run_max2

set_option maxRecDepth 100000 in
set_option maxHeartbeats 4000000 in
theorem br_core (n0 : Int) (wn0 : I64 n0) (w : World) (A1 : Option Addr) (c1 : Nat) (X1 : List (Ms × Value)) (hr1 : Mv w A1 X1) :
    Calls Try.prog 6 #[.int .i64 n0, .slice A1 X1.length c1] w fun e w' => e = .returned (.bool true) ∧ Bl w w' := by
  obtain ⟨n, hn⟩ : ∃ n, n = X1.length := ⟨_, rfl⟩
  rw [← hn]
  replace hn := Lib.hid hn
  have ca := fun V => around1 n0 7 V wn0 (by omega)
  have cb := fun V => around1 n0 61000 V wn0 (by omega)
  have ha := around_bd n0 7 (by omega)
  have hb := around_bd n0 61000 (by omega)
  generalize around n0 7 = k1 at *
  generalize around n0 61000 = k2 at *
  have b0 := At.new w #[.slice none 0 0, .bool false] 45
  have G0 : Bl w (w.alloc (.cells #[.slice none 0 0, .bool false] 45)) := (Bl.refl w).alloc _
  obtain ⟨W0, hW0⟩ : ∃ V, V = w.alloc (.cells #[.slice none 0 0, .bool false] 45) := ⟨_, rfl⟩
  rw [← hW0] at b0 G0
  go_enter Try.func6, Try.ntmps6
  go_wp2_with fail
  rw [← hW0]
  clear hW0
  refine (ca _).mono ?_
  rintro e w5 ⟨rfl, rfl⟩
  obtain ⟨r, hr⟩ : ∃ r, r = w.heap.size := ⟨_, rfl⟩
  rw [← hr] at b0 ⊢
  replace hr := Lib.hid hr
  go_upto_if 14 with fail
  go_cut [6] (fun o wx => ∃ k : Int, o = .int .i64 k ∧ 0 ≤ k ∧ k ≤ 65535 ∧ (k < 7 ∨ 4103 < k) ∧ wx = W0)
  case first =>
    cases hq : (n0.tmod 2 == 0)
    · go_wp2
      go_meet
      exact ⟨k1, rfl, by omega, by omega, by omega, rfl⟩
    · go_wp2_with fail
      refine (cb _).mono ?_
      rintro e w6 ⟨rfl, rfl⟩
      go_wp2
      go_meet
      exact ⟨4104 + k2, rfl, by omega, by omega, by omega, rfl⟩
  case rest =>
    obtain ⟨k, rfl, hk0, hk1, hk, rfl⟩ := hcut
    clear ca cb ha hb
    have hx0 : 0 ≤ k / 256 ∧ k / 256 ≤ 255 := by omega
    have hx1 : 0 ≤ k % 256 ∧ k % 256 ≤ 255 := by omega
    have hbad : k / 256 * 256 + k % 256 < 7 ∨ 4103 < k / 256 * 256 + k % 256 := by omega
    have wx0 : IntKind.u8.wrap (k / 256) = k / 256 := by rw [u8w]; omega
    have wx1 : IntKind.u8.wrap (k % 256) = k % 256 := by rw [u8w]; omega
    clear hk
    have hrW : w.heap.size ≤ r := by rw [hr.out]; exact Nat.le_refl _
    have bW := b0.alloc (.cells #[.int .u8 (k / 256)] 5)
    have rW := RwB.blk (L := [k / 256]) (At.new wc #[.int .u8 (k / 256)] 5)
    have c1 := put_whole r none 0 [] (some ⟨wc.heap.size, 0, none⟩) 1 [k / 256] _ bW (.inl rfl) (Nat.le_refl _) (fun _ => rfl) (.inl rfl) rW (by simp) (by simp) ByL.nil (by intro x hx; simp at hx; subst hx; exact hx0)
    obtain ⟨p1, p2, p3⟩ := put_one (k / 256)
    unfold PuQ at c1
    rw [p1, p2, p3] at c1
    clear p1 p2 p3 rW
    have hlt := bW.lt
    go_wp2_with fail
    refine c1.mono ?_
    clear c1
    rintro e w1 ⟨A', c', X, lA, lc, rfl, hX, _, _, _, b1, sv1, hf1, q1⟩
    obtain rfl : X = [] := by simpa using hX
    clear hX bW
    have G1 := (G0.alloc (.cells #[.int .u8 (k / 256)] 5)).grown q1 (fun k hk => by cases hk; exact hrW)
    obtain ⟨lA2, lc2, hv, hn1, hl1, hm1, rL⟩ := sv1
    injection hv with h1 h2 h3
    subst h1 h3
    clear h2 q1
    have hfar : ([k / 256] : List Int) = [] ∨ lA.map (·.block) ≠ some r := by
      rcases hf1 with h | ⟨g, h1, h2⟩
      · exact .inl h
      · refine .inr ?_
        rw [h1]; intro e; injection e with e; omega
    clear hf1 hlt
    have z0 := b1.cell 0
    have z1 := b1.cell 1
    simp only [List.getElem?_toArray, List.getElem?_cons_zero, List.getElem?_cons_succ] at z0 z1
    go_wp2_with fail
    refine (broken1 r false _ z1).mono ?_
    rintro e w2 ⟨rfl, g2⟩
    replace b1 := b1.gr g2
    replace rL := rL.bl g2.bl
    replace G1 := G1.gr g2
    clear z0 z1 g2
    have z0 := b1.cell 0
    simp only [List.getElem?_toArray, List.getElem?_cons_zero, List.length_singleton] at z0
    go_wp2_with fail
    refine (left1 r lA 1 lc _ z0).mono ?_
    rintro e w3 ⟨rfl, g3⟩
    replace b1 := b1.gr g3
    replace rL := rL.bl g3.bl
    replace G1 := G1.gr g3
    clear z0 g3
    have bW := b1.alloc (.cells #[.int .u8 (k % 256)] 5)
    have rW := RwB.blk (L := [k % 256]) (At.new w3 #[.int .u8 (k % 256)] 5)
    have c2 := put_whole r lA lc [k / 256] (some ⟨w3.heap.size, 0, none⟩) 1 [k % 256] _ bW (rL.bl ((Bl.refl w3).alloc _)) hl1 hn1 hfar rW (by simp) (by simp) (by intro x hx; simp at hx; subst hx; exact hx0) (by intro x hx; simp at hx; subst hx; exact hx1)
    obtain ⟨p1, p2, p3⟩ := put_two hbad
    unfold PuQ at c2
    rw [p1, p2, p3] at c2
    clear p1 p2 p3 rW hbad
    go_wp2_with fail
    refine c2.mono ?_
    clear c2
    rintro e w4 ⟨A4, c4, X4, lA4, lc4, rfl, hX, _, _, _, b4, sv4, _, q4⟩
    obtain rfl : X4 = [] := by simpa using hX
    clear hX bW b1 rL
    have G4 := (G1.alloc (.cells #[.int .u8 (k % 256)] 5)).grown q4 (fun k hk => by cases hk; exact hrW)
    obtain ⟨lA2, lc2, hv, hn4, _, hm4, _⟩ := sv4
    injection hv with h1 h2 h3
    subst h1 h3
    clear h2 q4 hn1 hl1 hm1 hfar
    rw [List.length_nil] at b4
    have z1 := b4.cell 1
    simp only [List.getElem?_toArray, List.getElem?_cons_zero, List.getElem?_cons_succ] at z1
    go_wp2_with fail
    refine (broken1 r true _ z1).mono ?_
    rintro e w5 ⟨rfl, g5⟩
    replace b4 := b4.gr g5
    replace G4 := G4.gr g5
    clear z1 g5
    have z0 := b4.cell 0
    simp only [List.getElem?_toArray, List.getElem?_cons_zero] at z0
    go_wp2_with fail
    refine (left1 r lA4 0 lc4 _ z0).mono ?_
    rintro e w6 ⟨rfl, g6⟩
    replace b4 := b4.gr g6
    replace G4 := G4.gr g6
    clear z0 g6 wx0 wx1 hx0 hx1 hk0 hk1 G0 G1 b0
    replace hm4 := Lib.hid hm4
    replace hn4 := Lib.hid hn4
    go_wp2
    go_loopw [7] (fun i wr => ∃ (j : Nat) (A : Option Addr) (c : Nat), j ≤ n ∧ i = .int .i64 j ∧ At wr r #[.slice A 0 c, .bool true] 45 ∧ Hid (c ≤ maxLen) ∧ Hid (A = none → c = 0) ∧ Bl w wr) (fun i _ => n - (intOf i).toNat)
    case atStart => exact ⟨0, lA4, lc4, Nat.zero_le _, rfl, b4, hm4, hn4, G4⟩
    case round =>
      clear b4 hm4 hn4 G4
      obtain ⟨j, A, c, hj, rfl, b4, hm4, hn4, G⟩ := hrel
      by_cases hgo : j < n ∧ j < 3
      · obtain ⟨hlt, hlt3⟩ := hgo
        have c1' : (j : Int) < n := by omega
        have c2' : (j : Int) < 3 := by omega
        obtain ⟨b, off, p, rfl, hp, z0, z1, z2, sv⟩ := (hr1.bl G).at (k := j) (by rw [← hn.out]; exact hlt)
        obtain ⟨m, v⟩ := p
        dsimp only at *
        obtain ⟨Ab, cb, rfl, hzb, hlb, hmb, hrb⟩ := sv
        have cg := fun V => good1 Ab cb m 20 20 rfl V hrb.ad hlb hmb (by omega)
        have hgo := goodM_ok m (n := 20) (by omega)
        have hgr : ∀ V, Bl wr V → RwB V Ab (goodM m 20).body := fun V g => (hrb.bl g).good 20
        generalize goodM m 20 = g at *
        have cw := fun V (q : Bl wr V) => rwrite1 Ab cb g V hgo (hgr V q) hzb
        obtain ⟨gop, gid, gb⟩ := g
        dsimp only at *
        generalize encM ⟨gop, gid, gb⟩ = EM at *
        obtain ⟨mo, mi, mbd⟩ := m
        dsimp only at *
        generalize mbd.length = nb at *
        go_wp2_with fail
        refine (cg _).mono ?_
        rintro e w1 ⟨rfl, q1⟩
        go_wp2_with fail
        refine (cw _ q1.bl).mono ?_
        rintro e w2 ⟨Ae, ce, rfl, _, q2⟩
        have G2 := (G.gr q1).trans q2
        replace b4 := (b4.gr q1).bl q2
        clear cw cg
        have cp := put_brk r A c (.slice Ae EM.length ce) EM w2 b4 hm4.out hn4.out
        unfold PuQ at cp
        obtain ⟨p1, p2, p3⟩ := put_more EM
        rw [p1, p2, p3] at cp
        clear p1 p2 p3
        go_wp2_with fail
        refine cp.mono ?_
        clear cp b4 hm4 hn4
        rintro e w4 ⟨A4, c4, X4, lA4, lc4, rfl, hX, _, _, _, b4, sv4, _, q4⟩
        obtain rfl : X4 = [] := by simpa using hX
        clear hX
        have G4 := G2.grown q4 (fun k hk => by cases hk; exact hrW)
        obtain ⟨lA2, lc2, hv, hn4, _, hm4, _⟩ := sv4
        injection hv with h1 h2 h3
        subst h1 h3
        clear h2 q4
        rw [List.length_nil] at b4
        replace hm4 := Lib.hid hm4
        replace hn4 := Lib.hid hn4
        have z1 := b4.cell 1
        simp only [List.getElem?_toArray, List.getElem?_cons_zero, List.getElem?_cons_succ] at z1
        go_wp2_with fail
        refine (broken1 r true _ z1).mono ?_
        rintro e w5 ⟨rfl, g5⟩
        replace b4 := b4.gr g5
        replace G4 := G4.gr g5
        clear z1 g5
        have z0 := b4.cell 0
        simp only [List.getElem?_toArray, List.getElem?_cons_zero] at z0
        go_wp2_with fail
        refine (left1 r lA4 0 lc4 _ z0).mono ?_
        rintro e w6 ⟨rfl, g6⟩
        replace b4 := b4.gr g6
        replace G4 := G4.gr g6
        clear z0 g6
        go_wp2
        go_roundw
        case rel => exact ⟨j + 1, lA4, lc4, by omega, by simp, b4, hm4, hn4, G4⟩
        case measure => simp [intOf]; omega
      · have hx : ((j : Int) < n ∧ ¬ (j : Int) < 3) ∨ ¬ (j : Int) < n := by omega
        rcases hx with ⟨hx1, hx2⟩ | hx1
        all_goals
          go_wp2_with fail
          refine (lives1 _).mono ?_
          rintro e V9 ⟨rfl, g9⟩
          go_wp2
          go_ret
          exact ⟨rfl, G.trans g9⟩

set_option maxRecDepth 100000 in
theorem frameBroken_lifted (os : Os) (started : os.Started) (H : Type) (enc : TypeId × Value → H) :
    ReturnsInHanded {} Try.checked os 6 .any (Rows.frameBrokenSpec.pre6 enc Try.prog Try.f6 Rows.frameBrokenRow.domain false) (Rows.frameBrokenSpec.post enc Try.prog Try.f6 false true false false) := by
  refine returnsInHanded_of_change (C := Try.checked) own started (by kernel_rfl) Try.func6
    (ChangeSpec.witness6 (enc := enc) (C := Try.checked) false ⟨#[], #[.int .i64 0, .slice none 0 0], []⟩ 8 (by kernel_rfl) (by kernel_rfl) (by kernel_rfl) (by kernel_rfl)) ?_
  intro W base args ds gs before hval0 hW hcnd _
  have hval : ∀ (j : Nat) t v, Try.f6.params[j]? = some t → args[j]? = some v → Value.okWide Try.prog W .any base t v := hval0
  have hW' := hW
  obtain ⟨p, q, hA0, hV, rfl, hfz, hnd⟩ := hW
  have hA : DataW.TrodAll enc Try.prog W 0 (fun _ => true) true Try.f6.params.toList args.toList ds p := hA0
  rw [Try.params6] at hA hval
  obtain ⟨v0, vs0, d0, ds0, p0, q0, hargs, rfl, rfl, h0, r0⟩ := trodAll_cons hA
  obtain ⟨v1, vs1, d1, ds1, p1, q1, rfl, rfl, rfl, h1, r1⟩ := trodAll_cons r0
  obtain ⟨rfl, rfl, rfl⟩ := trodAll_nil r1
  obtain rfl : args = #[v0, v1] := by cases args; simp_all
  obtain ⟨rfl, rfl⟩ := trodVars_none hV
  obtain ⟨n0, rfl, rfl, rfl, un0⟩ := open_int Try.underlying3 (hval 0 3 v0 rfl rfl) h0
  have wn0 := I64.of_wf un0
  obtain ⟨A1, c1, X1, rfl, hr1, hb1⟩ := open_msgs (hval 1 36 v1 rfl rfl) h1
  clear hA0 hval0
  simp only [List.append_nil] at hW'
  have hlt := hW'.lt
  refine (br_core n0 wn0 W A1 c1 X1 hr1).mono fun e W' ⟨he, hb⟩ => ?_
  subst he
  exact ⟨_, rfl, close_below (pa := p1) (pv := []) hW' (fun _ _ _ => (trodAll_cons_mk (shut_bool Try.underlying4 _) trodAll_mk0)) (fun sp hsp => by
      have := (trodAll_cons_mk (shut_int Try.underlying3 un0) (trodAll_cons_mk (WideElems.Trod_stays laidOut (by kernel_rfl) (of_decide_eq_true (by kernel_rfl)) h1 (fun x hx => Below.same hb (hlt x (by simp [hx]))) (sp' := sp) (fun x hx => hsp x (by simp [hx]))) trodAll_mk0))
      simp only [List.append_nil] at this
      exact this)
    (fun _ _ => rfl) (by simp) hb (ok_one (by kernel_rfl) rfl (okWide_bool_mk Try.underlying4 _))⟩

theorem frameBroken_holds : Rows.FrameBrokenSaid :=
  OpenClaim.holds_of_wide 6 Try.f6 rfl rfl rfl rfl rfl rfl rfl ⟨rfl, rfl, rfl, rfl, rfl⟩ rfl rfl rfl rfl rfl (by kernel_rfl) Try.func6 (by kernel_rfl)
    (of_decide_eq_true (by kernel_rfl)) (by unfold Func.isWrapper; first | (rw [if_pos (by decide +kernel)]; kernel_rfl) | (rw [if_neg (by decide +kernel)]; exact ⟨rfl, rfl⟩))
    (fun os started H enc _ => frameBroken_lifted os started H enc)

#print axioms frameBroken_holds

end Go.Proofs.Ytapejibffglnnaa
