/-
  What is proved: the statement FrameReads: the message that bytes begin with, all that they begin with, or the error, are the document's. No conditions.
-/
import Derived.Test.YtapejibffglnnaaOn
import Derived.Test.YtapejibffglnnaaOe
import Derived.Test.YtapejibffglnnaaOh
import Derived.Test.YtapejibffglnnaaOm
import Derived.Test.YtapejibffglnnaaOg
import Derived.Test.YtapejibffglnnaaOfb
import Derived.Test.YtapejibffglnnaaOf
import Derived.Test.YtapejibffglnnaaOk
import Derived.Test.YtapejibffglnnaaOja
import Derived.Test.YtapejibffglnnaaOjb
import Derived.Deep.RegionHeld3
import Derived.Lib.QuietBelow
import Derived.Deep.RegionLaw
import Derived.Deep.CutBlock
import Derived.Deep.DeepCutAuto
namespace Go.Proofs.Ytapejibffglnnaa
open Go.ChangeShapes Go.WideShapes Go.ChangeAt Go.RowKit Go.Joins Go.Sort
attribute [local go_sem ↓] run_min2 run_max2

set_option maxRecDepth 100000 in
set_option maxHeartbeats 4000000 in
theorem rd_core (w : World) (A0 : Option Addr) (c0 : Nat) (L0 : List Int) (hl0 : L0.length ≤ c0) (hm0 : c0 ≤ maxLen) (hr0 : RwB w A0 L0) (hb0 : ByL L0)
    (A1 : Option Addr) (c1 : Nat) (X1 : List (Ms × Value)) (hr1 : Mv w A1 X1) (hb1 : ∀ p ∈ X1, ByL p.1.body) (n2 : Int) (wn2 : I64 n2) (n3 : Int) (wn3 : 0 ≤ n3 ∧ n3 ≤ 255) :
    Calls Try.prog 4 #[.slice A0 L0.length c0, .slice A1 X1.length c1, .int .i64 n2, .int .u8 n3] w fun e w' => e = .returned (.bool true) ∧ Bl w w' := by
  have cfew := fun V => few1 A0 c0 L0 60 60 rfl V hr0.ad hl0 hm0 (by omega)
  have hF1 : ∀ V, Bl w V → RwB V A0 (L0.take 60) := fun V g => (hr0.bl g).good 60
  have hF2 : (L0.take 60).length ≤ c0 := by rw [List.length_take]; omega
  have hF3 := hb0.take 60
  have hF4 : (L0.take 60).length ≤ 60 := by rw [List.length_take]; omega
  generalize L0.take 60 = F at *
  generalize L0.length = n0 at *
  have cf0 := fun V (g : Bl w V) => fread1 A0 c0 F V (hF1 V g) hF2 hm0 hF3
  have cr0 := fun V (g : Bl w V) => rread1 A0 c0 F V (hF1 V g) hF2 hm0 hF3
  have sf0 := fun V (g : Bl w V) => fsplit1 A0 c0 F V (hF1 V g) hF2 hm0 hF3 (by omega)
  have sr0 := fun V (g : Bl w V) => rsplit1 A0 c0 F V (hF1 V g) hF2 hm0 hF3 (by omega)
  have hZ0 : (spl F).1.length ≤ 1000000 := by have := spl_few F; omega
  unfold RdQ at cf0 cr0
  unfold SpQ at sf0 sr0
  generalize rdM F = m0 at *
  generalize rdN F = N0 at *
  generalize rdE F = E0 at *
  generalize (spl F).1 = Z0 at *
  generalize (spl F).2.1 = S0 at *
  generalize (spl F).2.2 = R0 at *
  replace hZ0 := Lib.hid hZ0
  obtain ⟨mo0, mi0, mb0⟩ := m0
  dsimp only at cf0 cr0
  obtain ⟨n, hn⟩ : ∃ n, n = X1.length := ⟨_, rfl⟩
  rw [← hn]
  replace hn := Lib.hid hn
  have hglen := fun k => gl_len 20 (X1.take k)
  have hgby := fun k => gl_by (q := 20) (by omega) (X1.take k) (fun p hp => hb1 p (List.mem_of_mem_take hp))
  replace hglen := Lib.hid hglen
  replace hgby := Lib.hid hgby
  go_enter Try.func4, Try.ntmps4
  go_upto_block 0 with fail
  go_cut [9] (fun o wx => ∃ (A : Option Addr) (c : Nat) (P : List Int), o = .slice A P.length c ∧ OwB wx w.heap.size A c P ∧ ByL P ∧ P.length ≤ 108 ∧ Hid (P = encs (gl 20 (X1.take 4))) ∧ Bl w wx)
  case first =>
    go_wp2
    go_loopw [9, 10] (fun o i wr => ∃ (k : Nat) (A : Option Addr) (c : Nat) (P : List Int), k ≤ n ∧ k ≤ 4 ∧ o = .slice A P.length c ∧ i = .int .i64 k ∧ OwB wr w.heap.size A c P ∧ Hid (P = encs (gl 20 (X1.take k))) ∧ Bl w wr) (fun _ i _ => n - (intOf i).toNat)
    case atStart => exact ⟨0, none, 0, [], Nat.zero_le _, by omega, rfl, rfl, OwB.nil _ _, Lib.hid (by simp [gl, encs]), Bl.refl _⟩
    case round =>
      obtain ⟨k, A, c, P, hk, hk4, rfl, rfl, own, hP, G⟩ := hrel
      have hbP : ByL P := by rw [hP.out]; exact hgby.out k
      have hlP : P.length ≤ 108 := by
        have h1 := hglen.out k
        rw [← hP.out, List.length_take] at h1
        have h2 : min k X1.length ≤ 4 := by omega
        have h3 : (7 + 20) * min k X1.length ≤ 27 * 4 := Nat.mul_le_mul_left _ h2
        omega
      by_cases hgo : k < n ∧ k < 4
      · obtain ⟨hlt, hlt4⟩ := hgo
        have c1' : (k : Int) < n := by omega
        have c2' : (k : Int) < 4 := by omega
        obtain ⟨b, off, p, rfl, hp, z0, z1, z2, sv⟩ := (hr1.bl G).at (k := k) (by rw [← hn.out]; exact hlt)
        have hsn : encs (gl 20 (X1.take (k + 1))) = P ++ encM (goodM p.1 20) := by rw [gl_snoc hp, encs_snoc, hP.out]
        obtain ⟨m, v⟩ := p
        dsimp only at *
        obtain ⟨Ab, cb, rfl, hzb, hlb, hmb, hrb⟩ := sv
        have cg := fun V => good1 Ab cb m 20 20 rfl V hrb.ad hlb hmb (by omega)
        have hgo := goodM_ok m (n := 20) (by omega)
        have hgr : ∀ V, Bl wr V → RwB V Ab (goodM m 20).body := fun V g => (hrb.bl g).good 20
        have hel := encM_len (goodM m 20)
        have hgl2 := goodM_len m 20
        generalize goodM m 20 = g at *
        have cw := fun V (q : Bl wr V) => rwrite1 Ab cb g V hgo (hgr V q) hzb
        obtain ⟨gop, gid, gb⟩ := g
        dsimp only at *
        generalize encM ⟨gop, gid, gb⟩ = EM at *
        obtain ⟨mo, mi, mbd⟩ := m
        dsimp only at *
        generalize mbd.length = nb at *
        have hEM : EM.length ≤ 27 := by omega
        replace hel := Lib.hid hel
        replace hsn := Lib.hid hsn
        go_wp2_with fail
        refine (cg _).mono ?_
        rintro e w1 ⟨rfl, q1⟩
        go_wp2_with fail
        refine (cw _ q1.bl).mono ?_
        rintro e w2 ⟨Ae, ce, rfl, sve, q2⟩
        have G2 := (G.gr q1).trans q2
        have own2 := (own.bl q1.bl).bl q2
        obtain ⟨Ae2, ce2, hv, hze, _, _, rwe⟩ := sve
        injection hv with h1 h2 h3
        subst h1 h3
        clear h2 cw cg
        go_wp2_with (at_builtin; refine wp_app_b rfl (.tmp 46) (.tmp 47) rfl A c P rfl w.heap.size own2 Ae EM ce rfl hze rwe (by omega) G2.size ?_; intro A4 c4 w4 own4 by4 _; have G4 := app_bl by4 G2 own2.lies (Nat.le_refl _))
        go_roundw
        case rel => exact ⟨k + 1, A4, c4, _, by omega, by omega, by simp, by simp, own4, Lib.hid (by rw [hsn.out]), G4⟩
        case measure => simp [intOf]; omega
      · have hfin : Hid (P = encs (gl 20 (X1.take 4))) := by
          refine Lib.hid ?_
          rw [hP.out]
          rcases Nat.lt_or_ge k n with hx | hx
          · rw [show k = 4 by omega]
          · have hkn : k = n := by omega
            have e1 : X1.take k = X1 := by rw [hkn, hn.out]; exact List.take_of_length_le (Nat.le_refl _)
            have e2 : X1.take 4 = X1 := List.take_of_length_le (by rw [← hn.out]; omega)
            rw [e1, e2]
        rcases Nat.lt_or_ge k n with hx | hx
        · have hx1 : (k : Int) < n := by omega
          have hx2 : ¬ (k : Int) < 4 := by omega
          go_wp2
          go_meet
          exact ⟨A, c, P, rfl, own, hbP, hlP, hfin, G⟩
        · have hx1 : ¬ (k : Int) < n := by omega
          go_wp2
          go_meet
          exact ⟨A, c, P, rfl, own, hbP, hlP, hfin, G⟩
  case rest =>
    obtain ⟨A, c, P, rfl, own, hbP, hlP, hPe, G⟩ := hcut
    clear hPe
    go_upto_if 51 with fail
    go_cut [9] (fun o wx => ∃ P' : List Int, o = .slice A P'.length c ∧ P'.length ≤ 108 ∧ OwB wx w.heap.size A c P' ∧ ByL P' ∧ Bl w wx)
    case first =>
      by_cases hP0 : P.length = 0
      · have hq : ¬ (0 : Int) < (P.length : Int) := by omega
        go_wp2
        go_meet
        exact ⟨P, by rw [hP0], hlP, own, hbP, G⟩
      · rcases own.lies with rfl | ⟨g, rfl, hgB, _⟩
        · exfalso
          rcases own_addr own with ⟨_, _, h1⟩ | ⟨g, h1, _⟩
          · exact hP0 h1
          · cases h1
        · have ca := fun V => around1 n2 (P.length : Int) V wn2 (by omega)
          have hab := around_bd n2 (P.length : Int) (by omega)
          generalize around n2 (P.length : Int) = q at *
          obtain ⟨Q, rfl⟩ : ∃ Q : Nat, q = Q := ⟨q.toNat, by omega⟩
          obtain ⟨⟨u, hu⟩, hfz⟩ := own.cell Q (by omega)
          have own' := own.set Q (by omega) n3
          have hb' := hbP.set Q wn3
          have hl' : (P.set Q n3).length = P.length := List.length_set
          have G' := G.setCell (p := ⟨g, Q, none⟩) hgB (.int .u8 n3)
          have hq : (0 : Int) < (P.length : Int) := by omega
          have hQn : (Q : Int) < (P.length : Int) := by omega
          have hQn' : Q < P.length := by omega
          generalize P.set Q n3 = P' at *
          generalize P.length = np at *
          go_wp2_with fail
          refine (ca _).mono ?_
          rintro e w5 ⟨rfl, rfl⟩
          go_wp2
          go_meet
          exact ⟨P', by rw [hl'], by omega, own', hb', G'⟩
    case rest =>
      clear own hbP hlP G
      clear P
      obtain ⟨P, rfl, hlP, own, hbP, GX⟩ := hcut
      have hrP : ∀ V, Bl wc V → RwB V A P := fun V g => own.rwb.bl g
      have cf1 := fun V (g : Bl wc V) => fread1 A c P V (hrP V g) (own_caps own).1 (own_caps own).2.1 hbP
      have cr1 := fun V (g : Bl wc V) => rread1 A c P V (hrP V g) (own_caps own).1 (own_caps own).2.1 hbP
      have sf1 := fun V (g : Bl wc V) => fsplit1 A c P V (hrP V g) (own_caps own).1 (own_caps own).2.1 hbP (by omega)
      have sr1 := fun V (g : Bl wc V) => rsplit1 A c P V (hrP V g) (own_caps own).1 (own_caps own).2.1 hbP (by omega)
      have hZ1 : (spl P).1.length ≤ 1000000 := by have := spl_few P; omega
      unfold RdQ at cf1 cr1
      unfold SpQ at sf1 sr1
      generalize rdM P = m1 at *
      generalize rdN P = N1 at *
      generalize rdE P = E1 at *
      generalize (spl P).1 = Z1 at *
      generalize (spl P).2.1 = S1 at *
      generalize (spl P).2.2 = R1 at *
      replace hZ1 := Lib.hid hZ1
      obtain ⟨mo1, mi1, mb1⟩ := m1
      dsimp only at cf1 cr1
      go_wp2_with fail
      refine (cfew _).mono ?_
      rintro e w5 ⟨rfl, rfl⟩
      have TW := At.new wc #[.slice A0 F.length c0, .slice A P.length c] 22
      have GB := (Bl.refl wc).alloc (.cells #[.slice A0 F.length c0, .slice A P.length c] 22)
      obtain ⟨V0, hV0⟩ : ∃ V, V = wc.alloc (.cells #[.slice A0 F.length c0, .slice A P.length c] 22) := ⟨_, rfl⟩
      obtain ⟨p2, hp2⟩ : ∃ p, p = wc.heap.size := ⟨_, rfl⟩
      rw [← hV0] at TW GB
      rw [← hp2] at TW
      have GW := GX
      go_wp2
      rw [← hV0, ← hp2]
      clear hV0 hp2
      refine wp_loop_rounds 3 ?_
      rw [rounds_succ]
      -- round 0
      have tw00 := TW.cell 0
      simp only [List.getElem?_toArray, List.getElem?_cons_zero] at tw00
      go_wp2_with fail
      refine (cf0 _ (GX.trans GB)).mono ?_
      rintro e V1 ⟨v1, rfl, sv1, _, g1⟩
      obtain ⟨Am0, cm0, rfl, _, _, _, rm0⟩ := sv1
      try dsimp only at rm0
      have GB1 := GB.trans g1
      have TW1 := TW.bl g1
      have TW1a := TW1.alloc (.cells #[.int .i64 mo0, .int .i64 mi0, .slice Am0 mb0.length cm0] 24)
      have MB1 := At.new V1 #[.int .i64 mo0, .int .i64 mi0, .slice Am0 mb0.length cm0] 24
      have tw1 := TW1a.cell 0
      simp only [List.getElem?_toArray, List.getElem?_cons_zero] at tw1
      have q1 := (Bl.refl V1).alloc (.cells #[.int .i64 mo0, .int .i64 mi0, .slice Am0 mb0.length cm0] 24)
      obtain ⟨V1a, hV1a⟩ : ∃ V, V = V1.alloc (.cells #[.int .i64 mo0, .int .i64 mi0, .slice Am0 mb0.length cm0] 24) := ⟨_, rfl⟩
      obtain ⟨pm0, hpm0⟩ : ∃ p, p = V1.heap.size := ⟨_, rfl⟩
      rw [← hV1a] at TW1a MB1 q1
      rw [← hpm0] at MB1
      go_wp2_with fail
      rw [← hV1a, ← hpm0]
      refine (cr0 _ (GX.trans (GB1.trans q1))).mono ?_
      clear hV1a hpm0 tw1
      rintro e V2 ⟨v2, rfl, sv2, _, g2⟩
      obtain ⟨Ap0, cp0, rfl, _, _, _, rp0⟩ := sv2
      try dsimp only at rp0
      have GB2 := (GB1.trans q1).trans g2
      have TW2 := (TW1a.bl g2).alloc (.cells #[.int .i64 mo0, .int .i64 mi0, .slice Ap0 mb0.length cp0] 24)
      have MB2 := (MB1.bl g2).alloc (.cells #[.int .i64 mo0, .int .i64 mi0, .slice Ap0 mb0.length cp0] 24)
      have m0 := MB2.cell 0
      have m1 := MB2.cell 1
      have m2 := MB2.cell 2
      simp only [List.getElem?_toArray, List.getElem?_cons_zero, List.getElem?_cons_succ] at m0 m1 m2
      have q2 := (Bl.refl V2).alloc (.cells #[.int .i64 mo0, .int .i64 mi0, .slice Ap0 mb0.length cp0] 24)
      have cs0 := rsame1 Am0 Ap0 cm0 cp0 ⟨mo0, mi0, mb0⟩ _ ((((rm0.bl q1).bl g2)).bl q2) (rp0.bl q2)
      dsimp only at cs0
      go_wp2_with fail
      refine cs0.mono ?_
      rintro e V3 ⟨rfl, g3⟩
      have GB3 := (GB2.trans q2).gr g3
      have TW3 := TW2.gr g3
      have tw3 := TW3.cell 0
      simp only [List.getElem?_toArray, List.getElem?_cons_zero] at tw3
      clear m0 m1 m2 cs0 MB1 MB2 TW1 TW1a TW2 rm0 rp0
      go_wp2_with fail
      refine (sf0 _ (GX.trans GB3)).mono ?_
      rintro e V4 ⟨As0, cs0, Xs0, rfl, hXs0, mvs0, _, _, _, g4⟩
      have GB4 := GB3.trans g4
      have TW4 := TW3.bl g4
      have tw4 := TW4.cell 0
      simp only [List.getElem?_toArray, List.getElem?_cons_zero] at tw4
      replace hXs0 := Lib.hid hXs0
      go_wp2_with fail
      refine (sr0 _ (GX.trans GB4)).mono ?_
      rintro e V5 ⟨At0, ct0, Xt0, rfl, hXt0, mvt0, _, _, _, g5⟩
      have GB5 := GB4.trans g5
      have TW5 := TW4.bl g5
      replace hXt0 := Lib.hid hXt0
      have ca0 := sameAll1 As0 At0 cs0 ct0 Xs0 Xt0 V5 (mvs0.bl g5) mvt0 (hXs0.out.trans hXt0.out.symm) (by have h := congrArg List.length hXs0.out; rw [List.length_map] at h; rw [h]; exact hZ0.out)
      go_wp2_with fail
      refine ca0.mono ?_
      rintro e V6 ⟨rfl, g6⟩
      clear ca0 tw00 tw3 tw4
      replace GB := GB5.gr g6
      replace TW := TW5.gr g6
      clear GB1 GB2 GB3 GB4 GB5 TW3 TW4 TW5 g1 g2 g3 g4 g5 g6 q1 q2
      go_wp2
      rw [rounds_succ]
      -- round 1
      have tw10 := TW.cell 1
      simp only [List.getElem?_toArray, List.getElem?_cons_zero, List.getElem?_cons_succ] at tw10
      go_wp2_with fail
      refine (cf1 _ GB).mono ?_
      rintro e V1 ⟨v1, rfl, sv1, _, g1⟩
      obtain ⟨Am1, cm1, rfl, _, _, _, rm1⟩ := sv1
      try dsimp only at rm1
      have GB1 := GB.trans g1
      have TW1 := TW.bl g1
      have TW1a := TW1.alloc (.cells #[.int .i64 mo1, .int .i64 mi1, .slice Am1 mb1.length cm1] 24)
      have MB1 := At.new V1 #[.int .i64 mo1, .int .i64 mi1, .slice Am1 mb1.length cm1] 24
      have tw1 := TW1a.cell 1
      simp only [List.getElem?_toArray, List.getElem?_cons_zero, List.getElem?_cons_succ] at tw1
      have q1 := (Bl.refl V1).alloc (.cells #[.int .i64 mo1, .int .i64 mi1, .slice Am1 mb1.length cm1] 24)
      obtain ⟨V1a, hV1a⟩ : ∃ V, V = V1.alloc (.cells #[.int .i64 mo1, .int .i64 mi1, .slice Am1 mb1.length cm1] 24) := ⟨_, rfl⟩
      obtain ⟨pm1, hpm1⟩ : ∃ p, p = V1.heap.size := ⟨_, rfl⟩
      rw [← hV1a] at TW1a MB1 q1
      rw [← hpm1] at MB1
      go_wp2_with fail
      rw [← hV1a, ← hpm1]
      refine (cr1 _ (GB1.trans q1)).mono ?_
      clear hV1a hpm1 tw1
      rintro e V2 ⟨v2, rfl, sv2, _, g2⟩
      obtain ⟨Ap1, cp1, rfl, _, _, _, rp1⟩ := sv2
      try dsimp only at rp1
      have GB2 := (GB1.trans q1).trans g2
      have TW2 := (TW1a.bl g2).alloc (.cells #[.int .i64 mo1, .int .i64 mi1, .slice Ap1 mb1.length cp1] 24)
      have MB2 := (MB1.bl g2).alloc (.cells #[.int .i64 mo1, .int .i64 mi1, .slice Ap1 mb1.length cp1] 24)
      have m0 := MB2.cell 0
      have m1 := MB2.cell 1
      have m2 := MB2.cell 2
      simp only [List.getElem?_toArray, List.getElem?_cons_zero, List.getElem?_cons_succ] at m0 m1 m2
      have q2 := (Bl.refl V2).alloc (.cells #[.int .i64 mo1, .int .i64 mi1, .slice Ap1 mb1.length cp1] 24)
      have cs1 := rsame1 Am1 Ap1 cm1 cp1 ⟨mo1, mi1, mb1⟩ _ ((((rm1.bl q1).bl g2)).bl q2) (rp1.bl q2)
      dsimp only at cs1
      go_wp2_with fail
      refine cs1.mono ?_
      rintro e V3 ⟨rfl, g3⟩
      have GB3 := (GB2.trans q2).gr g3
      have TW3 := TW2.gr g3
      have tw3 := TW3.cell 1
      simp only [List.getElem?_toArray, List.getElem?_cons_zero, List.getElem?_cons_succ] at tw3
      clear m0 m1 m2 cs1 MB1 MB2 TW1 TW1a TW2 rm1 rp1
      go_wp2_with fail
      refine (sf1 _ GB3).mono ?_
      rintro e V4 ⟨As1, cs1, Xs1, rfl, hXs1, mvs1, _, _, _, g4⟩
      have GB4 := GB3.trans g4
      have TW4 := TW3.bl g4
      have tw4 := TW4.cell 1
      simp only [List.getElem?_toArray, List.getElem?_cons_zero, List.getElem?_cons_succ] at tw4
      replace hXs1 := Lib.hid hXs1
      go_wp2_with fail
      refine (sr1 _ GB4).mono ?_
      rintro e V5 ⟨At1, ct1, Xt1, rfl, hXt1, mvt1, _, _, _, g5⟩
      have GB5 := GB4.trans g5
      have TW5 := TW4.bl g5
      replace hXt1 := Lib.hid hXt1
      have ca1 := sameAll1 As1 At1 cs1 ct1 Xs1 Xt1 V5 (mvs1.bl g5) mvt1 (hXs1.out.trans hXt1.out.symm) (by have h := congrArg List.length hXs1.out; rw [List.length_map] at h; rw [h]; exact hZ1.out)
      go_wp2_with fail
      refine ca1.mono ?_
      rintro e V6 ⟨rfl, g6⟩
      clear ca1 tw10 tw3 tw4
      replace GB := GB5.gr g6
      replace TW := TW5.gr g6
      clear GB1 GB2 GB3 GB4 GB5 TW3 TW4 TW5 g1 g2 g3 g4 g5 g6 q1 q2
      go_wp2
      rw [rounds_succ]
      go_wp2_with fail
      refine (lives1 _).mono ?_
      rintro e V9 ⟨rfl, g9⟩
      go_wp2
      go_ret
      exact ⟨rfl, (GX.trans GB).trans g9⟩

set_option maxRecDepth 100000 in
theorem frameReads_lifted (os : Os) (started : os.Started) (H : Type) (enc : TypeId × Value → H) :
    ReturnsInHanded {} Try.checked os 4 .any (Rows.frameReadsSpec.pre6 enc Try.prog Try.f4 Rows.frameReadsRow.domain false) (Rows.frameReadsSpec.post enc Try.prog Try.f4 false true false false) := by
  refine returnsInHanded_of_change (C := Try.checked) own started (by kernel_rfl) Try.func4
    (ChangeSpec.witness6 (enc := enc) (C := Try.checked) false ⟨#[], #[.slice none 0 0, .slice none 0 0, .int .i64 0, .int .u8 0], []⟩ 8 (by kernel_rfl) (by kernel_rfl) (by kernel_rfl) (by kernel_rfl)) ?_
  intro W base args ds gs before hval0 hW hcnd _
  have hval : ∀ (j : Nat) t v, Try.f4.params[j]? = some t → args[j]? = some v → Value.okWide Try.prog W .any base t v := hval0
  have hW' := hW
  obtain ⟨p, q, hA0, hV, rfl, hfz, hnd⟩ := hW
  have hA : DataW.TrodAll enc Try.prog W 0 (fun _ => true) true Try.f4.params.toList args.toList ds p := hA0
  rw [Try.params4] at hA hval
  obtain ⟨v0, vs0, d0, ds0, p0, q0, hargs, rfl, rfl, h0, r0⟩ := trodAll_cons hA
  obtain ⟨v1, vs1, d1, ds1, p1, q1, rfl, rfl, rfl, h1, r1⟩ := trodAll_cons r0
  obtain ⟨v2, vs2, d2, ds2, p2, q2, rfl, rfl, rfl, h2, r2⟩ := trodAll_cons r1
  obtain ⟨v3, vs3, d3, ds3, p3, q3, rfl, rfl, rfl, h3, r3⟩ := trodAll_cons r2
  obtain ⟨rfl, rfl, rfl⟩ := trodAll_nil r3
  obtain rfl : args = #[v0, v1, v2, v3] := by cases args; simp_all
  obtain ⟨rfl, rfl⟩ := trodVars_none hV
  obtain ⟨A0, c0, L0, rfl, hz0, hl0, hm0, hr0, hb0⟩ := open_bytes (hval 0 22 v0 rfl rfl) h0
  obtain ⟨A1, c1, X1, rfl, hr1, hb1⟩ := open_msgs (hval 1 36 v1 rfl rfl) h1
  obtain ⟨n2, rfl, rfl, rfl, un2⟩ := open_int Try.underlying3 (hval 2 3 v2 rfl rfl) h2
  have wn2 := I64.of_wf un2
  obtain ⟨n3, rfl, rfl, rfl, un3⟩ := open_int Try.underlying5 (hval 3 5 v3 rfl rfl) h3
  have wn3 := By8.of_wf un3
  clear hA0 hval0
  simp only [List.append_nil] at hW'
  have hlt := hW'.lt
  refine (rd_core W A0 c0 L0 hl0 hm0 hr0 hb0 A1 c1 X1 hr1 (fun p hp => (hb1 p hp).1) n2 wn2 n3 wn3).mono fun e W' ⟨he, hb⟩ => ?_
  subst he
  exact ⟨_, rfl, close_below (pa := p0 ++ p1) (pv := []) hW' (fun _ _ _ => (trodAll_cons_mk (shut_bool Try.underlying4 _) trodAll_mk0)) (fun sp hsp => by
      have := (trodAll_cons_mk (WideElems.Trod_stays laidOut (by kernel_rfl) (of_decide_eq_true (by kernel_rfl)) h0 (fun x hx => Below.same hb (hlt x (by simp [hx]))) (sp' := sp) (fun x hx => hsp x (by simp [hx]))) (trodAll_cons_mk (WideElems.Trod_stays laidOut (by kernel_rfl) (of_decide_eq_true (by kernel_rfl)) h1 (fun x hx => Below.same hb (hlt x (by simp [hx]))) (sp' := sp) (fun x hx => hsp x (by simp [hx]))) (trodAll_cons_mk (shut_int Try.underlying3 un2) (trodAll_cons_mk (shut_int Try.underlying5 un3) trodAll_mk0))))
      simp only [List.append_nil] at this
      exact this)
    (fun _ _ => rfl) (by simp) hb (ok_one (by kernel_rfl) rfl (okWide_bool_mk Try.underlying4 _))⟩

theorem frameReads_holds : Rows.FrameReadsSaid :=
  OpenClaim.holds_of_wide 4 Try.f4 rfl rfl rfl rfl rfl rfl rfl ⟨rfl, rfl, rfl, rfl, rfl⟩ rfl rfl rfl rfl rfl (by kernel_rfl) Try.func4 (by kernel_rfl)
    (of_decide_eq_true (by kernel_rfl)) (by unfold Func.isWrapper; first | (rw [if_pos (by decide +kernel)]; kernel_rfl) | (rw [if_neg (by decide +kernel)]; exact ⟨rfl, rfl⟩))
    (fun os started H enc _ => frameReads_lifted os started H enc)

#print axioms frameReads_holds

end Go.Proofs.Ytapejibffglnnaa
