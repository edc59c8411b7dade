/-
  What is proved: the statement FrameStops: of the bytes of messages, cut off anywhere, just those that are whole are told, and how many bytes they have. No conditions.
-/
import Derived.Test.YtapejibffglnnaaOp
import Derived.Test.YtapejibffglnnaaOn
import Derived.Test.YtapejibffglnnaaOe
import Derived.Test.YtapejibffglnnaaOh
import Derived.Test.YtapejibffglnnaaOm
import Derived.Test.YtapejibffglnnaaOg
import Derived.Test.YtapejibffglnnaaOfb
import Derived.Test.YtapejibffglnnaaOk
import Derived.Test.YtapejibffglnnaaOjb
import Derived.Deep.RegionHeld3
import Derived.Lib.QuietBelow
import Derived.Deep.RegionLaw
import Derived.Deep.CutBlock
import Derived.Deep.DeepCutAuto
namespace Go.Proofs.Ytapejibffglnnaa
open Go.ChangeShapes Go.WideShapes Go.ChangeAt Go.RowKit Go.Joins Go.Sort
attribute [local go_sem ↓] run_min2 run_max2
open Go.Deep

set_option maxRecDepth 100000 in
set_option maxHeartbeats 4000000 in
theorem st_core (w : World) (A1 : Option Addr) (c1 : Nat) (X1 : List (Ms × Value)) (hr1 : Mv w A1 X1) (hb1 : ∀ p ∈ X1, ByL p.1.body) (n1 : Int) (wn1 : I64 n1) :
    Calls Try.prog 8 #[.slice A1 X1.length c1, .int .i64 n1] w fun e w' => e = .returned (.bool true) ∧ Bl w w' := by
  obtain ⟨n, hn⟩ : ∃ n, n = X1.length := ⟨_, rfl⟩
  rw [← hn]
  replace hn := Lib.hid hn
  have hglen := fun k => gl_len 12 (X1.take k)
  have hgby := fun k => gl_by (q := 12) (by omega) (X1.take k) (fun p hp => hb1 p (List.mem_of_mem_take hp))
  replace hglen := Lib.hid hglen
  replace hgby := Lib.hid hgby
  go_enter Try.func8, Try.ntmps8
  go_upto_block 0 with fail
  go_cut [5, 6] (fun o o6 wx => ∃ (A : Option Addr) (c : Nat) (P : List Int) (C : Option Addr) (d : Nat) (J : List Int), o = .slice A P.length c ∧ o6 = .slice C J.length d ∧ OwJ wx w.heap.size C d J ∧ Hid (J = endsJ (gl 12 (X1.take 5))) ∧ OwB wx w.heap.size A c P ∧ ByL P ∧ P.length ≤ 95 ∧ Hid (P = encs (gl 12 (X1.take 5))) ∧ Bl w wx)
  case first =>
    go_wp2
    go_loopw [5, 6, 7] (fun o o6 i wr => ∃ (k : Nat) (A : Option Addr) (c : Nat) (P : List Int) (C : Option Addr) (d : Nat) (J : List Int), o6 = .slice C J.length d ∧ OwJ wr w.heap.size C d J ∧ Hid (J = endsJ (gl 12 (X1.take k))) ∧ Dj A C ∧ k ≤ n ∧ k ≤ 5 ∧ o = .slice A P.length c ∧ i = .int .i64 k ∧ OwB wr w.heap.size A c P ∧ Hid (P = encs (gl 12 (X1.take k))) ∧ Bl w wr) (fun _ _ i _ => n - (intOf i).toNat)
    case atStart => exact ⟨0, none, 0, [], none, 0, [], rfl, OwJ.nil _ _, Lib.hid (by simp [gl, endsJ]), fun g h _ => (by cases h), Nat.zero_le _, by omega, rfl, rfl, OwB.nil _ _, Lib.hid (by simp [gl, encs]), Bl.refl _⟩
    case round =>
      obtain ⟨k, A, c, P, C, d, J, rfl, ownJ, hJ, dj, hk, hk4, rfl, rfl, own, hP, G⟩ := hrel
      have hJl : J.length = k := by
        have := gl_count 12 (X1.take k)
        rw [hJ.out, endsJ_len, this, List.length_take]
        have := hn.out
        omega
      replace hJl := Lib.hid hJl
      have hbP : ByL P := by rw [hP.out]; exact hgby.out k
      have hlP : P.length ≤ 95 := by
        have h1 := hglen.out k
        rw [← hP.out, List.length_take] at h1
        have h2 : min k X1.length ≤ 5 := by omega
        have h3 : (7 + 12) * min k X1.length ≤ 19 * 5 := Nat.mul_le_mul_left _ h2
        omega
      by_cases hgo : k < n ∧ k < 5
      · obtain ⟨hlt, hlt4⟩ := hgo
        have c1' : (k : Int) < n := by omega
        have c2' : (k : Int) < 5 := by omega
        obtain ⟨b, off, p, rfl, hp, z0, z1, z2, sv⟩ := (hr1.bl G).at (k := k) (by rw [← hn.out]; exact hlt)
        have hsn : encs (gl 12 (X1.take (k + 1))) = P ++ encM (goodM p.1 12) := by rw [gl_snoc hp, encs_snoc, hP.out]
        have hsj : endsJ (gl 12 (X1.take (k + 1))) = J ++ [((encs (gl 12 (X1.take (k + 1)))).length : Int)] := by rw [gl_snoc hp, endsJ_snoc, hJ.out]
        obtain ⟨m, v⟩ := p
        dsimp only at *
        obtain ⟨Ab, cb, rfl, hzb, hlb, hmb, hrb⟩ := sv
        have cg := fun V => good1 Ab cb m 12 12 rfl V hrb.ad hlb hmb (by omega)
        have hgo := goodM_ok m (n := 12) (by omega)
        have hgr : ∀ V, Bl wr V → RwB V Ab (goodM m 12).body := fun V g => (hrb.bl g).good 12
        have hel := encM_len (goodM m 12)
        have hgl2 := goodM_len m 12
        generalize goodM m 12 = g at *
        have cw := fun V (q : Bl wr V) => rwrite1 Ab cb g V hgo (hgr V q) hzb
        obtain ⟨gop, gid, gb⟩ := g
        dsimp only at *
        generalize encM ⟨gop, gid, gb⟩ = EM at *
        obtain ⟨mo, mi, mbd⟩ := m
        dsimp only at *
        generalize mbd.length = nb at *
        have hEM : EM.length ≤ 19 := by omega
        replace hel := Lib.hid hel
        rw [hsn, List.length_append] at hsj
        obtain ⟨T, hT⟩ : ∃ T, T = P.length + EM.length := ⟨_, rfl⟩
        rw [← hT] at hsj
        have hT5 : T ≤ 200 := by omega
        replace hT := Lib.hid hT
        replace hsj := Lib.hid hsj
        replace hsn := Lib.hid hsn
        go_wp2_with fail
        refine (cg _).mono ?_
        rintro e w1 ⟨rfl, q1⟩
        go_wp2_with fail
        refine (cw _ q1.bl).mono ?_
        rintro e w2 ⟨Ae, ce, rfl, sve, q2⟩
        have G2 := (G.gr q1).trans q2
        have own2 := (own.bl q1.bl).bl q2
        obtain ⟨Ae2, ce2, hv, hze, _, _, rwe⟩ := sve
        injection hv with h1 h2 h3
        subst h1 h3
        clear h2 cw cg
        have ownJ2 := (ownJ.bl q1.bl).bl q2
        go_wp2_with (first | (at_builtin; refine wp_app_b rfl (.tmp 36) (.tmp 37) rfl A c P rfl w.heap.size own2 Ae EM ce rfl hze rwe (by omega) G2.size ?_; intro A4 c4 w4 own4 by4 hA4; have G4 := app_bl by4 G2 own2.lies (Nat.le_refl _); have ownJ4 := ownJ2.by by4 dj.ne; have dj4 := dj.app hA4 (lies_of ownJ2.lies); have x4 := RwJ.blk (L := [(T : Int)]) (At.new w4 #[.int .i64 (T : Int)] 3); have G5 := G4.alloc (.cells #[.int .i64 (T : Int)] 3); have own5 := own4.bl ((Bl.refl w4).alloc (.cells #[.int .i64 (T : Int)] 3)); have ownJ5 := ownJ4.bl ((Bl.refl w4).alloc (.cells #[.int .i64 (T : Int)] 3)); clear by4 hA4; rw [← hT.out]) | (at_builtin; refine wp_app_j rfl (.tmp 39) (.tmp 42) rfl C d J rfl w.heap.size ownJ5 (some ⟨w4.heap.size, 0, none⟩) [(T : Int)] 1 rfl (by simp) x4 (by rw [hJl.out]; simp; omega) G5.size ?_; intro A6 c6 w6 ownJ6 by6 hA6; have G6 := app_bl by6 G5 ownJ5.lies (Nat.le_refl _); have own6 := own5.by by6 dj4.symm.ne; have dj6 := dj4.symm.app hA6 (lies_of own5.lies)))
        go_roundw
        case rel => exact ⟨k + 1, A4, c4, _, A6, c6, _, by simp, ownJ6, Lib.hid (by rw [hsj.out]), dj6.symm, by omega, by omega, by simp [hT.out], by simp, own6, Lib.hid (by rw [hsn.out]), G6⟩
        case measure => simp [intOf]; omega
      · have hfin5 : X1.take k = X1.take 5 := by
          rcases Nat.lt_or_ge k n with hx | hx
          · rw [show k = 5 by omega]
          · have hkn : k = n := by omega
            have e1 : X1.take k = X1 := by rw [hkn, hn.out]; exact List.take_of_length_le (Nat.le_refl _)
            have e2 : X1.take 5 = X1 := List.take_of_length_le (by rw [← hn.out]; omega)
            rw [e1, e2]
        have hfinJ : Hid (J = endsJ (gl 12 (X1.take 5))) := by rw [← hfin5]; exact hJ
        have hfin : Hid (P = encs (gl 12 (X1.take 5))) := by
          rw [← hfin5]; exact hP
        clear hfin5
        rcases Nat.lt_or_ge k n with hx | hx
        · have hx1 : (k : Int) < n := by omega
          have hx2 : ¬ (k : Int) < 5 := by omega
          go_wp2
          go_meet
          exact ⟨A, c, P, C, d, J, rfl, rfl, ownJ, hfinJ, own, hbP, hlP, hfin, G⟩
        · have hx1 : ¬ (k : Int) < n := by omega
          go_wp2
          go_meet
          exact ⟨A, c, P, C, d, J, rfl, rfl, ownJ, hfinJ, own, hbP, hlP, hfin, G⟩
  case rest =>
    obtain ⟨A, c, P, C, d, J, rfl, rfl, ownJ, hJ, own, hbP, hlP, hP, G⟩ := hcut
    have hok := gl_ok (q := 12) (by omega) (X1.take 5)
    have hcnt := gl_count 12 (X1.take 5)
    rw [List.length_take] at hcnt
    generalize gl 12 (X1.take 5) = l at *
    have hJl : J.length = l.length := by rw [hJ.out]; exact endsJ_len l
    have hl5 : l.length ≤ 5 := by omega
    have ca := fun V => around1 n1 ((P.length : Int) + 1) V wn1 (by omega)
    have hab := around_bd n1 ((P.length : Int) + 1) (by omega)
    generalize around n1 ((P.length : Int) + 1) = q at *
    obtain ⟨Q, rfl⟩ : ∃ Q : Nat, q = Q := ⟨q.toNat, by omega⟩
    have hQ : Q ≤ P.length := by omega
    obtain ⟨s1, s2, s3⟩ := spl_cut l Q hok (by rw [← hP.out]; exact hQ)
    rw [← hP.out] at s1 s2 s3
    have hstep := fun j (h : j < l.length) => wh_step l h Q
    rw [← hJ.out] at hstep
    have hwE := whE_le l Q
    have hwN := whN_le l Q
    have hz : whN (l.take 0) Q = 0 ∧ whE (l.take 0) Q = 0 := by simp [whN, whE]
    have hend : l.take l.length = l := List.take_of_length_le (Nat.le_refl _)
    have hend2 : whN (l.take l.length) Q = whN l Q ∧ whE (l.take l.length) Q = whE l Q := by rw [hend]; exact ⟨rfl, rfl⟩
    have hwj : ∀ j, whN (l.take j) Q ≤ 5 ∧ whE (l.take j) Q ≤ Q := fun j => ⟨Nat.le_trans (whN_le _ _) (by rw [List.length_take]; omega), whE_le _ _⟩
    obtain ⟨wn, hwn⟩ : ∃ f : Nat → Nat, ∀ j, f j = whN (l.take j) Q := ⟨_, fun _ => rfl⟩
    obtain ⟨we, hwe⟩ : ∃ f : Nat → Nat, ∀ j, f j = whE (l.take j) Q := ⟨_, fun _ => rfl⟩
    simp only [← hwn, ← hwe] at hstep hz hend2 hwj
    generalize whN l Q = wN at *
    generalize whE l Q = wE at *
    generalize l.length = nl at *
    have hrP := fun V (g : Bl wc V) => (own.rwb.bl g).good Q
    have hcs : (P.take Q).length = Q := by rw [List.length_take]; omega
    have hcap := own_caps own
    have cs := fun V (g : Bl wc V) => fsplit1 A c (P.take Q) V (hrP V g) (by rw [hcs]; omega) hcap.2.1 (hbP.take Q) (by omega)
    rw [hcs] at cs
    unfold SpQ at cs
    have hZ := spl_few (P.take Q)
    rw [s2, s3] at cs
    generalize (spl (P.take Q)).1 = Z at *
    obtain ⟨hcapL, hcapM, hcap0⟩ := hcap
    have hA0 : A = none → P.length = 0 := fun h => by have := hcap0 h; omega
    obtain ⟨nJ, hnJ⟩ : ∃ n, n = J.length := ⟨_, rfl⟩
    rw [← hnJ] at hJl ⊢
    subst hJl
    replace hnJ := Lib.hid hnJ
    replace hend := Lib.hid hend
    replace hend2 := Lib.hid hend2
    replace hstep := Lib.hid hstep
    replace hz := Lib.hid hz
    replace hwn := Lib.hid hwn
    replace hwe := Lib.hid hwe
    replace s1 := Lib.hid s1
    replace s2 := Lib.hid s2
    replace s3 := Lib.hid s3
    replace hcs := Lib.hid hcs
    replace hwj := Lib.hid hwj
    replace hcap0 := Lib.hid hcap0
    replace hA0 := Lib.hid hA0
    clear hok hcnt hZ
    obtain ⟨np, hnp⟩ : ∃ n, n = P.length := ⟨_, rfl⟩
    rw [← hnp] at ca hab hlP hQ hcapL ⊢
    replace hnp := Lib.hid hnp
    go_wp2_with fail
    refine (ca _).mono ?_
    rintro e w5 ⟨rfl, rfl⟩
    go_wp2_with fail
    go_loop [11, 12, 13] (fun a b i => ∃ j : Nat, j ≤ nJ ∧ a = .int .i64 (wn j) ∧ b = .int .i64 (we j) ∧ i = .int .i64 j) (fun _ _ i => nJ - (intOf i).toNat)
    case atStart => exact ⟨0, Nat.zero_le _, by rw [hz.out.1]; rfl, by rw [hz.out.2]; rfl, rfl⟩
    case round =>
      obtain ⟨j, hj, rfl, rfl, rfl⟩ := hrel
      obtain ⟨h5, hQ2⟩ := hwj.out j
      by_cases hlt : j < nJ
      · obtain ⟨b, off, rfl, hrow⟩ := ownJ.rwb.opened (by rw [← hnJ.out]; omega)
        have cell := hrow.cellD (i := j) (by rw [← hnJ.out]; exact hlt)
        obtain ⟨t1, t2⟩ := hstep.out j hlt
        generalize J.getD j 0 = x at *
        have hlt' : (j : Int) < nJ := by omega
        by_cases hx : x ≤ (Q : Int)
        · rw [if_pos hx] at t1 t2
          replace t1 := Lib.hid t1
          replace t2 := Lib.hid t2
          go_wp2
          go_round
          case rel => exact ⟨j + 1, by omega, by rw [t1.out]; go_num, by rw [t2.out], by go_num⟩
          case measure => simp [intOf]; omega
        · rw [if_neg hx] at t1 t2
          replace t1 := Lib.hid t1
          replace t2 := Lib.hid t2
          have hx' : ((Q : Int) < x) := by omega
          go_wp2
          go_round
          case rel => exact ⟨j + 1, by omega, by rw [t1.out], by rw [t2.out], by go_num⟩
          case measure => simp [intOf]; omega
      · obtain rfl : j = nJ := by omega
        obtain ⟨r1, r2⟩ := hend2.out
        have hAQ : (A = none ∧ np = 0 ∧ Q = 0 ∧ c = 0) ∨ ∃ g, A = some ⟨g, 0, none⟩ := by
          rcases own.lies with h | ⟨g, h, _⟩
          · have h1 := hA0.out h
            rw [← hnp.out] at h1
            exact .inl ⟨h, h1, by omega, hcap0.out h⟩
          · exact .inr ⟨g, h⟩
        have hwE' : wE ≤ 95 := by omega
        clear hab
        rw [r1, r2]
        clear r1 r2 h5 hQ2 hend2
        unfold maxLen at hcapM
        unfold eS at cs
        by_cases hw : wE = Q
        all_goals
          first | rw [if_pos hw] at cs | rw [if_neg hw] at cs
          have hwb := beq_nat wE Q
          first | rw [decide_eq_true hw] at hwb | rw [decide_eq_false hw] at hwb
          replace hw := Lib.hid hw
          rcases hAQ with ⟨rfl, rfl, rfl, rfl⟩ | ⟨g, rfl⟩
          all_goals
            try (exfalso; have := hw.out; omega; done)
          all_goals
            go_wp2_with fail
            refine (cs _ (Bl.refl _)).mono ?_
            rintro e V ⟨A', c', X, rfl, hX, _, _, _, _, gV⟩
            have hxl : X.length = wN := by rw [← s1.out, ← hX, List.length_map]
            rw [hxl]
            clear hX hxl
            go_wp2_with fail
            refine (lives1 _).mono ?_
            rintro e V9 ⟨rfl, g9⟩
            go_wp2
            go_ret
            exact ⟨rfl, (G.trans gV).trans g9⟩

set_option maxRecDepth 100000 in
theorem frameStops_lifted (os : Os) (started : os.Started) (H : Type) (enc : TypeId × Value → H) :
    ReturnsInHanded {} Try.checked os 8 .any (Rows.frameStopsSpec.pre6 enc Try.prog Try.f8 Rows.frameStopsRow.domain false) (Rows.frameStopsSpec.post enc Try.prog Try.f8 false true false false) := by
  refine returnsInHanded_of_change (C := Try.checked) own started (by kernel_rfl) Try.func8
    (ChangeSpec.witness6 (enc := enc) (C := Try.checked) false ⟨#[], #[.slice none 0 0, .int .i64 0], []⟩ 8 (by kernel_rfl) (by kernel_rfl) (by kernel_rfl) (by kernel_rfl)) ?_
  intro W base args ds gs before hval0 hW hcnd _
  have hval : ∀ (j : Nat) t v, Try.f8.params[j]? = some t → args[j]? = some v → Value.okWide Try.prog W .any base t v := hval0
  have hW' := hW
  obtain ⟨p, q, hA0, hV, rfl, hfz, hnd⟩ := hW
  have hA : DataW.TrodAll enc Try.prog W 0 (fun _ => true) true Try.f8.params.toList args.toList ds p := hA0
  rw [Try.params8] at hA hval
  obtain ⟨v0, vs0, d0, ds0, p0, q0, hargs, rfl, rfl, h0, r0⟩ := trodAll_cons hA
  obtain ⟨v1, vs1, d1, ds1, p1, q1, rfl, rfl, rfl, h1, r1⟩ := trodAll_cons r0
  obtain ⟨rfl, rfl, rfl⟩ := trodAll_nil r1
  obtain rfl : args = #[v0, v1] := by cases args; simp_all
  obtain ⟨rfl, rfl⟩ := trodVars_none hV
  obtain ⟨A0, c0, X0, rfl, hr0, hb0⟩ := open_msgs (hval 0 36 v0 rfl rfl) h0
  obtain ⟨n1, rfl, rfl, rfl, un1⟩ := open_int Try.underlying3 (hval 1 3 v1 rfl rfl) h1
  have wn1 := I64.of_wf un1
  clear hA0 hval0
  simp only [List.append_nil] at hW'
  have hlt := hW'.lt
  refine (st_core W A0 c0 X0 hr0 (fun p hp => (hb0 p hp).1) n1 wn1).mono fun e W' ⟨he, hb⟩ => ?_
  subst he
  exact ⟨_, rfl, close_below (pa := p0) (pv := []) hW' (fun _ _ _ => (trodAll_cons_mk (shut_bool Try.underlying4 _) trodAll_mk0)) (fun sp hsp => by
      have := (trodAll_cons_mk (WideElems.Trod_stays laidOut (by kernel_rfl) (of_decide_eq_true (by kernel_rfl)) h0 (fun x hx => Below.same hb (hlt x (by simp [hx]))) (sp' := sp) (fun x hx => hsp x (by simp [hx]))) (trodAll_cons_mk (shut_int Try.underlying3 un1) trodAll_mk0))
      simp only [List.append_nil] at this
      exact this)
    (fun _ _ => rfl) (by simp) hb (ok_one (by kernel_rfl) rfl (okWide_bool_mk Try.underlying4 _))⟩

theorem frameStops_holds : Rows.FrameStopsSaid :=
  OpenClaim.holds_of_wide 8 Try.f8 rfl rfl rfl rfl rfl rfl rfl ⟨rfl, rfl, rfl, rfl, rfl⟩ rfl rfl rfl rfl rfl (by kernel_rfl) Try.func8 (by kernel_rfl)
    (of_decide_eq_true (by kernel_rfl)) (by unfold Func.isWrapper; first | (rw [if_pos (by decide +kernel)]; kernel_rfl) | (rw [if_neg (by decide +kernel)]; exact ⟨rfl, rfl⟩))
    (fun os started H enc _ => frameStops_lifted os started H enc)

#print axioms frameStops_holds

end Go.Proofs.Ytapejibffglnnaa
