/-
  What is proved: the statement FrameCuts: however bytes are cut into pieces, the messages are those of all at once; a length that breaks, breaks the reader, and all behind it is left out. No conditions.
-/
import Derived.Test.YtapejibffglnnaaOq
import Derived.Test.YtapejibffglnnaaOp
import Derived.Test.YtapejibffglnnaaOn
import Derived.Test.YtapejibffglnnaaOe
import Derived.Test.YtapejibffglnnaaOh
import Derived.Test.YtapejibffglnnaaOm
import Derived.Test.YtapejibffglnnaaOg
import Derived.Test.YtapejibffglnnaaOf
import Derived.Test.YtapejibffglnnaaOk
import Derived.Test.YtapejibffglnnaaOi
import Derived.Test.YtapejibffglnnaaOja
import Derived.Test.YtapejibffglnnaaOl
import Derived.Deep.RegionHeld3
import Derived.Lib.QuietBelow
import Derived.Deep.RegionLaw
import Derived.Deep.CutBlock
import Derived.Deep.DeepCutAuto
namespace Go.Proofs.Ytapejibffglnnaa
open Go.ChangeShapes Go.WideShapes Go.ChangeAt Go.RowKit Go.Joins Go.Sort
attribute [local go_sem ↓] run_min2 run_max2

set_option maxRecDepth 100000 in
set_option maxHeartbeats 8000000 in
theorem cu_core (w : World) (A1 : Option Addr) (c1 : Nat) (X1 : List (Ms × Value)) (hr1 : Mv w A1 X1) (hb1 : ∀ p ∈ X1, ByL p.1.body) (A2 : Option Addr) (c2 : Nat) (L2 : List Int) (hz2 : A2 = none → c2 = 0) (hl2 : L2.length ≤ c2) (hm2 : c2 ≤ maxLen) (hr2 : RwB w A2 L2) (hb2 : ByL L2)
    (A3 : Option Addr) (c3 : Nat) (L3 : List Int) (hl3 : L3.length ≤ c3) (_ : c3 ≤ maxLen) (hr3 : RwJ w A3 L3) (hb3 : ∀ x ∈ L3, I64 x) :
    Calls Try.prog 5 #[.slice A1 X1.length c1, .slice A2 L2.length c2, .slice A3 L3.length c3] w fun e w' => e = .returned (.bool true) ∧ Bl w w' := by
  obtain ⟨n, hn⟩ : ∃ n, n = X1.length := ⟨_, rfl⟩
  rw [← hn]
  replace hn := Lib.hid hn
  have hglen := fun k => gl_len 20 (X1.take k)
  have hgby := fun k => gl_by (q := 20) (by omega) (X1.take k) (fun p hp => hb1 p (List.mem_of_mem_take hp))
  replace hglen := Lib.hid hglen
  replace hgby := Lib.hid hgby
  have cf := fun w' => few1 A2 c2 L2 20 20 rfl w' hr2.ad hl2 hm2 (by omega)
  have hfb := hb2.take 20
  have hfr : ∀ V, Bl w V → RwB V A2 (L2.take 20) := fun V g => (hr2.bl g).good 20
  have hfl : (L2.take 20).length ≤ 20 := by rw [List.length_take]; omega
  generalize L2.take 20 = F2 at *
  generalize L2.length = n2 at *
  obtain ⟨n3, hn3⟩ : ∃ n, n = L3.length := ⟨_, rfl⟩
  rw [← hn3] at hl3 ⊢
  replace hn3 := Lib.hid hn3
  replace hb3 := Lib.hid hb3
  go_enter Try.func5, Try.ntmps5
  go_upto_block 0 with fail
  go_cut [7] (fun o wx => ∃ (A : Option Addr) (c : Nat) (P : List Int), o = .slice A P.length c ∧ OwB wx w.heap.size A c P ∧ ByL P ∧ P.length ≤ 108 ∧ Hid (P = encs (gl 20 (X1.take 4))) ∧ Bl w wx)
  case first =>
    go_wp2
    go_loopw [7, 8] (fun o i wr => ∃ (k : Nat) (A : Option Addr) (c : Nat) (P : List Int), k ≤ n ∧ k ≤ 4 ∧ o = .slice A P.length c ∧ i = .int .i64 k ∧ OwB wr w.heap.size A c P ∧ Hid (P = encs (gl 20 (X1.take k))) ∧ Bl w wr) (fun _ i _ => n - (intOf i).toNat)
    case atStart => exact ⟨0, none, 0, [], Nat.zero_le _, by omega, rfl, rfl, OwB.nil _ _, Lib.hid (by simp [gl, encs]), Bl.refl _⟩
    case round =>
      obtain ⟨k, A, c, P, hk, hk4, rfl, rfl, own, hP, G⟩ := hrel
      have hbP : ByL P := by rw [hP.out]; exact hgby.out k
      have hlP : P.length ≤ 108 := by
        have h1 := hglen.out k
        rw [← hP.out, List.length_take] at h1
        have h2 : min k X1.length ≤ 4 := by omega
        have h3 : (7 + 20) * min k X1.length ≤ 27 * 4 := Nat.mul_le_mul_left _ h2
        omega
      by_cases hgo : k < n ∧ k < 4
      · obtain ⟨hlt, hlt4⟩ := hgo
        have c1' : (k : Int) < n := by omega
        have c2' : (k : Int) < 4 := by omega
        obtain ⟨b, off, p, rfl, hp, z0, z1, z2, sv⟩ := (hr1.bl G).at (k := k) (by rw [← hn.out]; exact hlt)
        have hsn : encs (gl 20 (X1.take (k + 1))) = P ++ encM (goodM p.1 20) := by rw [gl_snoc hp, encs_snoc, hP.out]
        obtain ⟨m, v⟩ := p
        dsimp only at *
        obtain ⟨Ab, cb, rfl, hzb, hlb, hmb, hrb⟩ := sv
        have cg := fun V => good1 Ab cb m 20 20 rfl V hrb.ad hlb hmb (by omega)
        have hgo := goodM_ok m (n := 20) (by omega)
        have hgr : ∀ V, Bl wr V → RwB V Ab (goodM m 20).body := fun V g => (hrb.bl g).good 20
        have hel := encM_len (goodM m 20)
        have hgl2 := goodM_len m 20
        generalize goodM m 20 = g at *
        have cw := fun V (q : Bl wr V) => rwrite1 Ab cb g V hgo (hgr V q) hzb
        obtain ⟨gop, gid, gb⟩ := g
        dsimp only at *
        generalize encM ⟨gop, gid, gb⟩ = EM at *
        obtain ⟨mo, mi, mbd⟩ := m
        dsimp only at *
        generalize mbd.length = nb at *
        have hEM : EM.length ≤ 27 := by omega
        replace hel := Lib.hid hel
        replace hsn := Lib.hid hsn
        go_wp2_with fail
        refine (cg _).mono ?_
        rintro e w1 ⟨rfl, q1⟩
        go_wp2_with fail
        refine (cw _ q1.bl).mono ?_
        rintro e w2 ⟨Ae, ce, rfl, sve, q2⟩
        have G2 := (G.gr q1).trans q2
        have own2 := (own.bl q1.bl).bl q2
        obtain ⟨Ae2, ce2, hv, hze, _, _, rwe⟩ := sve
        injection hv with h1 h2 h3
        subst h1 h3
        clear h2 cw cg
        go_wp2_with (at_builtin; refine wp_app_b rfl (.tmp 40) (.tmp 41) rfl A c P rfl w.heap.size own2 Ae EM ce rfl hze rwe (by omega) G2.size ?_; intro A4 c4 w4 own4 by4 _; have G4 := app_bl by4 G2 own2.lies (Nat.le_refl _))
        go_roundw
        case rel => exact ⟨k + 1, A4, c4, _, by omega, by omega, by simp, by simp, own4, Lib.hid (by rw [hsn.out]), G4⟩
        case measure => simp [intOf]; omega
      · have hfin : Hid (P = encs (gl 20 (X1.take 4))) := by
          refine Lib.hid ?_
          rw [hP.out]
          rcases Nat.lt_or_ge k n with hx | hx
          · rw [show k = 4 by omega]
          · have hkn : k = n := by omega
            have e1 : X1.take k = X1 := by rw [hkn, hn.out]; exact List.take_of_length_le (Nat.le_refl _)
            have e2 : X1.take 4 = X1 := List.take_of_length_le (by rw [← hn.out]; omega)
            rw [e1, e2]
        rcases Nat.lt_or_ge k n with hx | hx
        · have hx1 : (k : Int) < n := by omega
          have hx2 : ¬ (k : Int) < 4 := by omega
          go_wp2
          go_meet
          exact ⟨A, c, P, rfl, own, hbP, hlP, hfin, G⟩
        · have hx1 : ¬ (k : Int) < n := by omega
          go_wp2
          go_meet
          exact ⟨A, c, P, rfl, own, hbP, hlP, hfin, G⟩
  case rest =>
    obtain ⟨A, c, P0, rfl, own, hbP, hlP, hPe, G⟩ := hcut
    clear hPe
    obtain ⟨T, hT⟩ : ∃ T, T = P0.length + F2.length := ⟨_, rfl⟩
    replace hT := Lib.hid hT
    go_wp2_with (first | (go_at_call 14; refine (cf _).mono ?_; rintro e w9 ⟨rfl, rfl⟩) | (at_builtin; refine wp_app_b rfl (.tmp 43) (.tmp 45) rfl A c P0 rfl w.heap.size own A2 F2 c2 rfl hz2 (hfr _ G) (by omega) G.size ?_; intro A9 c9 w9 own9 by9 _; have G9 := app_bl by9 G own.lies (Nat.le_refl _); rw [← hT.out]))
    have hEF : (P0 ++ F2).length = T := by rw [hT.out, List.length_append]
    have hbP9 := hbP.app hfb
    have hTl : T ≤ 128 := by rw [hT.out]; omega
    clear own hbP hfb hfr hT cf
    generalize P0 ++ F2 = P at *
    replace hEF := Lib.hid hEF
    have hcap := own_caps own9
    rw [hEF.out] at hcap
    have crs := rsplit1 A9 c9 P w9 own9.rwb (by rw [hEF.out]; exact hcap.1) hcap.2.1 hbP9 (by rw [hEF.out]; omega)
    have hSle := spl_le P
    have hRe := spl_e P
    rw [hEF.out] at crs hSle
    unfold SpQ at crs
    obtain ⟨R, hR⟩ : ∃ R, R = (spl P).2.2 := ⟨_, rfl⟩
    obtain ⟨S, hS⟩ : ∃ S, S = (spl P).2.1 := ⟨_, rfl⟩
    rw [← hR, ← hS] at crs
    rw [← hS] at hSle
    rw [← hR] at hRe
    replace hR := Lib.hid hR
    replace hS := Lib.hid hS
    refine crs.mono ?_
    clear crs
    rintro e w10 ⟨Aw, ct, Xt, rfl, hXt, mvt, _, _, _, q10⟩
    have G10 := G9.trans q10
    have own10 := own9.bl q10
    clear own9 G9 q10 by9 G
    obtain ⟨r, hr⟩ : ∃ r, r = w10.heap.size := ⟨_, rfl⟩
    have b0 := At.new w10 #[.slice none 0 0, .bool false] 45
    have G0 : Bl w10 (w10.alloc (.cells #[.slice none 0 0, .bool false] 45)) := (Bl.refl w10).alloc _
    rw [← hr] at b0
    replace hXt := Lib.hid hXt
    have hcapL := hcap.1
    have hcapM := hcap.2.1
    unfold maxLen at hcapM
    clear hcap
    have hr10 : w10.heap.size ≤ r := by omega
    go_wp2_with fail
    rw [← hr]
    generalize w10.alloc (.cells #[.slice none 0 0, .bool false] 45) = W0 at *
    replace hr := Lib.hid hr
    go_loopw [15, 16, 17] (fun g a i wr => ∃ (p j : Nat) (Ag : Option Addr) (cg : Nat) (Xg : List (Ms × Value)) (lA : Option Addr) (lc : Nat) (F : List Int) (B : Bool), p ≤ T ∧ j ≤ p ∧ g = .slice Ag Xg.length cg ∧ a = .int .i64 p ∧ i = .int .i64 j ∧
      OwM wr (r + 1) Ag cg Xg ∧ Fr (r + 1) Xg ∧ Hid (Xg.map Prod.fst = (spl (P.take p)).1) ∧ At wr r #[.slice lA F.length lc, .bool B] 45 ∧ Hid (F = lfO (P.take p)) ∧ Hid (B = brO (P.take p)) ∧ Sv wr (.slice lA F.length lc) F ∧ (F = [] ∨ lA.map (·.block) ≠ some r) ∧ Bl w10 wr) (fun _ a _ _ => T - (intOf a).toNat)
    case atStart =>
      refine ⟨0, 0, none, 0, [], none, 0, [], false, Nat.zero_le _, Nat.le_refl _, rfl, rfl, rfl, OwM.nil _ _, Fr.nil _, Lib.hid ?_, b0, Lib.hid ?_, Lib.hid ?_, Sv.nil _, .inl rfl, G0⟩
      · simp [spl_nil]
      · simp [lfO, brO, spl_nil]
      · simp [brO, spl_nil, eF]
    case round =>
      clear b0 G0
      obtain ⟨p, j, Ag, cg, Xg, lA, lc, F, B, hp, hj, rfl, rfl, rfl, ownM, fr, hXg, bR, hF, hB, svL, hfar, GX⟩ := hrel
      by_cases hlt : p < T
      · obtain ⟨g, rfl, hgB, _⟩ : ∃ g, A9 = some ⟨g, 0, none⟩ ∧ w.heap.size ≤ g ∧ g < w10.heap.size := by
          rcases own10.lies with h | h
          · exfalso
            rcases own_addr own10 with ⟨_, _, h1⟩ | ⟨g, h1, _⟩
            · rw [hEF.out] at h1; omega
            · rw [h] at h1; cases h1
          · exact h
        obtain ⟨b9, off9, hA9, hrowP⟩ := (own10.rwb.bl GX).opened (by rw [hEF.out]; omega)
        injection hA9 with hA9
        injection hA9 with h1 h2
        subst h1 h2
        have hpT : (p : Int) < (T : Int) := by omega
        -- how many bytes are put
        have hsz : ∃ q : Nat, q < 9 ∧ ((n3 = 0 ∧ q = 0) ∨ (0 < n3 ∧ ∃ (k : Nat) (x : Int), k < n3 ∧ k = j % n3 ∧ L3.getD k 0 = x ∧ I64 x ∧ around x 9 = (q : Int) ∧ ∃ b off, A3 = some ⟨b, off, none⟩ ∧ wr.cell? ⟨b, off + k, none⟩ = some (.int .i64 x))) := by
          by_cases h0 : n3 = 0
          · exact ⟨0, by omega, .inl ⟨h0, rfl⟩⟩
          · obtain ⟨b, off, hA3, hrow⟩ := (hr3.bl (G10.trans GX)).opened (by rw [← hn3.out]; omega)
            have hk : j % n3 < n3 := Nat.mod_lt _ (by omega)
            have hc := hrow.cellD (i := j % n3) (by rw [← hn3.out]; exact hk)
            have hx : I64 (L3.getD (j % n3) 0) := by
              rw [List.getD_eq_getElem?_getD]
              obtain ⟨y, hy⟩ := list_at (l := L3) (k := j % n3) (by rw [← hn3.out]; exact hk)
              rw [hy]
              exact hb3.out y (List.mem_of_getElem? hy)
            have hab := around_bd (L3.getD (j % n3) 0) 9 (by omega)
            exact ⟨(around (L3.getD (j % n3) 0) 9).toNat, by omega, .inr ⟨by omega, j % n3, _, hk, rfl, rfl, hx, by omega, b, off, hA3, hc⟩⟩
        obtain ⟨q, hq9, hsz⟩ := hsz
        obtain ⟨e, he⟩ : ∃ e : Nat, e = min (p + (1 + q)) T := ⟨_, rfl⟩
        have hpe : p < e ∧ e ≤ T := by omega
        have hmin1 : min ((p : Int) + (1 + (q : Int))) (T : Int) = (e : Int) := by omega
        have hmin2 : q = 0 → min ((p : Int) + 1) (T : Int) = (e : Int) := fun h => by omega
        replace he := Lib.hid he
        -- the bytes that are put, and what the reader tells of them
        have hM : (P.drop p).take (e - p) = (P.take e).drop p := by rw [List.drop_take]
        have hMl : ((P.drop p).take (e - p)).length = e - p := by rw [List.length_take, List.length_drop, hEF.out]; omega
        have hPe : P.take e = P.take p ++ (P.drop p).take (e - p) := by
          rw [show e = p + (e - p) by omega, List.take_add, Nat.add_sub_cancel_left]
        have hbM : ByL ((P.drop p).take (e - p)) := (hbP9.drop p).take _
        have hrM := (hrowP.drop p).take (e - p)
        obtain ⟨t1, t2, t3⟩ := put_step (P.take p) ((P.drop p).take (e - p))
        rw [← hPe, ← hF.out, ← hB.out] at t1 t2 t3
        rw [← hXg.out] at t1
        have hFl : F.length ≤ 128 := by
          have : (lfO (P.take p)).length ≤ (P.take p).length := by
            unfold lfO; split
            · exact Nat.zero_le _
            · rw [List.length_drop]; omega
          rw [hF.out]
          rw [List.length_take] at this
          omega
        have hbF : ByL F := by
          rw [hF.out]; unfold lfO; split
          · exact ByL.nil
          · exact (hbP9.take p).drop _
        have hBF : B = true → F = [] := fun h => by rw [hF.out]; unfold lfO; rw [← hB.out, h]; rfl
        clear hM hPe
        generalize (P.drop p).take (e - p) = M at *
        obtain ⟨lA2, lc2, hv, hnL, hlL, hmL, hrL⟩ := svL
        injection hv with h1 h2 h3
        subst h1 h3
        clear h2
        have hrlt := bR.lt
        have cp := fun (V : World) (gv : Gr wr V) => show Calls Try.prog 24 #[.pointer (some ⟨r, 0, none⟩), .slice (some ⟨g, p, none⟩) M.length (c9 - p)] V (PuR V r (putM F B M) (putB F B M) (putL F B M)) by
          cases hBv : B with
          | true =>
            have hFn := hBF hBv
            subst hFn
            subst hBv
            exact put_brk r lA lc _ M V (bR.gr gv) hmL hnL
          | false =>
            subst hBv
            exact put_whole r lA lc F (some ⟨g, p, none⟩) (c9 - p) M V (bR.gr gv) (hrL.bl gv.bl) hlL hnL hfar ((show RwB wr (some ⟨g, p, none⟩) M from .inr ⟨g, p, rfl, by simpa using hrM⟩).bl gv.bl) (by simp) (by omega) hbF hbM
        rw [hMl] at cp
        unfold PuR at cp
        have hpc : p < c9 := by omega
        have hepc : e ≤ c9 := by omega
        have hXgl : Xg.length ≤ 128 := by
          have h1 := congrArg List.length hXg.out
          have h2 := spl_few (P.take p)
          rw [List.length_map] at h1
          rw [List.length_take] at h2
          omega
        have hpp : ∀ Z : List Ms, Z = putM F B M → Z.length ≤ 1000 := fun Z hZ => by
          have h1 := congrArg List.length t1
          have h2 := spl_few (P.take e)
          rw [List.length_append] at h1
          rw [List.length_take] at h2
          rw [hZ]; omega
        replace hpp := Lib.hid hpp
        replace t1 := Lib.hid t1
        replace t2 := Lib.hid t2
        replace t3 := Lib.hid t3
        replace hMl := Lib.hid hMl
        replace hBF := Lib.hid hBF
        rcases hsz with ⟨rfl, rfl⟩ | ⟨hn3p, k, x, hk, hkj, hx, wx, hax, b, off, rfl, hcell⟩
        · have hm := hmin2 rfl
          clear hmin1 hmin2
          go_wp2_with fail
          refine (cp wr (Gr.refl wr)).mono ?_
          clear cp
          rintro e1 w1 ⟨A', c', X, lA', lc', rfl, hX, mvX, hc', frX, bR1, sv1, hf1, q1⟩
          have hXl := hpp.out _ hX
          rw [List.length_map] at hXl
          have hAg := ownM.lies
          have hAgr : Ag = none ∨ Ag.map (·.block) ≠ some r := by
            rcases hAg with h | ⟨gg, rfl, h1, _⟩
            · exact .inl h
            · refine .inr (fun h => ?_)
              simp at h; omega
          have ownM1 := ownM.by q1 hAgr (fr.far (Nat.lt_succ_self r))
          have hfarX : ∀ p ∈ X, p.1.body = [] ∨ Ag = none ∨ p.2.ownBlock ≠ Ag.map (·.block) := fun p hp => by
            rcases frX p hp with h | ⟨kk, h1, h2⟩
            · exact .inl h
            · rcases hAg with h | ⟨gg, rfl, _, h3⟩
              · exact .inr (.inl h)
              · refine .inr (.inr ?_)
                rw [h1]; intro h; simp at h; omega
          have hr1s : r + 1 ≤ w1.heap.size := bR1.lt
          have hrs : r + 1 ≤ wr.heap.size := bR.lt
          go_wp2_with (at_builtin; refine wp_app_m rfl (.tmp 77) (.tmp 82) rfl Ag cg Xg rfl (r + 1) ownM1 A' X c' rfl hc' mvX hfarX (by omega) hr1s ?_; intro A4 c4 w4 own4 by4 _)
          go_roundw
          case rel =>
            have hAgk : ∀ k, Ag.map (·.block) = some k → r + 1 ≤ k ∧ k < wr.heap.size := fun k hk => by
              rcases hAg with rfl | ⟨gg, rfl, h1, h2⟩
              · cases hk
              · simp at hk; omega
            have bR4 := bR1.grown by4 (fun h => by have := hAgk r h.symm; omega)
            have sv4 := sv1.by by4 (by
              rcases hf1 with h | ⟨kk, h1, h2⟩
              · exact .inl h
              · refine .inr (.inr ?_)
                rw [slice_block, h1]; intro h; have := hAgk kk h.symm; omega)
            have GX4 := (GX.grown q1 (fun k hk => by cases hk; exact hr10)).grown by4 (fun k hk => by have := hAgk k hk; omega)
            refine ⟨e, j + 1, A4, c4, Xg ++ X, lA', lc', putL F B M, putB F B M, by omega, by omega, by simp, by simp, by simp, own4, fr.app (frX.le hrs), Lib.hid ?_, bR4, t3, t2, sv4, ?_, GX4⟩
            · rw [List.map_append, hX]; exact t1.out
            · rcases hf1 with h | ⟨kk, h1, h2⟩
              · exact .inl h
              · refine .inr (fun h => ?_)
                rw [h1] at h; injection h with h; omega
          case measure => simp [intOf]; omega
        · have hkn : ((j : Int) % (n3 : Int)) = (k : Int) := by omega
          have hkt : ((j : Int).tmod (n3 : Int)) = (k : Int) := by rw [Int.tmod_eq_emod_of_nonneg (by omega)]; exact hkn
          have ca := fun V => around1 x 9 V wx (by omega)
          rw [hax] at ca
          replace hax := Lib.hid hax
          replace hx := Lib.hid hx
          replace hkj := Lib.hid hkj
          have hn3q : (0 : Int) < (n3 : Int) := by omega
          clear hmin2
          go_wp2_with fail
          refine (ca _).mono ?_
          rintro e1 w0 ⟨rfl, rfl⟩
          go_wp2_with fail
          refine (cp wr (Gr.refl wr)).mono ?_
          clear cp
          rintro e1 w1 ⟨A', c', X, lA', lc', rfl, hX, mvX, hc', frX, bR1, sv1, hf1, q1⟩
          have hXl := hpp.out _ hX
          rw [List.length_map] at hXl
          have hAg := ownM.lies
          have hAgr : Ag = none ∨ Ag.map (·.block) ≠ some r := by
            rcases hAg with h | ⟨gg, rfl, h1, _⟩
            · exact .inl h
            · refine .inr (fun h => ?_)
              simp at h; omega
          have ownM1 := ownM.by q1 hAgr (fr.far (Nat.lt_succ_self r))
          have hfarX : ∀ p ∈ X, p.1.body = [] ∨ Ag = none ∨ p.2.ownBlock ≠ Ag.map (·.block) := fun p hp => by
            rcases frX p hp with h | ⟨kk, h1, h2⟩
            · exact .inl h
            · rcases hAg with h | ⟨gg, rfl, _, h3⟩
              · exact .inr (.inl h)
              · refine .inr (.inr ?_)
                rw [h1]; intro h; simp at h; omega
          have hr1s : r + 1 ≤ w1.heap.size := bR1.lt
          have hrs : r + 1 ≤ wr.heap.size := bR.lt
          go_wp2_with (at_builtin; refine wp_app_m rfl (.tmp 77) (.tmp 82) rfl Ag cg Xg rfl (r + 1) ownM1 A' X c' rfl hc' mvX hfarX (by omega) hr1s ?_; intro A4 c4 w4 own4 by4 _)
          go_roundw
          case rel =>
            have hAgk : ∀ k, Ag.map (·.block) = some k → r + 1 ≤ k ∧ k < wr.heap.size := fun k hk => by
              rcases hAg with rfl | ⟨gg, rfl, h1, h2⟩
              · cases hk
              · simp at hk; omega
            have bR4 := bR1.grown by4 (fun h => by have := hAgk r h.symm; omega)
            have sv4 := sv1.by by4 (by
              rcases hf1 with h | ⟨kk, h1, h2⟩
              · exact .inl h
              · refine .inr (.inr ?_)
                rw [slice_block, h1]; intro h; have := hAgk kk h.symm; omega)
            have GX4 := (GX.grown q1 (fun k hk => by cases hk; exact hr10)).grown by4 (fun k hk => by have := hAgk k hk; omega)
            refine ⟨e, j + 1, A4, c4, Xg ++ X, lA', lc', putL F B M, putB F B M, by omega, by omega, by simp, by simp, by simp, own4, fr.app (frX.le hrs), Lib.hid ?_, bR4, t3, t2, sv4, ?_, GX4⟩
            · rw [List.map_append, hX]; exact t1.out
            · rcases hf1 with h | ⟨kk, h1, h2⟩
              · exact .inl h
              · refine .inr (fun h => ?_)
                rw [h1] at h; injection h with h; omega
          case measure => simp [intOf]; omega
      · obtain rfl : p = T := by omega
        have hPT : P.take p = P := List.take_of_length_le (by rw [hEF.out]; exact Nat.le_refl _)
        rw [hPT] at hXg hF hB
        have hend := put_end P
        rw [← hF.out, ← hB.out] at hend
        have hdec : B = decide (R = eF) := by rw [hB.out, hR.out]; rfl
        have hFS : B = false → F.length = p - S := fun h => by
          rw [hF.out]; unfold lfO; rw [← hB.out, h]
          simp only [if_neg Bool.false_ne_true]
          rw [List.length_drop, hEF.out, hS.out]
        have hFT : B = true → F = [] := fun h => by rw [hF.out]; unfold lfO; rw [← hB.out, h]; rfl
        have hbF : ByL F := by
          rw [hF.out]; unfold lfO; split
          · exact ByL.nil
          · exact hbP9.drop _
        have cs := fun V (g : Bl wr V) => sameAll1 Ag Aw cg ct Xg Xt V (ownM.mv.bl g) (mvt.bl (GX.trans g)) (hXg.out.trans hXt.out.symm) (by
          have h1 := congrArg List.length hXg.out
          have h2 := spl_few P
          rw [List.length_map] at h1
          rw [hEF.out] at h2
          omega)
        obtain ⟨lA2, lc2, hv, hnL, hlL, hmL, hrL⟩ := svL
        injection hv with h1 h2 h3
        subst h1 h3
        clear h2 hPT
        have hFp : F.length ≤ p := by
          cases hBv : B with
          | true => rw [hFT hBv]; simp
          | false => rw [hFS hBv]; omega
        have cp : ∀ V, Gr wr V → Calls Try.prog 24 #[.pointer (some ⟨r, 0, none⟩), .slice none 0 0] V (PuR V r (putM F B []) (putB F B []) (putL F B [])) := fun V gv => by
          cases hBv : B with
          | true =>
            have hFn := hFT hBv
            subst hFn
            subst hBv
            exact put_brk r lA lc _ [] V (bR.gr gv) hmL hnL
          | false =>
            subst hBv
            exact put_whole r lA lc F none 0 [] V (bR.gr gv) (hrL.bl gv.bl) hlL hnL hfar (.inl rfl) (fun _ => rfl) (by simp; omega) hbF ByL.nil
        rw [hend] at cp
        unfold PuR at cp
        have z0 := bR.cell 0
        have z1 := bR.cell 1
        simp only [List.getElem?_toArray, List.getElem?_cons_zero, List.getElem?_cons_succ] at z0 z1
        unfold eS eF at hRe
        unfold eF at hdec
        have hge : ¬ (p : Int) < (p : Int) := by omega
        have hSi : (S : Int) ≤ (p : Int) := by omega
        have hFlen : B = false → ((F.length : Int) == (p : Int) - (S : Int)) = true := fun h => by
          have := hFS h
          rw [beq_iff_eq]; omega
        have hFlen0 : B = true → F.length = 0 := fun h => by rw [hFT h]; rfl
        clear hFS hFT hFp hend
        generalize F.length = nF at *
        replace hR := Lib.hid hR
        rcases hRe with rfl | rfl | rfl
        all_goals
          obtain hBv | hBv : B = false ∨ B = true := by cases B <;> simp
          all_goals
            try (exfalso; rw [hBv] at hdec; exact absurd hdec (by decide))
        all_goals
          first | (have hx := hFlen hBv; clear hFlen hFlen0) | skip
          first | (have hx := hFlen0 hBv; clear hFlen hFlen0; subst hx) | skip
          subst hBv
          clear hdec
          go_wp2_with fail
          refine (cs _ (Bl.refl _)).mono ?_
          rintro e1 w1 ⟨rfl, g1⟩
          have z1' := (bR.gr g1).cell 1
          simp only [List.getElem?_toArray, List.getElem?_cons_zero, List.getElem?_cons_succ] at z1'
          go_wp2_with fail
          refine (broken1 r _ _ z1').mono ?_
          rintro e1 w2 ⟨rfl, g2⟩
          have z0' := ((bR.gr g1).gr g2).cell 0
          simp only [List.getElem?_toArray, List.getElem?_cons_zero] at z0'
          go_wp2_with fail
          refine (left1 r lA _ lc _ z0').mono ?_
          rintro e1 w3 ⟨rfl, g3⟩
          go_wp2_with fail
          refine (cp _ ((g1.trans g2).trans g3)).mono ?_
          rintro e1 w4 ⟨A4, c4, X4, lA4, lc4, rfl, hX4, _, _, _, _, _, _, q4⟩
          obtain rfl : X4 = [] := by simpa using hX4
          have G4 := (GX.gr ((g1.trans g2).trans g3)).grown q4 (fun k hk => by cases hk; exact hr10)
          go_wp2_with fail
          refine (lives1 _).mono ?_
          rintro e1 w5 ⟨rfl, g5⟩
          go_wp2
          go_ret
          exact ⟨rfl, (G10.trans G4).trans g5⟩

set_option maxRecDepth 100000 in
theorem frameCuts_lifted (os : Os) (started : os.Started) (H : Type) (enc : TypeId × Value → H) :
    ReturnsInHanded {} Try.checked os 5 .any (Rows.frameCutsSpec.pre6 enc Try.prog Try.f5 Rows.frameCutsRow.domain false) (Rows.frameCutsSpec.post enc Try.prog Try.f5 false true false false) := by
  refine returnsInHanded_of_change (C := Try.checked) own started (by kernel_rfl) Try.func5
    (ChangeSpec.witness6 (enc := enc) (C := Try.checked) false ⟨#[], #[.slice none 0 0, .slice none 0 0, .slice none 0 0], []⟩ 8 (by kernel_rfl) (by kernel_rfl) (by kernel_rfl) (by kernel_rfl)) ?_
  intro W base args ds gs before hval0 hW hcnd _
  have hval : ∀ (j : Nat) t v, Try.f5.params[j]? = some t → args[j]? = some v → Value.okWide Try.prog W .any base t v := hval0
  have hW' := hW
  obtain ⟨p, q, hA0, hV, rfl, hfz, hnd⟩ := hW
  have hA : DataW.TrodAll enc Try.prog W 0 (fun _ => true) true Try.f5.params.toList args.toList ds p := hA0
  rw [Try.params5] at hA hval
  obtain ⟨v0, vs0, d0, ds0, p0, q0, hargs, rfl, rfl, h0, r0⟩ := trodAll_cons hA
  obtain ⟨v1, vs1, d1, ds1, p1, q1, rfl, rfl, rfl, h1, r1⟩ := trodAll_cons r0
  obtain ⟨v2, vs2, d2, ds2, p2, q2, rfl, rfl, rfl, h2, r2⟩ := trodAll_cons r1
  obtain ⟨rfl, rfl, rfl⟩ := trodAll_nil r2
  obtain rfl : args = #[v0, v1, v2] := by cases args; simp_all
  obtain ⟨rfl, rfl⟩ := trodVars_none hV
  obtain ⟨A0, c0, X0, rfl, hr0, hb0⟩ := open_msgs (hval 0 36 v0 rfl rfl) h0
  obtain ⟨A1, c1, L1, rfl, hz1, hl1, hm1, hr1, hb1⟩ := open_bytes (hval 1 22 v1 rfl rfl) h1
  obtain ⟨A2, c2, L2, rfl, hz2, hl2, hm2, hr2, hb2⟩ := open_nums' Try.underlying43 Try.underlying3 cellsInt (hval 2 43 v2 rfl rfl) h2
  clear hA0 hval0
  simp only [List.append_nil] at hW'
  have hlt := hW'.lt
  refine (cu_core W A0 c0 X0 hr0 (fun p hp => (hb0 p hp).1) A1 c1 L1 hz1 hl1 hm1 hr1 hb1 A2 c2 L2 hl2 hm2 hr2 (fun x hx => I64.of_wf (hb2 x hx))).mono fun e W' ⟨he, hb⟩ => ?_
  subst he
  exact ⟨_, rfl, close_below (pa := p0 ++ (p1 ++ p2)) (pv := []) hW' (fun _ _ _ => (trodAll_cons_mk (shut_bool Try.underlying4 _) trodAll_mk0)) (fun sp hsp => by
      have := (trodAll_cons_mk (WideElems.Trod_stays laidOut (by kernel_rfl) (of_decide_eq_true (by kernel_rfl)) h0 (fun x hx => Below.same hb (hlt x (by simp [hx]))) (sp' := sp) (fun x hx => hsp x (by simp [hx]))) (trodAll_cons_mk (WideElems.Trod_stays laidOut (by kernel_rfl) (of_decide_eq_true (by kernel_rfl)) h1 (fun x hx => Below.same hb (hlt x (by simp [hx]))) (sp' := sp) (fun x hx => hsp x (by simp [hx]))) (trodAll_cons_mk (WideElems.Trod_stays laidOut (by kernel_rfl) (of_decide_eq_true (by kernel_rfl)) h2 (fun x hx => Below.same hb (hlt x (by simp [hx]))) (sp' := sp) (fun x hx => hsp x (by simp [hx]))) trodAll_mk0)))
      simp only [List.append_nil] at this
      exact this)
    (fun _ _ => rfl) (by simp) hb (ok_one (by kernel_rfl) rfl (okWide_bool_mk Try.underlying4 _))⟩

theorem frameCuts_holds : Rows.FrameCutsSaid :=
  OpenClaim.holds_of_wide 5 Try.f5 rfl rfl rfl rfl rfl rfl rfl ⟨rfl, rfl, rfl, rfl, rfl⟩ rfl rfl rfl rfl rfl (by kernel_rfl) Try.func5 (by kernel_rfl)
    (of_decide_eq_true (by kernel_rfl)) (by unfold Func.isWrapper; first | (rw [if_pos (by decide +kernel)]; kernel_rfl) | (rw [if_neg (by decide +kernel)]; exact ⟨rfl, rfl⟩))
    (fun os started H enc _ => frameCuts_lifted os started H enc)

#print axioms frameCuts_holds

end Go.Proofs.Ytapejibffglnnaa
