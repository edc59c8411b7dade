/-
  What is proved: the statement RegionHulls: a region is covered by the one rectangle round it, which touches it at each side. No conditions.
-/
import Derived.Test.YtbhekpcjdpbahaaHm
namespace Go.Proofs.Ytbhekpcjdpbahaa
open Go.ChangeShapes Go.WideShapes Go.ChangeAt Go.RowKit Go.Joins Go.Sort Go.Deep

theorem nil_regH : IsReg [] := ⟨[], ⟨Wk.nil, by simp⟩, rfl⟩

set_option maxRecDepth 100000 in
set_option maxHeartbeats 16000000 in
theorem hulls_core (A : Option Addr) (ca : Nat) (a : List Rc) (w : World) (hA : Rs w A a) (ia : I64r a) (la : a.length ≤ 9223372036854775807) :
    Calls Try.prog 12 #[.slice A a.length ca] w (LivesQ w) := by
  have G0 := Bl.refl w
  go_enter Try.func12, Try.ntmps12
  go_wp2_with fail
  refine (refgood1 A ca a _ (hA.bl G0) ia la).mono ?_
  rintro e W1 ⟨A1, c1, g, rfl, o1, q1, g1⟩
  have G1 := G0.trans g1
  have r_g := o1.rs
  have cp1 := o1.cap
  have cm1 := o1.capm4
  have nz := o1.nilz
  clear o1
  clear g1
  have gl := reg_len q1.reg q1.inr grid_near
  obtain ⟨gd, eb⟩ := q1.reg.bands
  go_wp2_with fail
  refine (keep0 A1 c1 g.length _).mono ?_
  rintro e W2 ⟨rfl, rfl⟩
  by_cases h2 : g.length < 2
  · have ql : (g.length : Int) < 2 := by omega
    go_wp2_with fail
    refine (keepC A1 c1 g 1 _ r_g (by omega) nz (by omega) (by omega)).mono ?_
    rintro e W3 ⟨A3, c3, u, rfl, o3, rfl, g3⟩
    have r_u := o3.rs
    replace r_g := r_g.bl g3
    go_wp2_with fail
    refine (same1t A3 A1 c3 c1 u u _ r_u r_g (by omega) rfl).mono ?_
    rintro e W4 ⟨rfl, g4⟩
    go_wp2_with fail
    refine (lives1 _).mono ?_
    rintro e W5 ⟨rfl, g5⟩
    go_wp2
    go_ret
    exact ⟨rfl, ((G1.trans g3).trans g4.bl).trans g5⟩
  · have ql : ¬ (g.length : Int) < 2 := by omega
    have hq := hl_q gd (by rw [eb]; omega)
    rw [eb] at hq
    obtain ⟨H, hH⟩ : ∃ H, hullR (fun k => g.getD k ⟨0, 0, 0, 0⟩) g.length = H := ⟨_, rfl⟩
    rw [hH] at hq
    go_wp2_with fail
    refine (keepH A1 c1 g 1 H _ r_g (by omega) cp1 (by omega) (by omega) hH).mono ?_
    rintro e W3 ⟨k0, rfl, X, g3⟩
    clear hH
    replace r_g := r_g.bl g3
    have G3 := G1.trans g3
    obtain ⟨ha, hb, hc, hd⟩ := H
    have x0 := X.cell 0; have x1 := X.cell 1; have x2 := X.cell 2; have x3 := X.cell 3
    simp at x0 x1 x2 x3
    have Y := At.new W3 #[.int .i64 ha, .int .i64 hb, .int .i64 hc, .int .i64 hd] 23
    have K := X.alloc (.cells #[.int .i64 ha, .int .i64 hb, .int .i64 hc, .int .i64 hd] 23)
    replace r_g := r_g.bl ((Bl.refl W3).alloc (.cells #[.int .i64 ha, .int .i64 hb, .int .i64 hc, .int .i64 hd] 23))
    have G4 := G3.alloc (.cells #[.int .i64 ha, .int .i64 hb, .int .i64 hc, .int .i64 hd] 23)
    obtain ⟨n, hn⟩ : ∃ n, n = g.length := ⟨_, rfl⟩
    rw [← hn] at gl cp1 h2 ql ⊢
    obtain ⟨b, off, rfl, hrow⟩ := r_g.opened (by omega)
    obtain ⟨ky, hky⟩ : ∃ k, k = W3.heap.size := ⟨_, rfl⟩
    replace hn := Lib.hid hn
    clear g3
    go_wp2
    obtain ⟨V, hV⟩ : ∃ V, V = W3.alloc (.cells #[.int .i64 ha, .int .i64 hb, .int .i64 hc, .int .i64 hd] 23) := ⟨_, rfl⟩
    rw [← hV] at Y K r_g hrow G4 ⊢
    rw [← hky] at Y ⊢
    clear hV hky x0 x1 x2 x3 X
    go_loopw [7, 8, 9] (fun lv rv iv wr => ∃ (k : Nat) (p q : Bool), k ≤ n ∧ lv = .bool p ∧ rv = .bool q ∧ iv = .int .i64 k ∧ Hid (p = lf Rc.a ha g k) ∧ Hid (q = lf Rc.c hc g k) ∧ Gr V wr) (fun _ _ iv _ => n - (intOf iv).toNat)
    case atStart => exact ⟨0, false, false, Nat.zero_le _, rfl, rfl, rfl, Lib.hid rfl, Lib.hid rfl, Gr.refl V⟩
    case round =>
      obtain ⟨k, p, q, hk, rfl, rfl, rfl, hp, hq2, G⟩ := hrel
      by_cases hlt : k < n
      · obtain ⟨⟨ra, rb, rc, rd⟩, hr⟩ := list_at (show k < g.length by rw [← hn.out]; exact hlt)
        have ma := lf_more (f := Rc.a) (z := ha) hr
        have mc := lf_more (f := Rc.c) (z := hc) hr
        rw [← hp.out] at ma
        rw [← hq2.out] at mc
        dsimp only at ma mc
        replace ma := Lib.hid ma
        replace mc := Lib.hid mc
        clear hp hq2
        have E := fun n os => (hrow.bl ((G.bl.drewN n).grow os)) k _ hr
        have E0 := fun n os => (E n os).1
        have y0 := fun n os => (Y.gr G).cells n os 0
        dsimp only at E0
        simp at y0
        replace hr := Lib.hid hr
        cases p <;> cases q
        all_goals
          go_wp2
          refine wp_region_quiet_grown (by kernel_rfl) (by kernel_rfl) ?_
          repeat (first | go_big_quiet_step (fail) | quiet_step (fail))
          refine wpQuiet_nil ?_
          intro W5 g9
          replace g9 : Gr _ W5 := g9
          have G5 := G.trans g9
          clear E E0 y0
          have E2 := fun n os => ((hrow.bl ((G5.bl.drewN n).grow os)) k _ hr.out).2.2.1
          have y2 := fun n os => (Y.gr G5).cells n os 2
          dsimp only at E2
          simp at y2
          go_wp2
          refine wp_region_quiet_grown (by kernel_rfl) (by kernel_rfl) ?_
          repeat (first | go_big_quiet_step (fail) | quiet_step (fail))
          refine wpQuiet_nil ?_
          intro W6 g8
          replace g8 : Gr _ W6 := g8
          clear E2 y2
          go_wp2
          go_roundw
          case rel => exact ⟨k + 1, _, _, by omega, rfl, rfl, by go_num, Lib.hid (by rw [ma.out]; rfl), Lib.hid (by rw [mc.out]; rfl), G5.trans g8⟩
          case measure => simp [intOf]; omega
      · have hkn : k = n := by omega
        have hp1 : p = true := by rw [hp.out, hkn, hn.out]; exact lf_all hq.left
        have hq1 : q = true := by rw [hq2.out, hkn, hn.out]; exact lf_all hq.right
        subst hp1 hq1
        clear hp hq2 hkn hk
        obtain ⟨⟨fa, fb, fc, fd⟩, hf⟩ := list_at (l := g) (k := 0) (by have := hn.out; omega)
        obtain ⟨⟨za, zb, zc, zd⟩, hz⟩ := list_at (l := g) (k := n - 1) (by have := hn.out; omega)
        have t1 := hq.top _ hf
        have t2 := hq.low _ (by rw [← hn.out]; exact hz)
        dsimp only at t1 t2
        subst t1 t2
        have e1 := ((hrow.bl G.bl) 0 _ hf).2.1
        have e2 := ((hrow.bl G.bl) (n - 1) _ hz).2.2.2
        have y1 := (Y.gr G).cell 1
        have y3 := (Y.gr G).cell 3
        dsimp only at e1 e2
        simp at y1 y3
        simp only [Nat.zero_mul, Nat.add_zero] at e1
        obtain ⟨m, hm⟩ : ∃ m, m = n - 1 := ⟨_, rfl⟩
        rw [← hm] at e2
        have hm1 : (m : Int) < n := by omega
        have i0 : 0 < n := by omega
        have i1 : (0 : Int) < n := by omega
        have q1' : IntKind.i64.wrap ((n : Int) - 1) = (m : Int) := by rw [show (n : Int) - 1 = (m : Int) from by omega]; exact IntWalk.i64_in _ (by omega)
        have cv := fun w h1 h2 => coversR1 (some ⟨k0, 0, none⟩) (some ⟨b, off, none⟩) 1 c1 [⟨ha, fb, hc, zd⟩] g [] w h1 h2 (pt_reg hq.pt) q1.reg (hq.mem _ _ q1.inr) q1.inr nil_regH (hl_cov hq)
        rw [← hn.out] at cv
        have K2 := At.rowR (L := [⟨ha, fb, hc, zd⟩]) ((K.gr G)) rfl
        have r_g2 := r_g.bl G.bl
        have G9 := G4.trans G.bl
        clear hf hz hm hrow Y K r_g G4 G hq
        go_wp2
        go_still_tail 28, (by kernel_rfl)
        change wpList _ _ _ _ _ wr.drew
        replace K2 := K2.bl (Bl.refl wr).drew
        replace r_g2 := r_g2.bl (Bl.refl wr).drew
        replace G9 := G9.drew
        clear e1 e2 y1 y3
        generalize wr.drew = w9 at K2 r_g2 G9 ⊢
        go_wp2_with fail
        refine (cv _ (.inr ⟨k0, 0, rfl, K2⟩) r_g2).mono ?_
        rintro e W5 ⟨rfl, g5⟩
        go_wp2_with fail
        refine (lives1 _).mono ?_
        rintro e W6 ⟨rfl, g6⟩
        go_wp2
        go_ret
        exact ⟨rfl, (G9.trans g5).trans g6⟩


set_option maxRecDepth 100000 in
theorem regionHulls_lifted (os : Os) (started : os.Started) (H : Type) (enc : TypeId × Value → H) :
    ReturnsInHanded {} Try.checked os 12 .any (Rows.regionHullsSpec.pre6 enc Try.prog Try.f12 Rows.regionHullsRow.domain false) (Rows.regionHullsSpec.post enc Try.prog Try.f12 false true false false) := by
  refine returnsInHanded_of_change (C := Try.checked) own started (by kernel_rfl) Try.func12
    (ChangeSpec.witness6 (enc := enc) (C := Try.checked) false ⟨#[], #[.slice none 0 0], []⟩ 8 (by kernel_rfl) (by kernel_rfl) (by kernel_rfl) (by kernel_rfl)) ?_
  intro W base args ds gs before hval0 hW hcnd _
  have hval : ∀ (j : Nat) t v, Try.f12.params[j]? = some t → args[j]? = some v → Value.okWide Try.prog W .any base t v := hval0
  have hW' := hW
  obtain ⟨p, q, hA0, hV, rfl, hfz, hnd⟩ := hW
  have hA : DataW.TrodAll enc Try.prog W 0 (fun _ => true) true Try.f12.params.toList args.toList ds p := hA0
  rw [Try.params12] at hA hval
  obtain ⟨v0, vs0, d0, ds0, p0, q0, hargs, rfl, rfl, h0, r0⟩ := trodAll_cons hA
  obtain ⟨rfl, rfl, rfl⟩ := trodAll_nil r0
  obtain rfl : args = #[v0] := by cases args; simp_all
  obtain ⟨rfl, rfl⟩ := trodVars_none hV
  obtain ⟨A0, c0, L0, rfl, hc0, hm0, hr0, hI0⟩ := open_rects (hval 0 35 v0 rfl rfl) h0
  unfold maxLen at hm0
  clear hA0 hval0
  simp only [List.append_nil] at hW'
  have hlt := hW'.lt
  refine (hulls_core A0 c0 L0 W hr0 hI0 (by omega)).mono fun e W' ⟨he, hb⟩ => ?_
  subst he
  exact ⟨_, rfl, close_below (pa := p0) (pv := []) hW' (fun _ _ _ => (trodAll_cons_mk (shut_bool Try.underlying4 _) trodAll_mk0)) (fun sp hsp => by
      have := (trodAll_cons_mk (WideElems.Trod_stays laidOut (by kernel_rfl) (of_decide_eq_true (by kernel_rfl)) h0 (fun x hx => Below.same hb (hlt x (by simp [hx]))) (sp' := sp) (fun x hx => hsp x (by simp [hx]))) trodAll_mk0)
      simp only [List.append_nil] at this
      exact this)
    (fun _ _ => rfl) (by simp) hb (ok_one (by kernel_rfl) rfl (okWide_bool_mk Try.underlying4 _))⟩

theorem regionHulls_holds : Rows.RegionHullsSaid :=
  OpenClaim.holds_of_wide 12 Try.f12 rfl rfl rfl rfl rfl rfl rfl ⟨rfl, rfl, rfl, rfl, rfl⟩ rfl rfl rfl rfl rfl (by kernel_rfl) Try.func12 (by kernel_rfl)
    (of_decide_eq_true (by kernel_rfl)) (by unfold Func.isWrapper; first | (rw [if_pos (by decide +kernel)]; kernel_rfl) | (rw [if_neg (by decide +kernel)]; exact ⟨rfl, rfl⟩))
    (fun os started H enc _ => regionHulls_lifted os started H enc)

#print axioms regionHulls_holds

end Go.Proofs.Ytbhekpcjdpbahaa
