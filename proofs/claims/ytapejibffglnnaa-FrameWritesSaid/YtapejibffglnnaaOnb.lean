/-
  What is proved: the statement FrameWrites: a message's bytes are the document's, and are read as it was; such as may not be are refused. No conditions.
-/
import Derived.Test.YtapejibffglnnaaOe
import Derived.Test.YtapejibffglnnaaOh
import Derived.Test.YtapejibffglnnaaOm
import Derived.Test.YtapejibffglnnaaOg
import Derived.Test.YtapejibffglnnaaOfb
import Derived.Test.YtapejibffglnnaaOk
import Derived.Deep.RegionHeld3
import Derived.Lib.QuietBelow
import Derived.Deep.RegionLaw
namespace Go.Proofs.Ytapejibffglnnaa
open Go.ChangeShapes Go.WideShapes Go.ChangeAt Go.RowKit Go.Joins Go.Sort
attribute [local go_sem ↓] run_min2 run_max2

set_option maxRecDepth 100000 in
set_option maxHeartbeats 4000000 in
theorem wr_core (m0 : Ms) (A0 : Option Addr) (c0 : Nat) (hz0 : A0 = none → c0 = 0) (hl0 : m0.body.length ≤ c0) (hm0 : c0 ≤ maxLen) (w : World) (hr0 : RwB w A0 m0.body) (hb0 : ByL m0.body)
    (A1 : Option Addr) (c1 : Nat) (L1 : List Int) (hz1 : A1 = none → c1 = 0) (hl1 : L1.length ≤ c1) (hm1 : c1 ≤ maxLen) (hr1 : RwB w A1 L1) (hb1 : ByL L1) :
    Calls Try.prog 3 #[.agg #[.int .i64 m0.op, .int .i64 m0.id, .slice A0 m0.body.length c0], .slice A1 L1.length c1] w fun e w' => e = .returned (.bool true) ∧ Bl w w' := by
  have cg := fun w' => good1 A0 c0 m0 300 300 rfl w' hr0.ad hl0 hm0 (by omega)
  have hgo := goodM_ok m0 (n := 300) (by omega)
  have hgl := goodM_len m0 300
  have hgb : ByL (goodM m0 300).body := hb0.take 300
  have hgr : ∀ V, Bl w V → RwB V A0 (goodM m0 300).body := fun V g => by
    have := hr0.bl g
    rcases this with h | ⟨b, off, h, hr⟩
    · exact .inl (by unfold goodM; simp [h])
    · exact .inr ⟨b, off, h, hr.take 300⟩
  have hgc : (goodM m0 300).body.length ≤ c0 := by unfold goodM; dsimp only; rw [List.length_take]; omega
  obtain ⟨g, hg⟩ : ∃ g, g = goodM m0 300 := ⟨_, rfl⟩
  rw [← hg] at cg hgo hgl hgb hgr hgc
  have cf := fun w' => few1 A1 c1 L1 20 20 rfl w' hr1.ad hl1 hm1 (by omega)
  have hfb := hb1.take 20
  have hfr : ∀ V, Bl w V → RwB V A1 (L1.take 20) := fun V g => by
    have := hr1.bl g
    rcases this with h | ⟨b, off, h, hr⟩
    · exact .inl (by simp [h])
    · exact .inr ⟨b, off, h, hr.take 20⟩
  have hfl : (L1.take 20).length ≤ 20 := by rw [List.length_take]; omega
  generalize L1.take 20 = F at *
  generalize L1.length = n1 at *
  have cMay : ∀ V : World, _ := fun V => fmay1 A0 c0 m0 V
  have cMay2 : ∀ V : World, _ := fun V => rmay1 A0 c0 m0 V
  -- what both Writes hand back of the message as it came
  have cW : ∀ V, Bl w V → Calls Try.prog 10 #[.agg #[.int .i64 m0.op, .int .i64 m0.id, .slice A0 m0.body.length c0]] V fun e w' => ∃ v E, e = .returned (.tuple #[v, .int .i64 (if mayB m0 = true then 0 else 1)]) ∧ Sv w' v E ∧ E = (if mayB m0 = true then encM m0 else []) ∧ Bl V w' := fun V gV => by
    by_cases ho : mayB m0 = true
    · refine (fwrite1 A0 c0 m0 V ((mayB_iff m0).1 ho) (hr0.bl gV) hz0).mono ?_
      rintro e w' ⟨A', c', rfl, sv, g⟩
      exact ⟨_, _, by rw [if_pos ho], sv, by rw [if_pos ho], g⟩
    · refine (fwrite0 A0 c0 m0 V (fun h => ho ((mayB_iff m0).2 h))).mono ?_
      rintro e w' ⟨rfl, g⟩
      exact ⟨_, [], by rw [if_neg ho], Sv.nil _, by rw [if_neg ho], g⟩
  have cR : ∀ V, Bl w V → Calls Try.prog 11 #[.agg #[.int .i64 m0.op, .int .i64 m0.id, .slice A0 m0.body.length c0]] V fun e w' => ∃ v E, e = .returned (.tuple #[v, .int .i64 (if mayB m0 = true then 0 else 1)]) ∧ Sv w' v E ∧ E = (if mayB m0 = true then encM m0 else []) ∧ Bl V w' := fun V gV => by
    by_cases ho : mayB m0 = true
    · refine (rwrite1 A0 c0 m0 V ((mayB_iff m0).1 ho) (hr0.bl gV) hz0).mono ?_
      rintro e w' ⟨A', c', rfl, sv, g⟩
      exact ⟨_, _, by rw [if_pos ho], sv, by rw [if_pos ho], g⟩
    · refine (rwrite0 A0 c0 m0 V (fun h => ho ((mayB_iff m0).2 h))).mono ?_
      rintro e w' ⟨rfl, g⟩
      exact ⟨_, [], by rw [if_neg ho], Sv.nil _, by rw [if_neg ho], g⟩
  generalize (if mayB m0 = true then encM m0 else []) = E0 at *
  generalize (if mayB m0 = true then (0 : Int) else 1) = e0 at *
  generalize mayB m0 = mb at *
  have cw := fun V (gV : Bl w V) => fwrite1 A0 c0 g V hgo (hgr V gV) hz0
  have heb := encM_by hgo hgb
  have hel := encM_len g
  have hrd := rd_enc hgo F
  obtain ⟨op0, id0, bd0⟩ := m0
  dsimp only at *
  generalize bd0.length = n0 at *
  obtain ⟨W0, hW0⟩ : ∃ V, V = w.alloc (.cells #[.int .i64 op0, .int .i64 id0, .slice A0 n0 c0] 24) := ⟨_, rfl⟩
  have GB0 : Bl w W0 := by rw [hW0]; exact (Bl.refl w).alloc _
  have x0 : At W0 w.heap.size #[.int .i64 op0, .int .i64 id0, .slice A0 n0 c0] 24 := by rw [hW0]; exact At.new _ _ _
  replace hg := Lib.hid hg
  replace hel := Lib.hid hel
  replace hrd := Lib.hid hrd
  go_enter Try.func3, Try.ntmps3
  go_wp2_with fail
  rw [← hW0]
  clear hW0
  refine (cg _).mono ?_
  rintro e w1 ⟨rfl, q1⟩
  have x1 := x0.gr q1
  have G1 := GB0.gr q1
  obtain ⟨gop, gid, gb⟩ := g
  dsimp only at *
  generalize hng : gb.length = ng at *
  replace hng := Lib.hid hng
  have a1 := At.new w1 #[.int .i64 gop, .int .i64 gid, .slice A0 ng c0] 24
  have x2 := x1.alloc (.cells #[.int .i64 gop, .int .i64 gid, .slice A0 ng c0] 24)
  have G2 := G1.alloc (.cells #[.int .i64 gop, .int .i64 gid, .slice A0 ng c0] 24)
  have ux0 := x2.cell 0
  have ux1 := x2.cell 1
  have ux2 := x2.cell 2
  simp only [List.getElem?_toArray, List.getElem?_cons_zero, List.getElem?_cons_succ] at ux0 ux1 ux2
  obtain ⟨p, hp⟩ : ∃ p, p = w1.heap.size := ⟨_, rfl⟩
  rw [← hp] at a1
  obtain ⟨W2, hW2⟩ : ∃ V, V = w1.alloc (.cells #[.int .i64 gop, .int .i64 gid, .slice A0 ng c0] 24) := ⟨_, rfl⟩
  rw [← hW2] at a1 x2 G2
  go_wp2_with fail
  rw [← hW2, ← hp]
  refine (cW _ G2).mono ?_
  rintro e w3 ⟨v3, E3, rfl, sv3, hE3, q3⟩
  subst hE3
  obtain ⟨A3, c3, rfl, _, _, _, rw3⟩ := sv3
  have G3 := G2.trans q3
  have x3 := x2.bl q3
  have a3 := a1.bl q3
  have t30 := x3.cell 0
  have t31 := x3.cell 1
  have t32 := x3.cell 2
  simp only [List.getElem?_toArray, List.getElem?_cons_zero, List.getElem?_cons_succ] at t30 t31 t32
  replace hp := Lib.hid hp
  replace hW2 := Lib.hid hW2
  clear ux0 ux1 ux2
  go_wp2_with fail
  refine (cR _ G3).mono ?_
  rintro e w4 ⟨v4, E4, rfl, sv4, hE4, q4⟩
  subst hE4
  obtain ⟨A4, c4, rfl, _, _, _, rw4⟩ := sv4
  have G4 := G3.trans q4
  have x4 := x3.bl q4
  have a4 := a3.bl q4
  have T1 : ∀ (d : Nat) (os : Array Obj), (convert 22 9 (.slice A3 E4.length c3)).run Try.prog (grow (w4.drewN d) os) = .ok (.string (strOfNums E4)) (grow (w4.drewN d) os) := fun d os => Sv.text (rw3.bl (q4.trans ((((Bl.refl w4).drewN d).grow os))))
  have T2 : ∀ (d : Nat) (os : Array Obj), (convert 22 9 (.slice A4 E4.length c4)).run Try.prog (grow (w4.drewN d) os) = .ok (.string (strOfNums E4)) (grow (w4.drewN d) os) := fun d os => Sv.text (rw4.bl ((((Bl.refl w4).drewN d).grow os)))
  have C0 : ∀ (d : Nat) (os : Array Obj), (grow (w4.drewN d) os).cell? ⟨w.heap.size, 0, none⟩ = some (.int .i64 op0) := fun d os => x4.cells d os 0
  have C1 : ∀ (d : Nat) (os : Array Obj), (grow (w4.drewN d) os).cell? ⟨w.heap.size, 1, none⟩ = some (.int .i64 id0) := fun d os => x4.cells d os 1
  have C2 : ∀ (d : Nat) (os : Array Obj), (grow (w4.drewN d) os).cell? ⟨w.heap.size, 2, none⟩ = some (.slice A0 n0 c0) := fun d os => x4.cells d os 2
  generalize strOfNums E4 = ST at *
  generalize E4.length = nE at *
  clear t30 t31 t32 rw3 rw4
  go_wp2
  refine wp_region_quiet_grown (by kernel_rfl) (by kernel_rfl) ?_
  repeat (first | go_big_quiet_step (first | (go_at_call 12; exact Calls.grown (cMay _)) | (go_at_call 13; exact Calls.grown (cMay2 _))) | quiet_step (first | (go_at_call 12; exact Calls.grown (cMay _)) | (go_at_call 13; exact Calls.grown (cMay2 _))))
  refine wpQuiet_nil ?_
  intro W5 q5
  replace q5 : Gr _ W5 := q5
  have G5 := G4.gr q5
  have a5 := a4.gr q5
  have t50 := a5.cell 0
  have t51 := a5.cell 1
  have t52 := a5.cell 2
  simp only [List.getElem?_toArray, List.getElem?_cons_zero, List.getElem?_cons_succ] at t50 t51 t52
  clear T1 T2 C0 C1 C2 cMay cMay2 cW cR
  go_wp2_with fail
  refine (cw _ G5).mono ?_
  rintro e w6 ⟨A6, c6, rfl, sv6, q6⟩
  have G6 := G5.trans q6
  have a6 := a5.bl q6
  obtain ⟨A7, c7, hv, hz6, _, _, rw6⟩ := sv6
  injection hv with h1 h2 h3
  subst h1 h3
  clear h2 cw
  obtain ⟨E, hE⟩ : ∃ E, E = encM ⟨gop, gid, gb⟩ := ⟨_, rfl⟩
  rw [← hE] at rw6 hel hrd heb ⊢
  replace hE := Lib.hid hE
  have hEl : E.length ≤ 400 := by rw [hel.out]; omega
  obtain ⟨nE2, hnE⟩ : ∃ n, n = E.length := ⟨_, rfl⟩
  rw [← hnE] at hEl ⊢
  replace hnE := Lib.hid hnE
  clear t50 t51 t52
  go_wp2_with (at_builtin; refine wp_app_b rfl (.tmp 52) (.tmp 53) rfl none 0 [] rfl w6.heap.size (OwB.nil _ _) A6 E c6 (by rw [← hnE.out]; rfl) hz6 rw6 (by rw [← hnE.out]; simp; omega) (Nat.le_refl _) ?_; intro A8 c8 w8 own8 by8 _; rw [List.nil_append] at own8; rw [show ([] : List Int).length + E.length = nE2 by rw [hnE.out]; simp])
  have q8 : Bl w6 w8 := app_bl (A := none) by8 (Bl.refl _) (.inl rfl) (Nat.le_refl _)
  have G8 := G6.trans q8
  have a8 := a6.bl q8
  have hF8 := hfr w8 G8
  obtain ⟨T, hT⟩ : ∃ T, T = E.length + F.length := ⟨_, rfl⟩
  replace hT := Lib.hid hT
  go_wp2_with (first | (go_at_call 14; refine (cf _).mono ?_; rintro e w9 ⟨rfl, rfl⟩) | (at_builtin; refine wp_app_b rfl (.tmp 55) (.tmp 57) rfl A8 c8 E (by rw [← hnE.out]; rfl) w6.heap.size own8 A1 F c1 rfl hz1 hF8 (by rw [← hnE.out]; omega) q8.size ?_; intro A9 c9 w9 own9 by9 _; have q9 := app_bl by9 q8 own8.lies (Nat.le_refl _); rw [← hT.out]))
  have hEF : (E ++ F).length = T := by rw [hT.out, List.length_append]
  have cr := fread1 A9 c9 (E ++ F) w9 own9.rwb (own_caps own9).1 (own_caps own9).2.1 (heb.app hfb)
  obtain ⟨hr1', hr2', hr3'⟩ := hrd.out
  unfold RdQ at cr
  rw [hr1', hr2', hr3', hEF, ← hnE.out] at cr
  dsimp only at cr
  refine cr.mono ?_
  rintro e w10 ⟨v10, rfl, sv10, _, q10⟩
  clear cr hr1' hr2' hr3' hEF cf cg
  obtain ⟨A10, c10, rfl, _, _, _, rw10⟩ := sv10
  try dsimp only at rw10
  try dsimp only
  rw [hng.out]
  have G10 := (G6.trans q9).trans q10
  have a10 := (a6.bl q9).bl q10
  have b11 := At.new w10 #[.int .i64 gop, .int .i64 gid, .slice A10 ng c10] 24
  have a11 := a10.alloc (.cells #[.int .i64 gop, .int .i64 gid, .slice A10 ng c10] 24)
  have G11 := G10.alloc (.cells #[.int .i64 gop, .int .i64 gid, .slice A10 ng c10] 24)
  have r11 := rw10.bl ((Bl.refl w10).alloc (.cells #[.int .i64 gop, .int .i64 gid, .slice A10 ng c10] 24))
  obtain ⟨W11, hW11⟩ : ∃ V, V = w10.alloc (.cells #[.int .i64 gop, .int .i64 gid, .slice A10 ng c10] 24) := ⟨_, rfl⟩
  have aL := a11.cell 0
  have aL1 := a11.cell 1
  have aL2 := a11.cell 2
  simp only [List.getElem?_toArray, List.getElem?_cons_zero, List.getElem?_cons_succ] at aL aL1 aL2
  rw [← hW11] at b11 a11 G11 r11
  have cs1 := rsame1 A10 A0 c10 c0 ⟨gop, gid, gb⟩ W11 r11 (hgr W11 G11)
  dsimp only at cs1
  rw [hng.out] at cs1
  obtain ⟨p11, hp11⟩ : ∃ p, p = w10.heap.size := ⟨_, rfl⟩
  rw [← hp11] at b11
  go_wp2_with fail
  rw [← hW11]
  refine cs1.mono ?_
  rintro e w12 ⟨rfl, q12⟩
  clear hW11 aL aL1 aL2 cs1
  rw [← hp11]
  clear hp11
  have G12 := G11.gr q12
  have cs2 := fsame1 A10 A0 c10 c0 ⟨gop, gid, gb⟩ w12 (r11.bl q12.bl) (hgr w12 G12)
  dsimp only at cs2
  rw [hng.out] at cs2
  have b12 := b11.gr q12
  have a12 := a11.gr q12
  have m0 := b12.cell 0
  have m1 := b12.cell 1
  have m2 := b12.cell 2
  have k0 := a12.cell 0
  have k1 := a12.cell 1
  have k2 := a12.cell 2
  simp only [List.getElem?_toArray, List.getElem?_cons_zero, List.getElem?_cons_succ] at m0 m1 m2 k0 k1 k2
  go_wp2_with fail
  refine cs2.mono ?_
  rintro e w13 ⟨rfl, q13⟩
  go_wp2_with fail
  refine (lives1 _).mono ?_
  rintro e w14 ⟨rfl, q14⟩
  go_wp2
  go_ret
  exact ⟨rfl, (G12.gr q13).trans q14⟩

set_option maxRecDepth 100000 in
theorem frameWrites_lifted (os : Os) (started : os.Started) (H : Type) (enc : TypeId × Value → H) :
    ReturnsInHanded {} Try.checked os 3 .any (Rows.frameWritesSpec.pre6 enc Try.prog Try.f3 Rows.frameWritesRow.domain false) (Rows.frameWritesSpec.post enc Try.prog Try.f3 false true false false) := by
  refine returnsInHanded_of_change (C := Try.checked) own started (by kernel_rfl) Try.func3
    (ChangeSpec.witness6 (enc := enc) (C := Try.checked) false ⟨#[], #[.agg #[.int .i64 0, .int .i64 0, .slice none 0 0], .slice none 0 0], []⟩ 8 (by kernel_rfl) (by kernel_rfl) (by kernel_rfl) (by kernel_rfl)) ?_
  intro W base args ds gs before hval0 hW hcnd _
  have hval : ∀ (j : Nat) t v, Try.f3.params[j]? = some t → args[j]? = some v → Value.okWide Try.prog W .any base t v := hval0
  have hW' := hW
  obtain ⟨p, q, hA0, hV, rfl, hfz, hnd⟩ := hW
  have hA : DataW.TrodAll enc Try.prog W 0 (fun _ => true) true Try.f3.params.toList args.toList ds p := hA0
  rw [Try.params3] at hA hval
  obtain ⟨v0, vs0, d0, ds0, p0, q0, hargs, rfl, rfl, h0, r0⟩ := trodAll_cons hA
  obtain ⟨v1, vs1, d1, ds1, p1, q1, rfl, rfl, rfl, h1, r1⟩ := trodAll_cons r0
  obtain ⟨rfl, rfl, rfl⟩ := trodAll_nil r1
  obtain rfl : args = #[v0, v1] := by cases args; simp_all
  obtain ⟨rfl, rfl⟩ := trodVars_none hV
  obtain ⟨m0, A0, c0, rfl, hz0, hl0, hm0, hr0, hb0, _, _⟩ := open_msg (hval 0 24 v0 rfl rfl) h0
  obtain ⟨A1, c1, L1, rfl, hz1, hl1, hm1, hr1, hb1⟩ := open_bytes (hval 1 22 v1 rfl rfl) h1
  clear hA0 hval0
  simp only [List.append_nil] at hW'
  have hlt := hW'.lt
  refine (wr_core m0 A0 c0 hz0 hl0 hm0 W hr0 hb0 A1 c1 L1 hz1 hl1 hm1 hr1 hb1).mono fun e W' ⟨he, hb⟩ => ?_
  subst he
  exact ⟨_, rfl, close_below (pa := p0 ++ p1) (pv := []) hW' (fun _ _ _ => (trodAll_cons_mk (shut_bool Try.underlying4 _) trodAll_mk0)) (fun sp hsp => by
      have := (trodAll_cons_mk (WideElems.Trod_stays laidOut (by kernel_rfl) (of_decide_eq_true (by kernel_rfl)) h0 (fun x hx => Below.same hb (hlt x (by simp [hx]))) (sp' := sp) (fun x hx => hsp x (by simp [hx]))) (trodAll_cons_mk (WideElems.Trod_stays laidOut (by kernel_rfl) (of_decide_eq_true (by kernel_rfl)) h1 (fun x hx => Below.same hb (hlt x (by simp [hx]))) (sp' := sp) (fun x hx => hsp x (by simp [hx]))) trodAll_mk0))
      simp only [List.append_nil] at this
      exact this)
    (fun _ _ => rfl) (by simp) hb (ok_one (by kernel_rfl) rfl (okWide_bool_mk Try.underlying4 _))⟩

theorem frameWrites_holds : Rows.FrameWritesSaid :=
  OpenClaim.holds_of_wide 3 Try.f3 rfl rfl rfl rfl rfl rfl rfl ⟨rfl, rfl, rfl, rfl, rfl⟩ rfl rfl rfl rfl rfl (by kernel_rfl) Try.func3 (by kernel_rfl)
    (of_decide_eq_true (by kernel_rfl)) (by unfold Func.isWrapper; first | (rw [if_pos (by decide +kernel)]; kernel_rfl) | (rw [if_neg (by decide +kernel)]; exact ⟨rfl, rfl⟩))
    (fun os started H enc _ => frameWrites_lifted os started H enc)

#print axioms frameWrites_holds

end Go.Proofs.Ytapejibffglnnaa
