/-
  What is proved: the statement TitlePads: texts that are padded to one width are as wide, and begin as they did. No conditions.
-/
import Derived.Test.YtcfckhelpnielaaVz
import Derived.ChangeMaps5
namespace Go.Proofs.Ytcfckhelpnielaa
open Go.ChangeShapes Go.WideShapes Go.ChangeAt Go.RowKit Go.Joins Go.Sort
open Go.ChangeMaps (open_string shut_string)
attribute [local go_sem ↓] run_min2 run_max2

set_option maxRecDepth 100000 in
set_option maxHeartbeats 4000000 in
theorem pads_core (s : ByteArray) (hs : s.size ≤ 9223372036854775807) (a b : Int) (ha : I64 a) (hb : I64 b) (w : World) : Calls Try.prog 10 #[.string s, .int .i64 a, .int .i64 b] w (Bt w (.bool true)) := by
  have cf : ∀ w, Calls Try.prog 11 #[.string s, .int .i64 60] w fun e w' => e = .returned (.string (bs (s.data.toList.take 60))) ∧ w = w' := fun w => few1 s hs 60 (by omega) w
  have hT : (bs (s.data.toList.take 60)).size ≤ 60 := by rw [bs_size, List.length_take]; omega
  have G := Bl.refl w
  generalize bs (s.data.toList.take 60) = T at *
  have ca := fun w => around1 a 51 w ha (by omega)
  have cb := fun w => around1 b 51 w hb (by omega)
  obtain ⟨hp0, hp1⟩ := around_bd a 51 (by omega)
  obtain ⟨hq0, hq1⟩ := around_bd b 51 (by omega)
  generalize around a 51 = p at *
  generalize around b 51 = q at *
  obtain ⟨lo, hlo⟩ : ∃ lo, lo = min p q := ⟨_, rfl⟩
  obtain ⟨hi, hhi⟩ : ∃ hi, hi = max p q := ⟨_, rfl⟩
  have l0 : 0 ≤ lo := by omega
  have l1 : lo ≤ 51 := by omega
  have h0 : 0 ≤ hi := by omega
  have h1 : hi ≤ 51 := by omega
  have hPl : ∀ k : Int, 0 ≤ k → k ≤ 51 → (padX k T.data.toList).length ≤ 1000 := fun k k0 k1 => by
    unfold padX
    have hv0 := (wid_bd (cutS k 0 (sgs T.data.toList))).1
    have h := List.prefix_iff_eq_take.1 (cutS_pre k (sgs T.data.toList) 0)
    have hl : (glue (cutS k 0 (sgs T.data.toList))).length ≤ T.size := by rw [h, pos_take, List.length_take, size_list]; omega
    rw [List.length_append, List.length_replicate]
    omega
  have c1 := fun w => tpad1 T (by omega) lo (by omega) (by omega) w
  have c2 := fun w => tpad1 T (by omega) hi (by omega) (by omega) w
  have c3 := fun w => twidth1 (bs (padX lo T.data.toList)) (by rw [bs_size]; have := hPl lo l0 l1; omega) w
  have c4 := fun w => twidth1 (bs (padX hi T.data.toList)) (by rw [bs_size]; have := hPl hi h0 h1; omega) w
  have c5 := fun w => tpad1 T (by omega) 0 (by omega) (by omega) w
  have c6 := fun w => twidth1 (bs (padX 0 T.data.toList)) (by rw [bs_size]; have := hPl 0 (by omega) (by omega); omega) w
  rw [bs_list, padX_wid l0] at c3
  rw [bs_list, padX_wid h0] at c4
  rw [bs_list, padX_wid (by omega)] at c6
  have c7 := fun w => tcut1 T (by omega) p w
  have hpre : glue (cutS p 0 (sgs T.data.toList)) <+: T.data.toList := by
    have h := List.prefix_iff_eq_take.1 (cutS_pre p (sgs T.data.toList) 0)
    rw [h, pos_take]
    exact List.take_prefix _ _
  have hpl := hpre.length_le
  rw [size_list] at hpl
  have c8 := fun w => begins1 T (bs (glue (cutS p 0 (sgs T.data.toList)))) (by omega) (by rw [bs_size]; omega) (by rw [bs_list]; exact hpre) w
  clear hpre hPl hpl
  generalize bs (padX lo T.data.toList) = X at *
  generalize bs (padX hi T.data.toList) = Y at *
  generalize bs (padX 0 T.data.toList) = Z at *
  generalize bs (glue (cutS p 0 (sgs T.data.toList))) = C at *
  rw [hlo] at c1 c3
  rw [hhi] at c2 c4
  clear hlo hhi l0 l1 h0 h1
  go_enter Try.func10, Try.ntmps10
  go_wp2_with fail
  refine (cf _).mono ?_
  rintro e w1 ⟨rfl, rfl⟩
  go_wp2_with fail
  refine (ca _).mono ?_
  rintro e w2 ⟨rfl, rfl⟩
  go_wp2_with fail
  refine (cb _).mono ?_
  rintro e w3 ⟨rfl, rfl⟩
  go_wp2_with fail
  refine (c1 _).mono ?_
  rintro e w4 ⟨rfl, g⟩
  replace G := Bl.trans G g
  clear g
  go_wp2_with fail
  refine (c2 _).mono ?_
  rintro e w5 ⟨rfl, g⟩
  replace G := Bl.trans G g
  clear g
  go_wp2_with fail
  refine (c3 _).mono ?_
  rintro e w6 ⟨rfl, g⟩
  replace G := Bl.trans G g
  clear g
  go_wp2_with fail
  refine (c4 _).mono ?_
  rintro e w7 ⟨rfl, g⟩
  replace G := Bl.trans G g
  clear g
  go_wp2_with fail
  refine (c5 _).mono ?_
  rintro e w8 ⟨rfl, g⟩
  replace G := Bl.trans G g
  clear g
  go_wp2_with fail
  refine (c6 _).mono ?_
  rintro e w9 ⟨rfl, g⟩
  replace G := Bl.trans G g
  clear g
  go_wp2_with fail
  refine (c7 _).mono ?_
  rintro e w10 ⟨rfl, g⟩
  replace G := Bl.trans G g
  clear g
  go_wp2_with fail
  refine (c8 _).mono ?_
  rintro e w11 ⟨rfl, rfl⟩
  go_wp2_with fail
  refine (tlives1 _).mono ?_
  rintro e w12 ⟨rfl, g⟩
  replace G := Bl.trans G g
  clear g
  go_wp2
  go_ret
  exact ⟨rfl, G⟩

set_option maxRecDepth 100000 in
theorem titlePads_lifted (os : Os) (started : os.Started) (H : Type) (enc : TypeId × Value → H) :
    ReturnsInHanded {} Try.checked os 10 .any (Rows.titlePadsSpec.pre6 enc Try.prog Try.f10 Rows.titlePadsRow.domain false) (Rows.titlePadsSpec.post enc Try.prog Try.f10 false true false false) := by
  refine returnsInHanded_of_change (C := Try.checked) own started (by kernel_rfl) Try.func10
    (ChangeSpec.witness6 (enc := enc) (C := Try.checked) false ⟨#[], #[.string ByteArray.empty, .int .i64 0, .int .i64 0], []⟩ 8 (by kernel_rfl) (by kernel_rfl) (by kernel_rfl) (by kernel_rfl)) ?_
  intro W base args ds gs before hval0 hW hcnd _
  have hval : ∀ (j : Nat) t v, Try.f10.params[j]? = some t → args[j]? = some v → Value.okWide Try.prog W .any base t v := hval0
  have hW' := hW
  obtain ⟨p, q, hA0, hV, rfl, hfz, hnd⟩ := hW
  have hA : DataW.TrodAll enc Try.prog W 0 (fun _ => true) true Try.f10.params.toList args.toList ds p := hA0
  rw [Try.params10] at hA hval
  obtain ⟨v0, vs0, d0, ds0, p0, q0, hargs, rfl, rfl, h0, r0⟩ := trodAll_cons hA
  obtain ⟨v1, vs1, d1, ds1, p1, q1, rfl, rfl, rfl, h1, r1⟩ := trodAll_cons r0
  obtain ⟨v2, vs2, d2, ds2, p2, q2, rfl, rfl, rfl, h2, r2⟩ := trodAll_cons r1
  obtain ⟨rfl, rfl, rfl⟩ := trodAll_nil r2
  obtain rfl : args = #[v0, v1, v2] := by cases args; simp_all
  obtain ⟨rfl, rfl⟩ := trodVars_none hV
  obtain ⟨s0, rfl, rfl, rfl, ws0⟩ := open_string Try.underlying9 (hval 0 9 v0 rfl rfl) h0
  obtain ⟨n1, rfl, rfl, rfl, un1⟩ := open_int Try.underlying3 (hval 1 3 v1 rfl rfl) h1
  have wn1 := I64.of_wf un1
  obtain ⟨n2, rfl, rfl, rfl, un2⟩ := open_int Try.underlying3 (hval 2 3 v2 rfl rfl) h2
  have wn2 := I64.of_wf un2
  clear hA0 hval0
  simp only [List.append_nil] at hW'
  refine (pads_core s0 (by unfold maxLen at ws0; exact ws0) n1 n2 wn1 wn2 W).mono fun e W' ⟨he, hb⟩ => ?_
  subst he
  exact ⟨_, rfl, close_below (pa := []) (pv := []) hW' (fun _ _ _ => (trodAll_cons_mk (shut_bool Try.underlying4 _) trodAll_mk0)) (fun sp _ => (trodAll_cons_mk (shut_string Try.underlying9 ws0) (trodAll_cons_mk (shut_int Try.underlying3 un1) (trodAll_cons_mk (shut_int Try.underlying3 un2) trodAll_mk0))))
    (fun _ _ => rfl) rfl hb (ok_one (by kernel_rfl) rfl (okWide_bool_mk Try.underlying4 _))⟩

theorem titlePads_holds : Rows.TitlePadsSaid :=
  OpenClaim.holds_of_wide 10 Try.f10 rfl rfl rfl rfl rfl rfl rfl ⟨rfl, rfl, rfl, rfl, rfl⟩ rfl rfl rfl rfl rfl (by kernel_rfl) Try.func10 (by kernel_rfl)
    (of_decide_eq_true (by kernel_rfl)) (by unfold Func.isWrapper; first | (rw [if_pos (by decide +kernel)]; kernel_rfl) | (rw [if_neg (by decide +kernel)]; exact ⟨rfl, rfl⟩))
    (fun os started H enc _ => titlePads_lifted os started H enc)

#print axioms titlePads_holds

end Go.Proofs.Ytcfckhelpnielaa
