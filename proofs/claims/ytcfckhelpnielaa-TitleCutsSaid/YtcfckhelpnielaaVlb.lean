/-
  What is proved: the statement TitleCuts: the beginning of a text that is so wide is the document's, begins it, and is no wider; padded it is just so wide. No conditions.
-/
import Derived.Test.YtcfckhelpnielaaVz
import Derived.ChangeMaps5
namespace Go.Proofs.Ytcfckhelpnielaa
open Go.ChangeShapes Go.WideShapes Go.ChangeAt Go.RowKit Go.Joins Go.Sort
open Go.ChangeMaps (open_string shut_string)
attribute [local go_sem ↓] run_min2 run_max2

set_option maxRecDepth 100000 in
set_option maxHeartbeats 4000000 in
theorem cuts_core (s : ByteArray) (hs : s.size ≤ 9223372036854775807) (n : Int) (hn : I64 n) (w : World) : Calls Try.prog 5 #[.string s, .int .i64 n] w (Bt w (.bool true)) := by
  have cf : ∀ w, Calls Try.prog 11 #[.string s, .int .i64 200] w fun e w' => e = .returned (.string (bs (s.data.toList.take 200))) ∧ w = w' := fun w => few1 s hs 200 (by omega) w
  have hT : (bs (s.data.toList.take 200)).size ≤ 200 := by rw [bs_size, List.length_take]; omega
  have G := Bl.refl w
  generalize bs (s.data.toList.take 200) = T at *
  have ca := fun w => around1 n 100 w hn (by omega)
  obtain ⟨hk0, hk1⟩ := around_bd n 100 (by omega)
  generalize around n 100 = k at *
  have c1 := fun w => tcut1 T (by omega) k w
  have c2 := fun w => tpad1 T (by omega) k (by omega) (by omega) w
  have c3 := fun w => tcut1 T (by omega) n w
  have c4 := fun w => rcut1 T (by omega) n w
  have c5 := fun w => rcut1 T (by omega) k w
  have hpre : glue (cutS k 0 (sgs T.data.toList)) <+: T.data.toList := by
    have h := List.prefix_iff_eq_take.1 (cutS_pre k (sgs T.data.toList) 0)
    rw [h, pos_take]
    exact List.take_prefix _ _
  have hCl := hpre.length_le
  rw [size_list] at hCl
  have hX : T.extract 0 (bs (glue (cutS k 0 (sgs T.data.toList)))).size = bs (glue (cutS k 0 (sgs T.data.toList))) := by
    rw [← list_bs (T.extract 0 _), extract_list, List.drop_zero, bs_size, ← List.prefix_iff_eq_take.1 hpre]
  have c6 := fun w => twidth1 (bs (glue (cutS k 0 (sgs T.data.toList)))) (by rw [bs_size]; omega) w
  have c8 := fun w => rwidth1 (bs (glue (cutS k 0 (sgs T.data.toList)))) (by rw [bs_size]; omega) w
  rw [bs_list, sgs_cut] at c6 c8
  have hv := cutS_wid hk0 (sgs T.data.toList)
  have hv0 := (wid_bd (cutS k 0 (sgs T.data.toList))).1
  have hPl : (padX k T.data.toList).length = (glue (cutS k 0 (sgs T.data.toList))).length + (k - wid (cutS k 0 (sgs T.data.toList))).toNat := by
    unfold padX
    rw [List.length_append, List.length_replicate]
    omega
  have c7 := fun w => twidth1 (bs (padX k T.data.toList)) (by rw [bs_size, hPl]; omega) w
  rw [bs_list, padX_wid hk0] at c7
  have hP : (bs (padX k T.data.toList)).extract 0 (bs (glue (cutS k 0 (sgs T.data.toList)))).size = bs (glue (cutS k 0 (sgs T.data.toList))) := by
    rw [bs_extract, List.drop_zero, bs_size]
    unfold padX
    rw [List.take_left]
  have hPs : (bs (padX k T.data.toList)).size = (bs (glue (cutS k 0 (sgs T.data.toList)))).size + (k - wid (cutS k 0 (sgs T.data.toList))).toNat := by rw [bs_size, bs_size, hPl]
  have hCs : (bs (glue (cutS k 0 (sgs T.data.toList)))).size ≤ T.size := by rw [bs_size]; exact hCl
  have c9 := fun w => tpad1 T (by omega) (-1) (by omega) (by omega) w
  have h9 : padX (-1) T.data.toList = [] := by
    unfold padX
    rw [cutS_neg (by omega), wid_nil]
    rfl
  rw [h9] at c9
  have hb0 : (bs []).toList = [] := by rw [ByteArray.toList_eq, bs_list]
  clear h9 hpre hCl hPl
  generalize bs (padX k T.data.toList) = P at *
  generalize wid (cutS k 0 (sgs T.data.toList)) = v at *
  generalize bs (glue (cutS k 0 (sgs T.data.toList))) = C at *
  generalize bs (glue (cutS n 0 (sgs T.data.toList))) = D at *
  have hPi : (P.size : Int) = (C.size : Int) + (k - v) := by omega
  have q1 : decide (T.size < C.size) = false := by simp; omega
  have q2 : decide (k < v) = false := by simp; omega
  have q3 : decide (P.size < C.size) = false := by simp; omega
  have q4 : (((P.size : Int) - (C.size : Int)) == k - v) = true := by simp; omega
  have q5 : (C.size : Int) ≤ T.size := by omega
  have q6 : (C.size : Int) ≤ P.size := by omega
  have q7 : (P.size : Int) ≤ 1000 := by omega
  have q8 : (T.size : Int) ≤ 1000 := by omega
  have q9 : (k != k) = false := by simp
  clear hPi hPs hCs
  go_enter Try.func5, Try.ntmps5
  go_wp2_with fail
  refine (cf _).mono ?_
  rintro e w1 ⟨rfl, rfl⟩
  go_wp2_with fail
  refine (ca _).mono ?_
  rintro e w2 ⟨rfl, rfl⟩
  go_wp2_with fail
  refine (c1 _).mono ?_
  rintro e w3 ⟨rfl, g⟩
  replace G := Bl.trans G g
  clear g
  go_wp2_with fail
  refine (c2 _).mono ?_
  rintro e w4 ⟨rfl, g⟩
  replace G := Bl.trans G g
  clear g
  go_wp2_with fail
  refine (c3 _).mono ?_
  rintro e w5 ⟨rfl, g⟩
  replace G := Bl.trans G g
  clear g
  go_wp2_with fail
  refine (c4 _).mono ?_
  rintro e w6 ⟨rfl, g⟩
  replace G := Bl.trans G g
  clear g
  go_wp2_with fail
  refine (c5 _).mono ?_
  rintro e w7 ⟨rfl, g⟩
  replace G := Bl.trans G g
  clear g
  go_wp2_with fail
  refine (c6 _).mono ?_
  rintro e w8 ⟨rfl, g⟩
  replace G := Bl.trans G g
  clear g
  go_wp2_with fail
  refine (c7 _).mono ?_
  rintro e w9 ⟨rfl, g⟩
  replace G := Bl.trans G g
  clear g
  go_wp2_with fail
  refine (c8 _).mono ?_
  rintro e w10 ⟨rfl, g⟩
  replace G := Bl.trans G g
  clear g
  go_wp2_with fail
  refine (c9 _).mono ?_
  rintro e w11 ⟨rfl, g⟩
  replace G := Bl.trans G g
  clear g
  go_wp2_with fail
  refine (tlives1 _).mono ?_
  rintro e w12 ⟨rfl, g⟩
  replace G := Bl.trans G g
  clear g
  go_wp2
  go_ret
  exact ⟨rfl, G⟩

set_option maxRecDepth 100000 in
theorem titleCuts_lifted (os : Os) (started : os.Started) (H : Type) (enc : TypeId × Value → H) :
    ReturnsInHanded {} Try.checked os 5 .any (Rows.titleCutsSpec.pre6 enc Try.prog Try.f5 Rows.titleCutsRow.domain false) (Rows.titleCutsSpec.post enc Try.prog Try.f5 false true false false) := by
  refine returnsInHanded_of_change (C := Try.checked) own started (by kernel_rfl) Try.func5
    (ChangeSpec.witness6 (enc := enc) (C := Try.checked) false ⟨#[], #[.string ByteArray.empty, .int .i64 0], []⟩ 8 (by kernel_rfl) (by kernel_rfl) (by kernel_rfl) (by kernel_rfl)) ?_
  intro W base args ds gs before hval0 hW hcnd _
  have hval : ∀ (j : Nat) t v, Try.f5.params[j]? = some t → args[j]? = some v → Value.okWide Try.prog W .any base t v := hval0
  have hW' := hW
  obtain ⟨p, q, hA0, hV, rfl, hfz, hnd⟩ := hW
  have hA : DataW.TrodAll enc Try.prog W 0 (fun _ => true) true Try.f5.params.toList args.toList ds p := hA0
  rw [Try.params5] at hA hval
  obtain ⟨v0, vs0, d0, ds0, p0, q0, hargs, rfl, rfl, h0, r0⟩ := trodAll_cons hA
  obtain ⟨v1, vs1, d1, ds1, p1, q1, rfl, rfl, rfl, h1, r1⟩ := trodAll_cons r0
  obtain ⟨rfl, rfl, rfl⟩ := trodAll_nil r1
  obtain rfl : args = #[v0, v1] := by cases args; simp_all
  obtain ⟨rfl, rfl⟩ := trodVars_none hV
  obtain ⟨s0, rfl, rfl, rfl, ws0⟩ := open_string Try.underlying9 (hval 0 9 v0 rfl rfl) h0
  obtain ⟨n1, rfl, rfl, rfl, un1⟩ := open_int Try.underlying3 (hval 1 3 v1 rfl rfl) h1
  have wn1 := I64.of_wf un1
  clear hA0 hval0
  simp only [List.append_nil] at hW'
  refine (cuts_core s0 (by unfold maxLen at ws0; exact ws0) n1 wn1 W).mono fun e W' ⟨he, hb⟩ => ?_
  subst he
  exact ⟨_, rfl, close_below (pa := []) (pv := []) hW' (fun _ _ _ => (trodAll_cons_mk (shut_bool Try.underlying4 _) trodAll_mk0)) (fun sp _ => (trodAll_cons_mk (shut_string Try.underlying9 ws0) (trodAll_cons_mk (shut_int Try.underlying3 un1) trodAll_mk0)))
    (fun _ _ => rfl) rfl hb (ok_one (by kernel_rfl) rfl (okWide_bool_mk Try.underlying4 _))⟩

theorem titleCuts_holds : Rows.TitleCutsSaid :=
  OpenClaim.holds_of_wide 5 Try.f5 rfl rfl rfl rfl rfl rfl rfl ⟨rfl, rfl, rfl, rfl, rfl⟩ rfl rfl rfl rfl rfl (by kernel_rfl) Try.func5 (by kernel_rfl)
    (of_decide_eq_true (by kernel_rfl)) (by unfold Func.isWrapper; first | (rw [if_pos (by decide +kernel)]; kernel_rfl) | (rw [if_neg (by decide +kernel)]; exact ⟨rfl, rfl⟩))
    (fun os started H enc _ => titleCuts_lifted os started H enc)

#print axioms titleCuts_holds

end Go.Proofs.Ytcfckhelpnielaa
