/-
  What is proved: the statement TitleClean: which texts are titles, and the title of a text, is the document's; it is one, and its own. No conditions.
-/
import Derived.Test.YtcfckhelpnielaaVz
import Derived.ChangeMaps5
namespace Go.Proofs.Ytcfckhelpnielaa
open Go.ChangeShapes Go.WideShapes Go.ChangeAt Go.RowKit Go.Joins Go.Sort
open Go.ChangeMaps (open_string shut_string)
attribute [local go_sem ↓] run_min2 run_max2

set_option maxRecDepth 100000 in
set_option maxHeartbeats 4000000 in
theorem clean_core (s : ByteArray) (hs : s.size ≤ 9223372036854775807) (w : World) : Calls Try.prog 4 #[.string s] w (Bt w (.bool true)) := by
  have cf : ∀ w, Calls Try.prog 11 #[.string s, .int .i64 300] w fun e w' => e = .returned (.string (bs (s.data.toList.take 300))) ∧ w = w' := fun w => few1 s hs 300 (by omega) w
  have hT : (bs (s.data.toList.take 300)).size ≤ 300 := by rw [bs_size, List.length_take]; omega
  have G := Bl.refl w
  generalize bs (s.data.toList.take 300) = T at *
  have hok := sgs_ok T.data.toList
  have c1 := fun w => tclean1 T (by omega) w
  have c2 := fun w => rclean1 T (by omega) w
  have c3 := fun w => tmay1 T (by omega) w
  have c4 := fun w => rmay1 T (by omega) w
  have hC : (bs (clX (sgs T.data.toList))).size ≤ 256 := by rw [bs_size]; exact clX_len hok
  have c5 := fun w => tmay1 (bs (clX (sgs T.data.toList))) (by omega) w
  have c6 := fun w => tclean1 (bs (clX (sgs T.data.toList))) (by omega) w
  have c7 := fun w => rmay1 (bs (clX (sgs T.data.toList))) (by omega) w
  rw [bs_list, clX_may hok] at c5 c7
  rw [bs_list, clX_again hok] at c6
  generalize bs (clX (sgs T.data.toList)) = C at *
  generalize mayX (sgs T.data.toList) = m at *
  clear hok
  go_enter Try.func4, Try.ntmps4
  go_wp2_with fail
  refine (cf _).mono ?_
  rintro e w1 ⟨rfl, rfl⟩
  go_wp2_with fail
  refine (c1 _).mono ?_
  rintro e w2 ⟨rfl, g⟩
  replace G := Bl.trans G g
  clear g
  go_wp2_with fail
  refine (c2 _).mono ?_
  rintro e w3 ⟨rfl, g⟩
  replace G := Bl.trans G g
  clear g
  go_wp2_with fail
  refine (c3 _).mono ?_
  rintro e w4 ⟨rfl, g⟩
  replace G := Bl.trans G g
  clear g
  go_wp2_with fail
  refine (c4 _).mono ?_
  rintro e w5 ⟨rfl, g⟩
  replace G := Bl.trans G g
  clear g
  go_wp2_with fail
  refine (c5 _).mono ?_
  rintro e w6 ⟨rfl, g⟩
  replace G := Bl.trans G g
  clear g
  go_wp2_with fail
  refine (c6 _).mono ?_
  rintro e w7 ⟨rfl, g⟩
  replace G := Bl.trans G g
  clear g
  go_wp2_with fail
  refine (c7 _).mono ?_
  rintro e w8 ⟨rfl, g⟩
  replace G := Bl.trans G g
  clear g
  go_wp2_with fail
  refine (tlives1 _).mono ?_
  rintro e w9 ⟨rfl, g⟩
  replace G := Bl.trans G g
  clear g
  go_wp2
  go_ret
  exact ⟨rfl, G⟩

set_option maxRecDepth 100000 in
theorem titleClean_lifted (os : Os) (started : os.Started) (H : Type) (enc : TypeId × Value → H) :
    ReturnsInHanded {} Try.checked os 4 .any (Rows.titleCleanSpec.pre6 enc Try.prog Try.f4 Rows.titleCleanRow.domain false) (Rows.titleCleanSpec.post enc Try.prog Try.f4 false true false false) := by
  refine returnsInHanded_of_change (C := Try.checked) own started (by kernel_rfl) Try.func4
    (ChangeSpec.witness6 (enc := enc) (C := Try.checked) false ⟨#[], #[.string ByteArray.empty], []⟩ 8 (by kernel_rfl) (by kernel_rfl) (by kernel_rfl) (by kernel_rfl)) ?_
  intro W base args ds gs before hval0 hW hcnd _
  have hval : ∀ (j : Nat) t v, Try.f4.params[j]? = some t → args[j]? = some v → Value.okWide Try.prog W .any base t v := hval0
  have hW' := hW
  obtain ⟨p, q, hA0, hV, rfl, hfz, hnd⟩ := hW
  have hA : DataW.TrodAll enc Try.prog W 0 (fun _ => true) true Try.f4.params.toList args.toList ds p := hA0
  rw [Try.params4] at hA hval
  obtain ⟨v0, vs0, d0, ds0, p0, q0, hargs, rfl, rfl, h0, r0⟩ := trodAll_cons hA
  obtain ⟨rfl, rfl, rfl⟩ := trodAll_nil r0
  obtain rfl : args = #[v0] := by cases args; simp_all
  obtain ⟨rfl, rfl⟩ := trodVars_none hV
  obtain ⟨s0, rfl, rfl, rfl, ws0⟩ := open_string Try.underlying9 (hval 0 9 v0 rfl rfl) h0
  clear hA0 hval0
  simp only [List.append_nil] at hW'
  refine (clean_core s0 (by unfold maxLen at ws0; exact ws0) W).mono fun e W' ⟨he, hb⟩ => ?_
  subst he
  exact ⟨_, rfl, close_below (pa := []) (pv := []) hW' (fun _ _ _ => (trodAll_cons_mk (shut_bool Try.underlying4 _) trodAll_mk0)) (fun sp _ => (trodAll_cons_mk (shut_string Try.underlying9 ws0) trodAll_mk0))
    (fun _ _ => rfl) rfl hb (ok_one (by kernel_rfl) rfl (okWide_bool_mk Try.underlying4 _))⟩

theorem titleClean_holds : Rows.TitleCleanSaid :=
  OpenClaim.holds_of_wide 4 Try.f4 rfl rfl rfl rfl rfl rfl rfl ⟨rfl, rfl, rfl, rfl, rfl⟩ rfl rfl rfl rfl rfl (by kernel_rfl) Try.func4 (by kernel_rfl)
    (of_decide_eq_true (by kernel_rfl)) (by unfold Func.isWrapper; first | (rw [if_pos (by decide +kernel)]; kernel_rfl) | (rw [if_neg (by decide +kernel)]; exact ⟨rfl, rfl⟩))
    (fun os started H enc _ => titleClean_lifted os started H enc)

#print axioms titleClean_holds

end Go.Proofs.Ytcfckhelpnielaa
