/-
  What is proved: the statement TitleJoins: two texts of whole signs, one behind the other, have the signs of both, and are as wide. No conditions.
-/
import Derived.Test.YtcfckhelpnielaaVz
import Derived.ChangeMaps5
namespace Go.Proofs.Ytcfckhelpnielaa
open Go.ChangeShapes Go.WideShapes Go.ChangeAt Go.RowKit Go.Joins Go.Sort
open Go.ChangeMaps (open_string shut_string)
attribute [local go_sem ↓] run_min2 run_max2

set_option maxRecDepth 100000 in
set_option maxHeartbeats 4000000 in
theorem joins_core (s t : ByteArray) (hs : s.size ≤ 9223372036854775807) (ht : t.size ≤ 9223372036854775807) (w : World) : Calls Try.prog 7 #[.string s, .string t] w (Bt w (.bool true)) := by
  have cf : ∀ w, Calls Try.prog 11 #[.string s, .int .i64 60] w fun e w' => e = .returned (.string (bs (s.data.toList.take 60))) ∧ w = w' := fun w => few1 s hs 60 (by omega) w
  have cg : ∀ w, Calls Try.prog 11 #[.string t, .int .i64 60] w fun e w' => e = .returned (.string (bs (t.data.toList.take 60))) ∧ w = w' := fun w => few1 t ht 60 (by omega) w
  have hT : (bs (s.data.toList.take 60)).size ≤ 60 := by rw [bs_size, List.length_take]; omega
  have hU : (bs (t.data.toList.take 60)).size ≤ 60 := by rw [bs_size, List.length_take]; omega
  have G := Bl.refl w
  generalize bs (s.data.toList.take 60) = T at *
  generalize bs (t.data.toList.take 60) = U at *
  have c1 := fun w => rclean1 T (by omega) w
  have c2 := fun w => rclean1 U (by omega) w
  have h1 := sgs_ok T.data.toList
  have h2 := sgs_ok U.data.toList
  obtain ⟨A, hA⟩ : ∃ A, A = clN (sgs T.data.toList) := ⟨_, rfl⟩
  obtain ⟨B, hB⟩ : ∃ B, B = clN (sgs U.data.toList) := ⟨_, rfl⟩
  have vA : ∀ c ∈ A, Vr c := by rw [hA]; exact clN_vr h1
  have vB : ∀ c ∈ B, Vr c := by rw [hB]; exact clN_vr h2
  have lA : (encs A).length ≤ 256 := by rw [hA]; exact clX_len h1
  have lB : (encs B).length ≤ 256 := by rw [hB]; exact clX_len h2
  have nA : A.length ≤ 64 := by rw [hA]; exact (clN_len _).1
  have nB : B.length ≤ 64 := by rw [hB]; exact (clN_len _).1
  rw [show clX (sgs T.data.toList) = encs A by rw [hA]; rfl] at c1
  rw [show clX (sgs U.data.toList) = encs B by rw [hB]; rfl] at c2
  clear hA hB h1 h2
  have sA : sgs (encs A) = A.map good := sgs_encs0 A vA
  have sB : sgs (encs B) = B.map good := sgs_encs0 B vB
  have sAB : sgs (encs A ++ encs B) = A.map good ++ B.map good := by rw [sgs_encs A _ vA, sB]
  have c3 := fun w => count1 (bs (encs A) ++ bs (encs B)) (by rw [bs_app, bs_size, List.length_append]; omega) w
  have c4 := fun w => count1 (bs (encs A)) (by rw [bs_size]; omega) w
  have c5 := fun w => count1 (bs (encs B)) (by rw [bs_size]; omega) w
  have c6 := fun w => twidth1 (bs (encs A) ++ bs (encs B)) (by rw [bs_app, bs_size, List.length_append]; omega) w
  have c7 := fun w => twidth1 (bs (encs A)) (by rw [bs_size]; omega) w
  have c8 := fun w => twidth1 (bs (encs B)) (by rw [bs_size]; omega) w
  have c9 := fun w => tcut1 (bs (encs A) ++ bs (encs B)) (by rw [bs_app, bs_size, List.length_append]; omega) (wid (A.map good)) w
  have hcb : encs A <+: glue (cutS (wid (A.map good)) 0 (A.map good ++ B.map good)) := by
    have h := cutS_begin (X := A.map good) (Y := B.map good)
    obtain ⟨t, ht⟩ := h
    rw [← ht, glue_app, glue_good]
    exact List.prefix_append _ _
  have hcl : (glue (cutS (wid (A.map good)) 0 (A.map good ++ B.map good))).length ≤ 1000 := by
    have h := List.prefix_iff_eq_take.1 (cutS_pre (wid (A.map good)) (sgs (encs A ++ encs B)) 0)
    rw [sAB] at h
    rw [h, ← sAB, pos_take, List.length_take, List.length_append]
    omega
  have c10 := fun w => begins1 (bs (glue (cutS (wid (A.map good)) 0 (A.map good ++ B.map good)))) (bs (encs A)) (by rw [bs_size]; omega) (by rw [bs_size]; omega) (by rw [bs_list, bs_list]; exact hcb) w
  rw [bs_app, bs_list, sAB] at c3 c6 c9
  rw [bs_list, sA] at c4 c7
  rw [bs_list, sB] at c5 c8
  rw [wid_app] at c6
  rw [List.length_append] at c3
  have hwA := wid_bd (A.map good)
  have hwB := wid_bd (B.map good)
  simp only [List.length_map] at c3 c4 c5 hwA hwB
  have hab := bs_app (encs A) (encs B)
  have hsA : (bs (encs A)).size ≤ 256 := by rw [bs_size]; exact lA
  have hsB : (bs (encs B)).size ≤ 256 := by rw [bs_size]; exact lB
  clear sA sB sAB hcb hcl vA vB lA lB
  generalize glue (cutS (wid (A.map good)) 0 (A.map good ++ B.map good)) = D at *
  generalize wid (A.map good) = va at *
  generalize wid (B.map good) = vb at *
  generalize bs (encs A ++ encs B) = Z at *
  generalize bs (encs A) = X at *
  generalize bs (encs B) = Y at *
  generalize A.length = na at *
  generalize B.length = nb' at *
  have e3 : (((na + nb' : Nat)) : Int) = (na : Int) + (nb' : Int) := by omega
  rw [e3] at c3
  obtain ⟨wa0, wa1⟩ := hwA
  obtain ⟨wb0, wb1⟩ := hwB
  have na' : (na : Int) ≤ 64 := by omega
  have nb2 : (nb' : Int) ≤ 64 := by omega
  have va1 : va ≤ 200 := by omega
  have vb1 : vb ≤ 200 := by omega
  clear e3 wa1 wb1
  go_enter Try.func7, Try.ntmps7
  go_wp2_with fail
  refine (cf _).mono ?_
  rintro e w1 ⟨rfl, rfl⟩
  go_wp2_with fail
  refine (c1 _).mono ?_
  rintro e w2 ⟨rfl, g⟩
  replace G := Bl.trans G g
  clear g
  go_wp2_with fail
  refine (cg _).mono ?_
  rintro e w3 ⟨rfl, rfl⟩
  go_wp2_with fail
  refine (c2 _).mono ?_
  rintro e w4 ⟨rfl, g⟩
  replace G := Bl.trans G g
  clear g
  go_wp2_with fail
  refine (c3 _).mono ?_
  rintro e w5 ⟨rfl, g⟩
  replace G := Bl.trans G g
  clear g
  go_wp2_with fail
  refine (c4 _).mono ?_
  rintro e w6 ⟨rfl, g⟩
  replace G := Bl.trans G g
  clear g
  go_wp2_with fail
  refine (c5 _).mono ?_
  rintro e w7 ⟨rfl, g⟩
  replace G := Bl.trans G g
  clear g
  go_wp2_with fail
  refine (c6 _).mono ?_
  rintro e w8 ⟨rfl, g⟩
  replace G := Bl.trans G g
  clear g
  go_wp2_with fail
  refine (c7 _).mono ?_
  rintro e w9 ⟨rfl, g⟩
  replace G := Bl.trans G g
  clear g
  go_wp2_with fail
  refine (c8 _).mono ?_
  rintro e w10 ⟨rfl, g⟩
  replace G := Bl.trans G g
  clear g
  go_wp2_with fail
  refine (c7 _).mono ?_
  rintro e w11 ⟨rfl, g⟩
  replace G := Bl.trans G g
  clear g
  go_wp2_with fail
  refine (c9 _).mono ?_
  rintro e w12 ⟨rfl, g⟩
  replace G := Bl.trans G g
  clear g
  go_wp2_with fail
  refine (c10 _).mono ?_
  rintro e w13 ⟨rfl, rfl⟩
  go_wp2_with fail
  refine (tlives1 _).mono ?_
  rintro e w14 ⟨rfl, g⟩
  replace G := Bl.trans G g
  clear g
  go_wp2
  go_ret
  exact ⟨rfl, G⟩

set_option maxRecDepth 100000 in
theorem titleJoins_lifted (os : Os) (started : os.Started) (H : Type) (enc : TypeId × Value → H) :
    ReturnsInHanded {} Try.checked os 7 .any (Rows.titleJoinsSpec.pre6 enc Try.prog Try.f7 Rows.titleJoinsRow.domain false) (Rows.titleJoinsSpec.post enc Try.prog Try.f7 false true false false) := by
  refine returnsInHanded_of_change (C := Try.checked) own started (by kernel_rfl) Try.func7
    (ChangeSpec.witness6 (enc := enc) (C := Try.checked) false ⟨#[], #[.string ByteArray.empty, .string ByteArray.empty], []⟩ 8 (by kernel_rfl) (by kernel_rfl) (by kernel_rfl) (by kernel_rfl)) ?_
  intro W base args ds gs before hval0 hW hcnd _
  have hval : ∀ (j : Nat) t v, Try.f7.params[j]? = some t → args[j]? = some v → Value.okWide Try.prog W .any base t v := hval0
  have hW' := hW
  obtain ⟨p, q, hA0, hV, rfl, hfz, hnd⟩ := hW
  have hA : DataW.TrodAll enc Try.prog W 0 (fun _ => true) true Try.f7.params.toList args.toList ds p := hA0
  rw [Try.params7] at hA hval
  obtain ⟨v0, vs0, d0, ds0, p0, q0, hargs, rfl, rfl, h0, r0⟩ := trodAll_cons hA
  obtain ⟨v1, vs1, d1, ds1, p1, q1, rfl, rfl, rfl, h1, r1⟩ := trodAll_cons r0
  obtain ⟨rfl, rfl, rfl⟩ := trodAll_nil r1
  obtain rfl : args = #[v0, v1] := by cases args; simp_all
  obtain ⟨rfl, rfl⟩ := trodVars_none hV
  obtain ⟨s0, rfl, rfl, rfl, ws0⟩ := open_string Try.underlying9 (hval 0 9 v0 rfl rfl) h0
  obtain ⟨s1, rfl, rfl, rfl, ws1⟩ := open_string Try.underlying9 (hval 1 9 v1 rfl rfl) h1
  clear hA0 hval0
  simp only [List.append_nil] at hW'
  refine (joins_core s0 s1 (by unfold maxLen at ws0; exact ws0) (by unfold maxLen at ws1; exact ws1) W).mono fun e W' ⟨he, hb⟩ => ?_
  subst he
  exact ⟨_, rfl, close_below (pa := []) (pv := []) hW' (fun _ _ _ => (trodAll_cons_mk (shut_bool Try.underlying4 _) trodAll_mk0)) (fun sp _ => (trodAll_cons_mk (shut_string Try.underlying9 ws0) (trodAll_cons_mk (shut_string Try.underlying9 ws1) trodAll_mk0)))
    (fun _ _ => rfl) rfl hb (ok_one (by kernel_rfl) rfl (okWide_bool_mk Try.underlying4 _))⟩

theorem titleJoins_holds : Rows.TitleJoinsSaid :=
  OpenClaim.holds_of_wide 7 Try.f7 rfl rfl rfl rfl rfl rfl rfl ⟨rfl, rfl, rfl, rfl, rfl⟩ rfl rfl rfl rfl rfl (by kernel_rfl) Try.func7 (by kernel_rfl)
    (of_decide_eq_true (by kernel_rfl)) (by unfold Func.isWrapper; first | (rw [if_pos (by decide +kernel)]; kernel_rfl) | (rw [if_neg (by decide +kernel)]; exact ⟨rfl, rfl⟩))
    (fun os started H enc _ => titleJoins_lifted os started H enc)

#print axioms titleJoins_holds

end Go.Proofs.Ytcfckhelpnielaa
