/-
  What is proved: the statement TitleOdd: a sign that is odd, or broken, makes a text no title, and is told as ?. No conditions.
-/
import Derived.Test.YtcfckhelpnielaaVz
import Derived.ChangeMaps5
namespace Go.Proofs.Ytcfckhelpnielaa
open Go.ChangeShapes Go.WideShapes Go.ChangeAt Go.RowKit Go.Joins Go.Sort
open Go.ChangeMaps (open_string shut_string)
attribute [local go_sem ↓] run_min2 run_max2

set_option maxRecDepth 100000 in
set_option maxHeartbeats 4000000 in
theorem odd_core (s : ByteArray) (hs : s.size ≤ 9223372036854775807) (c : Int) (hc : U8r c) (br : Bool) (w : World) : Calls Try.prog 8 #[.string s, .int .u8 c, .bool br] w (Bt w (.bool true)) := by
  have cf : ∀ w, Calls Try.prog 11 #[.string s, .int .i64 40] w fun e w' => e = .returned (.string (bs (s.data.toList.take 40))) ∧ w = w' := fun w => few1 s hs 40 (by omega) w
  have hT : (bs (s.data.toList.take 40)).size ≤ 40 := by rw [bs_size, List.length_take]; omega
  have G := Bl.refl w
  generalize bs (s.data.toList.take 40) = T at *
  obtain ⟨hc0, hc1⟩ := hc
  have c1 := fun w => rclean1 T (by omega) w
  have h1 := sgs_ok T.data.toList
  have hl := sgs_len T.data.toList
  rw [size_list] at hl
  obtain ⟨A, hA⟩ : ∃ A, A = clN (sgs T.data.toList) := ⟨_, rfl⟩
  have vA : ∀ c ∈ A, Vr c := by rw [hA]; exact clN_vr h1
  have eA : ∀ c ∈ A, oddB c = false := by rw [hA]; exact clN_even _
  have lA : (encs A).length ≤ 256 := by rw [hA]; exact clX_len h1
  have nA : A.length ≤ 40 := by rw [hA]; have := (clN_len (sgs T.data.toList)).2; omega
  rw [show clX (sgs T.data.toList) = encs A by rw [hA]; rfl] at c1
  clear hA h1 hl
  obtain ⟨o, ho⟩ : ∃ o : Int, o = if br = true then 128 + c % 64 else c % 32 := ⟨_, rfl⟩
  have ho0 : (0 ≤ o ∧ o < 32) ∨ (128 ≤ o ∧ o < 192) := by rw [ho]; split <;> omega
  have sA : sgs (encs A) = A.map good := sgs_encs0 A vA
  obtain ⟨y, hy, hyo⟩ : ∃ y : Sg, sgs [o.toNat.toUInt8] = [y] ∧ okS y = false := own_odd ho0
  have sAO : sgs (encs A ++ [o.toNat.toUInt8]) = A.map good ++ [y] := by rw [sgs_encs A _ vA, hy]
  have c2 := fun w => rsigns1 (bs (encs A)) (by rw [bs_size]; omega) w
  have c3 := fun w => tmay1 (bs (encs A)) (by rw [bs_size]; omega) w
  have c4 := fun w => tmay1 (bs (encs A) ++ bs [o.toNat.toUInt8]) (by rw [bs_app, bs_size, List.length_append]; simp; omega) w
  have c5 := fun w => tclean1 (bs (encs A) ++ bs [o.toNat.toUInt8]) (by rw [bs_app, bs_size, List.length_append]; simp; omega) w
  have c6 := fun w => count1 (bs (encs A) ++ bs [o.toNat.toUInt8]) (by rw [bs_app, bs_size, List.length_append]; simp; omega) w
  have c7 := fun w => count1 (bs (encs A)) (by rw [bs_size]; omega) w
  rw [bs_app, bs_list, sAO] at c4 c5 c6
  rw [bs_list, sA] at c2 c3 c7
  rw [mayX_good (by omega) eA] at c3
  rw [mayX_bad hyo] at c4
  have hcl : clX (A.map good ++ [y]) = encs A ++ [63] := by
    unfold clX clN
    rw [List.take_of_length_le (by simp; omega), List.map_append, List.map_map]
    have : ∀ c ∈ A, (clR ∘ good) c = c := fun c hc => by simp [clR, good, eA c hc]
    rw [List.map_congr_left this, List.map_id', encs_app]
    have hy63 : clR y = 63 := by
      unfold clR
      rw [if_pos]
      unfold okS at hyo
      cases h : oddB y.r <;> cases h' : y.bad <;> simp [h, h'] at hyo ⊢
    rw [List.map_cons, hy63]
    rfl
  rw [hcl, show bs (encs A ++ [63]) = bs (encs A) ++ ⟨#[63]⟩ from (bs_app _ _).symm] at c5
  rw [List.length_append, List.length_map] at c6
  simp only [List.length_map] at c2 c7
  have hap := bs_app (encs A) [o.toNat.toUInt8]
  have hsA : (bs (encs A)).size ≤ 256 := by rw [bs_size]; exact lA
  have hsO : (bs [o.toNat.toUInt8]).size = 1 := bs_size _
  have e6 : ((A.length + [y].length : Nat) : Int) = (A.length : Int) + 1 := by simp
  rw [e6] at c6
  have q1 : decide (60 < A.length) = false := by simp; omega
  have q2 : decide ((60 : Int) < A.length) = false := by simp; omega
  have na2 : (A.length : Int) ≤ 40 := by omega
  clear sA sAO hcl hy hyo vA eA lA e6 ho0
  generalize A.length = na at *
  generalize bs (encs A ++ [o.toNat.toUInt8]) = Z at *
  generalize bs (encs A) = X at *
  cases br
  · have hoo : o = c % 32 := by rw [ho]; rfl
    subst hoo
    clear ho
    have hr0 : 0 ≤ c % 32 ∧ c % 32 ≤ 255 := by omega
    obtain ⟨hr0, hr1⟩ := hr0
    have v1 := fun w => conv1 w (c % 32) (by omega) (by omega)
    generalize bs [(c % 32).toNat.toUInt8] = O at *
    go_enter Try.func8, Try.ntmps8
    go_wp2_with fail
    refine (cf _).mono ?_
    rintro e w1 ⟨rfl, rfl⟩
    go_wp2_with fail
    refine (c1 _).mono ?_
    rintro e w2 ⟨rfl, g⟩
    replace G := Bl.trans G g
    clear g
    go_wp2_with fail
    refine (c2 _).mono ?_
    rintro e w7 ⟨A', c', rfl, _, g⟩
    replace G := (G.alloc (.cells #[.int .u8 (c % 32)] 5)).trans g
    clear g
    go_wp2_with fail
    refine (c3 _).mono ?_
    rintro e w8 ⟨rfl, g⟩
    replace G := Bl.trans G g
    clear g
    go_wp2_with fail
    refine (c4 _).mono ?_
    rintro e w9 ⟨rfl, g⟩
    replace G := Bl.trans G g
    clear g
    go_wp2_with fail
    refine (c5 _).mono ?_
    rintro e w10 ⟨rfl, g⟩
    replace G := Bl.trans G g
    clear g
    go_wp2_with fail
    refine (c6 _).mono ?_
    rintro e w11 ⟨rfl, g⟩
    replace G := Bl.trans G g
    clear g
    go_wp2_with fail
    refine (c7 _).mono ?_
    rintro e w12 ⟨rfl, g⟩
    replace G := Bl.trans G g
    clear g
    go_wp2_with fail
    refine (tlives1 _).mono ?_
    rintro e w13 ⟨rfl, g⟩
    replace G := Bl.trans G g
    clear g
    go_wp2
    go_ret
    exact ⟨rfl, G⟩
  · have hoo : o = 128 + c % 64 := by rw [ho]; rfl
    subst hoo
    clear ho
    have hr0 : 0 ≤ 128 + c % 64 ∧ 128 + c % 64 ≤ 255 := by omega
    obtain ⟨hr0, hr1⟩ := hr0
    have v1 := fun w => conv1 w (c % 32) (by omega) (by omega)
    have v2 := fun w a t => conv2 w (128 + c % 64) (by omega) (by omega) a t
    generalize bs [(c % 32).toNat.toUInt8] = O1 at *
    generalize bs [(128 + c % 64).toNat.toUInt8] = O at *
    go_enter Try.func8, Try.ntmps8
    go_wp2_with fail
    refine (cf _).mono ?_
    rintro e w1 ⟨rfl, rfl⟩
    go_wp2_with fail
    refine (c1 _).mono ?_
    rintro e w2 ⟨rfl, g⟩
    replace G := Bl.trans G g
    clear g
    go_wp2_with fail
    refine (c2 _).mono ?_
    rintro e w7 ⟨A', c', rfl, _, g⟩
    replace G := ((G.alloc (.cells #[.int .u8 (c % 32)] 5)).alloc (.cells #[.int .u8 (128 + c % 64)] 5)).trans g
    clear g
    go_wp2_with fail
    refine (c3 _).mono ?_
    rintro e w8 ⟨rfl, g⟩
    replace G := Bl.trans G g
    clear g
    go_wp2_with fail
    refine (c4 _).mono ?_
    rintro e w9 ⟨rfl, g⟩
    replace G := Bl.trans G g
    clear g
    go_wp2_with fail
    refine (c5 _).mono ?_
    rintro e w10 ⟨rfl, g⟩
    replace G := Bl.trans G g
    clear g
    go_wp2_with fail
    refine (c6 _).mono ?_
    rintro e w11 ⟨rfl, g⟩
    replace G := Bl.trans G g
    clear g
    go_wp2_with fail
    refine (c7 _).mono ?_
    rintro e w12 ⟨rfl, g⟩
    replace G := Bl.trans G g
    clear g
    go_wp2_with fail
    refine (tlives1 _).mono ?_
    rintro e w13 ⟨rfl, g⟩
    replace G := Bl.trans G g
    clear g
    go_wp2
    go_ret
    exact ⟨rfl, G⟩

set_option maxRecDepth 100000 in
theorem titleOdd_lifted (os : Os) (started : os.Started) (H : Type) (enc : TypeId × Value → H) :
    ReturnsInHanded {} Try.checked os 8 .any (Rows.titleOddSpec.pre6 enc Try.prog Try.f8 Rows.titleOddRow.domain false) (Rows.titleOddSpec.post enc Try.prog Try.f8 false true false false) := by
  refine returnsInHanded_of_change (C := Try.checked) own started (by kernel_rfl) Try.func8
    (ChangeSpec.witness6 (enc := enc) (C := Try.checked) false ⟨#[], #[.string ByteArray.empty, .int .u8 0, .bool false], []⟩ 8 (by kernel_rfl) (by kernel_rfl) (by kernel_rfl) (by kernel_rfl)) ?_
  intro W base args ds gs before hval0 hW hcnd _
  have hval : ∀ (j : Nat) t v, Try.f8.params[j]? = some t → args[j]? = some v → Value.okWide Try.prog W .any base t v := hval0
  have hW' := hW
  obtain ⟨p, q, hA0, hV, rfl, hfz, hnd⟩ := hW
  have hA : DataW.TrodAll enc Try.prog W 0 (fun _ => true) true Try.f8.params.toList args.toList ds p := hA0
  rw [Try.params8] at hA hval
  obtain ⟨v0, vs0, d0, ds0, p0, q0, hargs, rfl, rfl, h0, r0⟩ := trodAll_cons hA
  obtain ⟨v1, vs1, d1, ds1, p1, q1, rfl, rfl, rfl, h1, r1⟩ := trodAll_cons r0
  obtain ⟨v2, vs2, d2, ds2, p2, q2, rfl, rfl, rfl, h2, r2⟩ := trodAll_cons r1
  obtain ⟨rfl, rfl, rfl⟩ := trodAll_nil r2
  obtain rfl : args = #[v0, v1, v2] := by cases args; simp_all
  obtain ⟨rfl, rfl⟩ := trodVars_none hV
  obtain ⟨s0, rfl, rfl, rfl, ws0⟩ := open_string Try.underlying9 (hval 0 9 v0 rfl rfl) h0
  obtain ⟨n1, rfl, rfl, rfl, un1⟩ := open_int Try.underlying5 (hval 1 5 v1 rfl rfl) h1
  have wn1 := U8.of_wf un1
  obtain ⟨b2, rfl, rfl, rfl⟩ := open_bool Try.underlying4 (hval 2 4 v2 rfl rfl) h2
  clear hA0 hval0
  simp only [List.append_nil] at hW'
  refine (odd_core s0 (by unfold maxLen at ws0; exact ws0) n1 wn1 b2 W).mono fun e W' ⟨he, hb⟩ => ?_
  subst he
  exact ⟨_, rfl, close_below (pa := []) (pv := []) hW' (fun _ _ _ => (trodAll_cons_mk (shut_bool Try.underlying4 _) trodAll_mk0)) (fun sp _ => (trodAll_cons_mk (shut_string Try.underlying9 ws0) (trodAll_cons_mk (shut_int Try.underlying5 un1) (trodAll_cons_mk (shut_bool Try.underlying4 b2) trodAll_mk0))))
    (fun _ _ => rfl) rfl hb (ok_one (by kernel_rfl) rfl (okWide_bool_mk Try.underlying4 _))⟩

theorem titleOdd_holds : Rows.TitleOddSaid :=
  OpenClaim.holds_of_wide 8 Try.f8 rfl rfl rfl rfl rfl rfl rfl ⟨rfl, rfl, rfl, rfl, rfl⟩ rfl rfl rfl rfl rfl (by kernel_rfl) Try.func8 (by kernel_rfl)
    (of_decide_eq_true (by kernel_rfl)) (by unfold Func.isWrapper; first | (rw [if_pos (by decide +kernel)]; kernel_rfl) | (rw [if_neg (by decide +kernel)]; exact ⟨rfl, rfl⟩))
    (fun os started H enc _ => titleOdd_lifted os started H enc)

#print axioms titleOdd_holds

end Go.Proofs.Ytcfckhelpnielaa
