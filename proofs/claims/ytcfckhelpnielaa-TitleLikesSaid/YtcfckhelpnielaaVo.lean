/-
  What is proved: what Pad and Like of package title hand back, and the statements' example (lives). No conditions but bounds.
-/
import Derived.Test.YtcfckhelpnielaaVk
import Derived.Test.YtcfckhelpnielaaVn
import Derived.Test.YtcfckhelpnielaaVh
namespace Go.Proofs.Ytcfckhelpnielaa
open Go.RowKit Go.Sort Go.Shelf
attribute [local go_sem ↓] run_min2 run_max2

theorem repeat32 : ∀ m : Nat, Lib.repeatL [32] m = List.replicate m 32
  | 0 => rfl
  | m + 1 => by
    show [32] ++ Lib.repeatL [32] m = _
    rw [repeat32 m]; rfl
set_option maxRecDepth 100000 in
set_option maxHeartbeats 2000000 in
theorem tpad1 (s : ByteArray) (hs : s.size ≤ 1000000) (n : Int) (hn : -65536 ≤ n) (hn2 : n ≤ 65536) (w : World) : Calls Try.prog 24 #[.string s, .int .i64 n] w (Bt w (.string (bs (padX n s.data.toList)))) := by
  have cc := fun w => tcut1 s hs n w
  have hw0 := wid_bd (cutS n 0 (sgs s.data.toList))
  have hle : (glue (cutS n 0 (sgs s.data.toList))).length ≤ s.size := by
    have h := List.prefix_iff_eq_take.1 (cutS_pre n (sgs s.data.toList) 0)
    rw [h, pos_take, List.length_take, size_list]
    omega
  have hcl : (cutS n 0 (sgs s.data.toList)).length ≤ s.size := by
    have h1 := (cutS_pre n (sgs s.data.toList) 0).length_le
    have h2 := sgs_len s.data.toList
    rw [size_list] at h2
    omega
  have cw := fun w => twidth1 (bs (glue (cutS n 0 (sgs s.data.toList)))) (by rw [bs_size]; omega) w
  rw [bs_list, sgs_cut] at cw
  have hx : padX n s.data.toList = glue (cutS n 0 (sgs s.data.toList)) ++ List.replicate (max (n - wid (cutS n 0 (sgs s.data.toList))) 0).toNat 32 := rfl
  rw [hx, ← bs_app]
  clear hx
  generalize wid (cutS n 0 (sgs s.data.toList)) = v at *
  generalize hC : bs (glue (cutS n 0 (sgs s.data.toList))) = C at *
  have hCs : C.size ≤ 1000000 := by rw [← hC, bs_size]; omega
  clear hC
  obtain ⟨v0, v1⟩ := hw0
  have hv : v ≤ 2000000 := by omega
  obtain ⟨m, hm⟩ : ∃ m, m = (max (n - v) 0).toNat := ⟨_, rfl⟩
  rw [← hm]
  have hmi : max (n - v) 0 = (m : Int) := by omega
  have hml : m ≤ 65536 := by omega
  clear hm hle hcl
  have cr := fun w => sh_strings_Repeat ⟨#[32]⟩ m w (by omega) (by show 1 * m ≤ _; omega)
  rw [show (⟨#[32]⟩ : ByteArray).data.toList = [32] from rfl, repeat32] at cr
  have hTs : (bs (List.replicate m 32)).size ≤ 65536 := by rw [bs_size, List.length_replicate]; exact hml
  rw [show (⟨(List.replicate m 32).toArray⟩ : ByteArray) = bs (List.replicate m 32) from rfl] at cr
  generalize bs (List.replicate m 32) = T at *
  have hmin : min n 65536 = n := by omega
  replace hmi := Lib.hid hmi
  go_enter Try.func24, Try.ntmps24
  go_wp2_with fail
  refine (cc _).mono ?_
  rintro e w1 ⟨rfl, g1⟩
  clear hmin
  go_wp2_with fail
  refine (cw _).mono ?_
  rintro e w2 ⟨rfl, g2⟩
  go_wp2_with fail
  rw [hmi.out]
  refine (cr _).mono ?_
  rintro e w3 ⟨rfl, g3⟩
  go_wp2
  go_ret
  exact ⟨rfl, (Bl.trans g1 g2).trans g3⟩

set_option maxRecDepth 100000 in
set_option maxHeartbeats 2000000 in
theorem tlike1 (s t : ByteArray) (hs : s.size ≤ 1000000) (ht : t.size ≤ 1000000) (w : World) : Calls Try.prog 26 #[.string s, .string t] w (Bt w (.bool (decide (lowN (sgs s.data.toList) = lowN (sgs t.data.toList))))) := by
  have c1 := fun w => tsmall1 s hs w
  have c2 := fun w => tsmall1 t ht w
  have vr : ∀ l : List UInt8, ∀ c ∈ lowN (sgs l), Vr c := fun l c hc => by
    unfold lowN at hc
    rw [List.mem_map] at hc
    obtain ⟨x, hx, rfl⟩ := hc
    exact lowZ_bd (sgs_ok l x hx).vr
  have hb : ((bs (encs (lowN (sgs s.data.toList)))).toList == (bs (encs (lowN (sgs t.data.toList)))).toList) = decide (lowN (sgs s.data.toList) = lowN (sgs t.data.toList)) := by
    rw [Bool.eq_iff_iff, beq_iff_eq, decide_eq_true_iff, ByteArray.toList_eq, ByteArray.toList_eq, bs_list, bs_list]
    exact ⟨fun h => encs_inj (vr _) (vr _) h, fun h => by rw [h]⟩
  generalize bs (encs (lowN (sgs s.data.toList))) = A at *
  generalize bs (encs (lowN (sgs t.data.toList))) = B at *
  rw [← hb]
  clear hb vr
  go_enter Try.func26, Try.ntmps26
  go_wp2_with fail
  refine (c1 _).mono ?_
  rintro e w1 ⟨rfl, g1⟩
  go_wp2_with fail
  refine (c2 _).mono ?_
  rintro e w2 ⟨rfl, g2⟩
  go_wp2
  go_ret
  exact ⟨rfl, Bl.trans g1 g2⟩

set_option maxRecDepth 100000 in
theorem tlives1 (w : World) : Calls Try.prog 17 #[] w (Bt w (.bool true)) := by
  have c := fun w => tcut1 ⟨#[230, 151, 165, 230, 156, 172]⟩ (by decide) 3 w
  have hx : bs (glue (cutS 3 0 (sgs (⟨#[230, 151, 165, 230, 156, 172]⟩ : ByteArray).data.toList))) = ⟨#[230, 151, 165]⟩ := by
    have e : (⟨#[230, 151, 165, 230, 156, 172]⟩ : ByteArray).data.toList = encs [26085, 26412] := by decide
    rw [e, sgs_encs0 _ (by intro c hc; simp at hc; rcases hc with rfl | rfl <;> (unfold Vr; omega))]
    have e2 : cutS 3 0 ([26085, 26412].map good) = [good 26085] := by
      show (if (3 : Int) < 0 + widZ 26085 then [] else good 26085 :: (if (3 : Int) < 0 + widZ 26085 + widZ 26412 then [] else _)) = _
      rw [if_neg (by decide), if_pos (by decide)]
    rw [e2]
    rfl
  rw [hx] at c
  go_enter Try.func17, Try.ntmps17
  go_wp2_with fail
  refine (c _).mono ?_
  rintro e w1 ⟨rfl, g1⟩
  go_wp2
  go_ret
  exact ⟨rfl, g1⟩

end Go.Proofs.Ytcfckhelpnielaa
