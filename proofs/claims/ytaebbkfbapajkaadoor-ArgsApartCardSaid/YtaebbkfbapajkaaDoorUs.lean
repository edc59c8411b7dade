/-
  What is proved: the document's example; how arguments that are bytes, arguments of the document's package, and rows of these are opened. No conditions.
-/
import Derived.Test.YtaebbkfbapajkaaDoorUr
import Derived.Deep.Slices
namespace Go.Proofs.YtaebbkfbapajkaaDoor
open Go.ChangeShapes Go.WideShapes Go.ChangeAt Go.RowKit Go.Joins Go.Sort Go.Deep

theorem pk_lives : pkR [105, 115] [vI (-1), vS ⟨#[97]⟩] = ([255, 255, 255, 255, 1, 97], 0) := by
  have e1 : put 105 (vI (-1)) = some [255, 255, 255, 255] := by rw [put_i (by unfold small; omega)]; rfl
  have e2 : put 115 (vS ⟨#[97]⟩) = some [1, 97] := by rw [put_s (by decide)]; rfl
  unfold pkR
  rw [if_pos ⟨rfl, rfl⟩]
  simp only [pkA, e1, e2]
  rfl
set_option maxRecDepth 100000 in
set_option maxHeartbeats 4000000 in
theorem livesA (w : World) : Calls Tryd.prog 17 #[] w fun e w' => e = .returned (.bool true) ∧ Bl w w' := by
  have a0 := At.new w #[.iface 3 (.int .i64 (-1)), .iface 9 (.string ⟨#[97]⟩)] 20
  have hY : Yv (w.alloc (.cells #[.iface 3 (.int .i64 (-1)), .iface 9 (.string ⟨#[97]⟩)] 20)) (some ⟨w.heap.size, 0, none⟩) [.iface 3 (.int .i64 (-1)), .iface 9 (.string ⟨#[97]⟩)] := by
    refine .inr ⟨_, 0, rfl, fun k u hk => ?_⟩
    rw [Nat.zero_add, a0.cell k]
    simpa using hk
  have hA : AllA (w.alloc (.cells #[.iface 3 (.int .i64 (-1)), .iface 9 (.string ⟨#[97]⟩)] 20)) [.iface 3 (.int .i64 (-1)), .iface 9 (.string ⟨#[97]⟩)] [vI (-1), vS ⟨#[97]⟩] :=
    .cons (.inl ⟨rfl, rfl⟩) (.cons (.inr (.inl ⟨rfl, rfl⟩)) .nil)
  have G0 : Bl w (w.alloc (.cells #[.iface 3 (.int .i64 (-1)), .iface 9 (.string ⟨#[97]⟩)] 20)) := (Bl.refl w).alloc _
  have cp := apack1 ⟨#[105, 115]⟩ (some ⟨w.heap.size, 0, none⟩) 2 _ _ _ (by decide) (by decide) hY hA
  rw [show (⟨#[105, 115]⟩ : ByteArray).data.toList = [105, 115] from rfl, pk_lives] at cp
  obtain ⟨W, hW⟩ : ∃ W, W = w.alloc (.cells #[.iface 3 (.int .i64 (-1)), .iface 9 (.string ⟨#[97]⟩)] 20) := ⟨_, rfl⟩
  rw [← hW] at cp G0
  clear a0 hY hA
  go_enter Tryd.func17, Tryd.ntmps17
  go_wp2_with fail
  rw [← hW]
  clear hW
  refine cp.mono ?_
  rintro e w1 ⟨A1, c1, rfl, hs, g1⟩
  clear cp
  obtain ⟨A2, c2, hv, _, _, _, hr⟩ := hs
  injection hv with hv1 hv2 hv3
  subst hv1 hv3
  clear hv2
  have hr2 := hr.bl ((Bl.refl w1).alloc (.cells #[.int .u8 255, .int .u8 255, .int .u8 255, .int .u8 255, .int .u8 1, .int .u8 97] 5))
  have t1 := Sv.text (c := c1) hr
  have t2 := Sv.text (c := c1) hr2
  have t3 := Sv.text (c := 6) (RwB.blk (L := [255, 255, 255, 255, 1, 97]) (At.new w1 #[.int .u8 255, .int .u8 255, .int .u8 255, .int .u8 255, .int .u8 1, .int .u8 97] 5))
  simp only [List.length_cons, List.length_nil, Nat.reduceAdd] at t1 t2 t3
  generalize strOfNums [255, 255, 255, 255, 1, 97] = T at *
  clear hr hr2
  go_wp2
  go_ret
  exact ⟨by simp, (G0.trans g1).alloc _⟩

end Go.Proofs.YtaebbkfbapajkaaDoor
