/-
  What is proved: what Width of package title hands back.
-/
import Derived.Test.YtcfckhelpnielaaVd
import Derived.Test.YtcfckhelpnielaaVm
namespace Go.Proofs.Ytcfckhelpnielaa
open Go.RowKit Go.Sort Go.Shelf
attribute [local go_sem] Oper.semAt_some

set_option maxRecDepth 100000 in
set_option maxHeartbeats 2000000 in
theorem twidth1 (s : ByteArray) (hs : s.size ≤ 1000000) (w : World) : Calls Try.prog 15 #[.string s] w (Bt w (.int .i64 (wid (sgs s.data.toList)))) := by
  have mixed : Try.prog.follows .mixedOrders = true := by kernel_rfl
  refine (callsIn_wide (n := 5)).1 ?_
  refine callsIn_of_wp_marks Try.func15 rfl trivial ?_ rfl
  simp only [Try.ntmps15, List.size_toArray, List.length_cons, List.length_nil, Nat.reduceAdd, Nat.reduceSub, Array.replicate_succ, Array.replicate_zero, List.push_toArray, List.append_toArray, List.nil_append, List.cons_append]
  have hn := sgs_len s.data.toList
  rw [show s.data.toList.length = s.size from Array.length_toList] at hn
  have n1 := At.new w #[.int .i64 0] 3
  gi_wp2_with fail
  refine ⟨trivial, ?_⟩
  refine (callsIn_wide.2 (signs1 s _)).mono ?_
  rintro e w1 ⟨rfl, rfl⟩
  have n2 := n1.alloc (.cells #[.string s] 9)
  have s2 := At.newAt (w := w.alloc (.cells #[.int .i64 0] 3)) (n := w.heap.size + 1) (by simp) #[.string s] 9
  have G2 : Below w.heap.size w ((w.alloc (.cells #[.int .i64 0] 3)).alloc (.cells #[.string s] 9)) := (((Bl.refl w).alloc _).alloc _)
  gi_wp2
  clear n1
  refine wpIn_rangeFunc_ownG rfl (by omega) (gf := 30) (lb := #[.pointer (some ⟨w.heap.size + 1, 0, none⟩)]) rfl trivial (enters_of Try.func30 (by kernel_rfl) rfl)
    (signsStops (5 - 1) (by omega) _ _ s (by omega) _ s2) (fun h k => walksK_t h k) walksK_b (Below.refl _ _) (fun _ => rfl)
    (fun pre V => At V w.heap.size #[.int .i64 (wid (gF s.data.toList pre))] 3 ∧ Below w.heap.size w V) (fun _ _ _ => False)
    ((ownAt _ _ _ _).and (ownFrom_below (Nat.le_refl _) (by simp; omega)))
    (fun _ _ _ _ _ hs _ _ => hs) ⟨n2, G2⟩
    (fun x => { tmps := #[.string s, undef, .int .i64 0, .pointer (some ⟨w.heap.size, 0, none⟩), undef, .int .i32 (rAt s.data.toList x), .string s, .func (.func 30) #[] #[.pointer (some ⟨w.heap.size + 1, 0, none⟩)], .int .i64 (pos s.data.toList x.1 : Nat), .int .i32 (rAt s.data.toList x), undef, undef, undef, undef, undef], defers := [] }) ?assign ?body ?done ?stop
  case assign =>
    intro l x W' K' hK'
    dsimp only [sgV]
    gi_wp2
    exact hK'
  case body =>
    rintro l pre x W' ⟨hi, hb⟩ hlen
    have hw1 := wid_bd (gF s.data.toList pre)
    have hgl := gF_len s.data.toList pre
    have hw2 := widZ_bd (rAt s.data.toList x)
    have hsn : wid (gF s.data.toList (pre ++ [x])) = wid (gF s.data.toList pre) + widZ (rAt s.data.toList x) := by rw [gF_snoc, wid_snoc]; rfl
    have cw := fun w => width1 (rAt s.data.toList x) w
    obtain ⟨Z, hZ⟩ : ∃ Z, Z = wid (gF s.data.toList pre) := ⟨_, rfl⟩
    rw [← hZ] at hi hw1 hsn
    have hb1 : Z ≤ 2000000 := by omega
    have hb0 := hw1.1
    generalize widZ (rAt s.data.toList x) = v at *
    obtain ⟨v0, v1⟩ := hw2
    replace hsn := Lib.hid hsn
    clear hZ hw1 hgl
    have c0 : W'.cell? ⟨w.heap.size, 0, none⟩ = some (.int .i64 Z) := hi.cell 0
    have f0 : W'.frozen? ⟨w.heap.size, 0, none⟩ = false := hi.free 0
    have hww : IntKind.i64.wrap (Z + v) = Z + v := IntWalk.i64_in _ (by omega)
    gi_wp2
    gi_region_with_o (refine ⟨trivial, ?_⟩; gi_at_call 31; refine (CallsIn.inRound l (callsIn_wide.2 (cw _))).mono ?_; rintro e w2 ⟨rfl, rfl⟩)
    all_goals
      have hk := (KeepsOthers.setCell W' ⟨w.heap.size, 0, none⟩ (.int .i64 (Z + v))).trans (KeepsOthers.drew _)
      have hat := (hi.put 0 (.int .i64 (Z + v))).drew
      try rw [hww]
      refine ⟨hk.from _, hk.walks, ?_, (hb.setCell (p := ⟨w.heap.size, 0, none⟩) (Nat.le_refl _) _).drew⟩
      rw [hsn.out]
      simpa using hat
  case done =>
    rintro D ys W' hD hys ⟨hi, hb⟩ hK'
    rw [gF_all hys] at hi
    have c0 : W'.cell? ⟨w.heap.size, 0, none⟩ = some (.int .i64 (wid (sgs s.data.toList))) := hi.cell 0
    clear hys
    gi_wp2
    refine ⟨by simp, .inl ⟨_, _, rfl, run_takeDeferred hK', ?_⟩⟩
    refine ⟨_, results_tmp rfl _ _ _, rfl, ?_⟩
    exact below_fin hb hD (by simp; omega) hK'
  case stop =>
    rintro D c pre W' _ _ h _
    exact h.elim
end Go.Proofs.Ytcfckhelpnielaa
