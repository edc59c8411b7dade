/-
  What is proved: what May of package title hands back.
-/
import Derived.Test.YteljpabhcmihoaaDoorVt
namespace Go.Proofs.YteljpabhcmihoaaDoor
open Go.RowKit Go.Sort Go.Shelf
attribute [local go_sem] Oper.semAt_some

set_option maxRecDepth 100000 in
set_option maxHeartbeats 4000000 in
theorem tmay1 (s : ByteArray) (hs : s.size ≤ 1000000) (w : World) : Calls Tryd.prog 88 #[.string s] w (Bt w (.bool (mayX (sgs s.data.toList)))) := by
  refine (callsIn_wide (n := 5)).1 ?_
  refine callsIn_of_wp_marks Tryd.func88 rfl trivial ?_ rfl
  simp only [Tryd.ntmps88, List.size_toArray, List.length_cons, List.length_nil, Nat.reduceAdd, Nat.reduceSub, Array.replicate_succ, Array.replicate_zero, List.push_toArray, List.append_toArray, List.nil_append, List.cons_append]
  have hn := sgs_len s.data.toList
  rw [show s.data.toList.length = s.size from Array.length_toList] at hn
  have a1 := ((At.new w #[.string s] 9).alloc (.cells #[.bool false] 4)).alloc (.cells #[.int .i64 0] 3)
  have a2 := (At.newAt (w := w.alloc (.cells #[.string s] 9)) (n := w.heap.size + 1) (by simp) #[.bool false] 4).alloc (.cells #[.int .i64 0] 3)
  have a3 := At.newAt (w := (w.alloc (.cells #[.string s] 9)).alloc (.cells #[.bool false] 4)) (n := w.heap.size + 2) (by simp) #[.int .i64 0] 3
  have G2 : Bl w (((w.alloc (.cells #[.string s] 9)).alloc (.cells #[.bool false] 4)).alloc (.cells #[.int .i64 0] 3)) := ((((Bl.refl w).alloc _).alloc _).alloc _)
  have hz : (((w.alloc (.cells #[.string s] 9)).alloc (.cells #[.bool false] 4)).alloc (.cells #[.int .i64 0] 3)).heap.size = w.heap.size + 3 := by simp
  gi_wp2_with fail
  refine ⟨trivial, ?_⟩
  refine (callsIn_wide.2 (signs1 s _)).mono ?_
  rintro e w1 ⟨rfl, rfl⟩
  obtain ⟨U0, hU0⟩ : ∃ U0, U0 = (((w.alloc (.cells #[.string s] 9)).alloc (.cells #[.bool false] 4)).alloc (.cells #[.int .i64 0] 3)) := ⟨_, rfl⟩
  rw [← hU0] at a1 a2 a3 G2 hz ⊢
  clear hU0
  replace a1 := a1.alloc (.cells #[.string s] 9)
  replace a2 := a2.alloc (.cells #[.string s] 9)
  replace a3 := a3.alloc (.cells #[.string s] 9)
  have a4 := At.newAt (w := U0) (n := w.heap.size + 3) hz #[.string s] 9
  replace G2 := G2.alloc (.cells #[.string s] 9)
  rw [hz]
  have hz2 : (U0.alloc (.cells #[.string s] 9)).heap.size = w.heap.size + 4 := by simp [hz]
  obtain ⟨U, hU⟩ : ∃ U, U = U0.alloc (.cells #[.string s] 9) := ⟨_, rfl⟩
  rw [← hU] at a1 a2 a3 a4 G2 hz2 ⊢
  clear hU hz
  gi_wp2
  refine wpIn_rangeFunc_ownG rfl (by omega) (gf := 101) (lb := #[.pointer (some ⟨w.heap.size + 3, 0, none⟩)]) rfl trivial (enters_of Tryd.func101 (by kernel_rfl) rfl)
    (signsStops (5 - 1) (by omega) _ _ s (by omega) _ a4) (fun h k => walksK_t h k) walksK_b (Below.refl _ _) (fun _ => rfl)
    (fun pre V => At V w.heap.size #[.string s] 9 ∧ At V (w.heap.size + 1) #[.bool false] 4 ∧ At V (w.heap.size + 2) #[.int .i64 (pre.length : Nat)] 3 ∧ Below w.heap.size w V ∧ mayX (gF s.data.toList pre) = true)
    (fun c pre V => c = .ret ∧ At V (w.heap.size + 1) #[.bool false] 4 ∧ Below w.heap.size w V ∧ mayX (gF s.data.toList pre) = false)
    ((ownAt _ _ _ _).and ((ownAt _ _ _ _).and ((ownAt _ _ _ _).and ((ownFrom_below (Nat.le_refl _) (by omega)).and (ownFrom_pure _ _)))))
    (fun c => (ownFrom_pure _ _).and ((ownAt _ _ _ _).and ((ownFrom_below (Nat.le_refl _) (by omega)).and (ownFrom_pure _ _))))
    ⟨a1, a2, a3, G2, rfl⟩
    (fun x => { tmps := #[.string s, .pointer (some ⟨w.heap.size, 0, none⟩), .pointer (some ⟨w.heap.size + 1, 0, none⟩), .pointer (some ⟨w.heap.size + 2, 0, none⟩), .int .i64 (pos s.data.toList x.1 : Nat), .int .i32 (rAt s.data.toList x), .string s, .func (.func 101) #[] #[.pointer (some ⟨w.heap.size + 3, 0, none⟩)], .int .i64 (pos s.data.toList x.1 : Nat), .int .i32 (rAt s.data.toList x),
      undef, undef, undef, undef, undef, undef, undef, undef, undef, undef, undef, undef, undef, undef], defers := [] }) ?assign ?body ?done ?stop
  case assign =>
    intro l x W' K' hK'
    dsimp only [sgV]
    gi_wp2
    exact hK'
  case body =>
    rintro l pre x W' ⟨i1, i2, i3, hb, hmay⟩ hlen
    have hgl := gF_len s.data.toList pre
    have hsn := gF_snoc s.data.toList pre x
    have co := fun w => odd1 (rAt s.data.toList x) w
    have cb : ∀ w, Calls Tryd.prog 96 #[.string s, .int .i64 (pos s.data.toList x.1 : Nat), .int .i32 (rAt s.data.toList x)] w fun e w' => e = .returned (.bool ((sgs s.data.toList)[x.1]'x.2).bad) ∧ w = w' := fun w => broken1 s (by omega) x.1 _ (sgs_get _ x) w
    have hok : okS ((sgs s.data.toList)[x.1]'x.2) = (!(oddB (rAt s.data.toList x)) && !((sgs s.data.toList)[x.1]'x.2).bad) := rfl
    have hA := fun (h : 64 < pre.length + 1) => mayX_long (X := gF s.data.toList pre ++ [(sgs s.data.toList)[x.1]'x.2]) (by rw [List.length_append, hgl]; simpa using h)
    have hB := fun h => mayX_bad (X := gF s.data.toList pre) (x := (sgs s.data.toList)[x.1]'x.2) h
    have hC := fun h1 h2 => mayX_step hmay (x := (sgs s.data.toList)[x.1]'x.2) h1 h2
    rw [hgl] at hC
    rw [← hsn] at hA hB hC
    generalize ((sgs s.data.toList)[x.1]'x.2).bad = bad at *
    generalize rAt s.data.toList x = r at *
    generalize okS ((sgs s.data.toList)[x.1]'x.2) = ok at *
    generalize oddB r = od at *
    have c0 : W'.cell? ⟨w.heap.size, 0, none⟩ = some (.string s) := i1.cell 0
    have c3 : W'.cell? ⟨w.heap.size + 2, 0, none⟩ = some (.int .i64 (pre.length : Nat)) := i3.cell 0
    have f2 : W'.frozen? ⟨w.heap.size + 1, 0, none⟩ = false := i2.free 0
    have k2 : W'.cell? ⟨w.heap.size + 1, 0, none⟩ = some (.bool false) := i2.cell 0
    have f3 : W'.frozen? ⟨w.heap.size + 2, 0, none⟩ = false := i3.free 0
    have hpl : pre.length ≤ 1000000 := by omega
    have j3 := i3.put 0 (.int .i64 (((pre ++ [x]).length : Nat) : Int))
    have j1 := i1.far (p := ⟨w.heap.size + 2, 0, none⟩) (by simp) (.int .i64 (((pre ++ [x]).length : Nat) : Int))
    have j2 := i2.far (p := ⟨w.heap.size + 2, 0, none⟩) (by simp) (.int .i64 (((pre ++ [x]).length : Nat) : Int))
    have jb := hb.setCell (p := ⟨w.heap.size + 2, 0, none⟩) (by simp) (.int .i64 (((pre ++ [x]).length : Nat) : Int))
    have jk := KeepsOthers.setCell W' ⟨w.heap.size + 2, 0, none⟩ (.int .i64 (((pre ++ [x]).length : Nat) : Int))
    have e1 : (((pre ++ [x]).length : Nat) : Int) = (pre.length : Int) + 1 := by simp
    rw [e1] at j1 j2 j3 jb jk
    simp only [Array.setIfInBounds] at j3
    have ends : ∀ V, V = (W'.setCell ⟨w.heap.size + 2, 0, none⟩ (.int .i64 ((pre.length : Int) + 1))).setCell ⟨w.heap.size + 1, 0, none⟩ (.bool false) → KeepsFrom U.heap.size W' V ∧ At V (w.heap.size + 1) #[.bool false] 4 ∧ Below w.heap.size w V := by
      rintro V rfl
      exact ⟨(jk.trans (KeepsOthers.setCell _ _ _)).from _, by simpa using j2.put 0 (.bool false), jb.setCell (p := ⟨w.heap.size + 1, 0, none⟩) (by simp) _⟩
    replace hsn := Lib.hid hsn
    replace hgl := Lib.hid hgl
    replace hmay := Lib.hid hmay
    replace hok := Lib.hid hok
    replace hA := Lib.hid hA
    replace hB := Lib.hid hB
    replace hC := Lib.hid hC
    replace ends := Lib.hid ends
    by_cases h64 : 64 < pre.length + 1
    · have q : 64 < ((pre.length : Int)) + 1 := by omega
      have hm := Lib.hid (hA.out h64)
      gi_wp2_with (refine ⟨trivial, ?_⟩)
      obtain ⟨t1, t2, t3⟩ := ends.out _ rfl
      exact ⟨t1, rfl, t2, t3, hm.out⟩
    · have q : decide (64 < ((pre.length : Int)) + 1) = false := by simp; omega
      cases od
      · cases bad
        · have hm := Lib.hid (hC.out (by omega) (by rw [hok.out]; rfl))
          gi_wp2_with (first | (refine ⟨trivial, ?_⟩; gi_at_call 95; refine (CallsIn.inRound l (callsIn_wide.2 (co _))).mono ?_; rintro e w2 ⟨rfl, rfl⟩) | (refine ⟨trivial, ?_⟩; gi_at_call 96; refine (CallsIn.inRound l (callsIn_wide.2 (cb _))).mono ?_; rintro e w2 ⟨rfl, rfl⟩) | (refine ⟨trivial, ?_⟩))
          refine ⟨jk.from _, jk.walks, j1, j2, ?_, jb, hm.out⟩
          rw [e1]; exact j3
        · have hm := Lib.hid (hB.out (by rw [hok.out]; rfl))
          gi_wp2_with (first | (refine ⟨trivial, ?_⟩; gi_at_call 95; refine (CallsIn.inRound l (callsIn_wide.2 (co _))).mono ?_; rintro e w2 ⟨rfl, rfl⟩) | (refine ⟨trivial, ?_⟩; gi_at_call 96; refine (CallsIn.inRound l (callsIn_wide.2 (cb _))).mono ?_; rintro e w2 ⟨rfl, rfl⟩) | (refine ⟨trivial, ?_⟩))
          obtain ⟨t1, t2, t3⟩ := ends.out _ rfl
          exact ⟨t1, rfl, t2, t3, hm.out⟩
      · have hm := Lib.hid (hB.out (by rw [hok.out]; rfl))
        gi_wp2_with (first | (refine ⟨trivial, ?_⟩; gi_at_call 95; refine (CallsIn.inRound l (callsIn_wide.2 (co _))).mono ?_; rintro e w2 ⟨rfl, rfl⟩) | (refine ⟨trivial, ?_⟩))
        obtain ⟨t1, t2, t3⟩ := ends.out _ rfl
        exact ⟨t1, rfl, t2, t3, hm.out⟩
  case done =>
    rintro D ys W' hD hys ⟨i1, i2, i3, hb, hmay⟩ hK'
    rw [gF_all hys] at hmay
    replace hmay := Lib.hid hmay
    clear hys
    have k2 : W'.cell? ⟨w.heap.size + 1, 0, none⟩ = some (.bool false) := i2.cell 0
    have f2 : W'.frozen? ⟨w.heap.size + 1, 0, none⟩ = false := i2.free 0
    gi_wp2
    have hX := i2.put 0 (.bool true)
    simp only [Array.setIfInBounds] at hX
    have hbX := hb.setCell (p := ⟨w.heap.size + 1, 0, none⟩) (by simp) (.bool true)
    have hKX : (W'.setCell ⟨w.heap.size + 1, 0, none⟩ (.bool true)).heap[D]? = some (.deferred (some [])) := (Below.heap_setCell _ _ _ _ (by simp; omega)).trans hK'
    replace hX : At (W'.setCell ⟨w.heap.size + 1, 0, none⟩ (.bool true)) (w.heap.size + 1) #[.bool true] 4 := by simpa using i2.put 0 (.bool true)
    generalize W'.setCell ⟨w.heap.size + 1, 0, none⟩ (.bool true) = X at hX hbX hKX ⊢
    refine ⟨by simp, .inl ⟨_, _, rfl, run_takeDeferred hKX, ?_⟩⟩
    have hgp := grownBy_putObj' X D (.deferred none)
    have c5 : (X.putObj D (.deferred none)).cell? ⟨w.heap.size + 1, 0, none⟩ = some (.bool true) := (hX.grown hgp (by simp; omega)).cell 0
    refine ⟨.bool true, ?_, by rw [hmay.out], ?_⟩
    · simp [results, Tryd.results88, go_sem, c5]
    · exact below_fin hbX hD (by omega) hKX
  case stop =>
    rintro D cx pre W' hD hpre ⟨rfl, i2, hb, hmay⟩ hK'
    have hm : mayX (sgs s.data.toList) = false := by
      rw [gF_pre hpre] at hmay
      exact mayX_pre (List.take_prefix _ _) hmay
    replace hm := Lib.hid hm
    clear hpre hmay
    gi_wp2
    refine ⟨by simp, .inl ⟨_, _, rfl, run_takeDeferred hK', ?_⟩⟩
    have hgp := grownBy_putObj' W' D (.deferred none)
    have c5 : (W'.putObj D (.deferred none)).cell? ⟨w.heap.size + 1, 0, none⟩ = some (.bool false) := (i2.grown hgp (by simp; omega)).cell 0
    refine ⟨.bool false, ?_, by rw [hm.out], ?_⟩
    · simp [results, Tryd.results88, go_sem, c5]
    · exact below_fin hb hD (by omega) hK'
end Go.Proofs.YteljpabhcmihoaaDoor
