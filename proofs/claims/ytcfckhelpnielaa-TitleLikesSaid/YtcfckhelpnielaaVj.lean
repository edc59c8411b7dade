/-
  What is proved: what Clean of package title hands back.
-/
import Derived.Test.YtcfckhelpnielaaVt
namespace Go.Proofs.Ytcfckhelpnielaa
open Go.RowKit Go.Sort Go.Shelf
attribute [local go_sem] Oper.semAt_some

theorem encs_len : ∀ cs : List Int, (encs cs).length ≤ 4 * cs.length
  | [] => by simp [encs]
  | c :: cs => by
    have h1 := encs_len cs
    have h2 := (enc_pos c).2
    rw [encs_cons, List.length_append, List.length_cons]
    omega

set_option maxRecDepth 100000 in
set_option maxHeartbeats 4000000 in
theorem tclean1 (s : ByteArray) (hs : s.size ≤ 1000000) (w : World) : Calls Try.prog 18 #[.string s] w (Bt w (.string (bs (clX (sgs s.data.toList))))) := by
  refine (callsIn_wide (n := 5)).1 ?_
  refine callsIn_of_wp_marks Try.func18 rfl trivial ?_ rfl
  simp only [Try.ntmps18, List.size_toArray, List.length_cons, List.length_nil, Nat.reduceAdd, Nat.reduceSub, Array.replicate_succ, Array.replicate_zero, List.push_toArray, List.append_toArray, List.nil_append, List.cons_append]
  have hn := sgs_len s.data.toList
  rw [show s.data.toList.length = s.size from Array.length_toList] at hn
  have a1 := ((At.new w #[.string s] 9).alloc (.cells #[.pointer none, .slice none 0 0] 49)).alloc (.cells #[.int .i64 0] 3)
  have a2 := ((Bd.new (w.alloc (.cells #[.string s] 9))).lower (B' := w.heap.size) (by simp)).alloc (.cells #[.int .i64 0] 3)
  have a3 := At.newAt (w := (w.alloc (.cells #[.string s] 9)).alloc (.cells #[.pointer none, .slice none 0 0] 49)) (n := w.heap.size + 2) (by simp) #[.int .i64 0] 3
  have G2 : Bl w (((w.alloc (.cells #[.string s] 9)).alloc (.cells #[.pointer none, .slice none 0 0] 49)).alloc (.cells #[.int .i64 0] 3)) := ((((Bl.refl w).alloc _).alloc _).alloc _)
  have hz : (((w.alloc (.cells #[.string s] 9)).alloc (.cells #[.pointer none, .slice none 0 0] 49)).alloc (.cells #[.int .i64 0] 3)).heap.size = w.heap.size + 3 := by simp
  rw [show (w.alloc (.cells #[.string s] 9)).heap.size = w.heap.size + 1 by simp] at a2
  gi_wp2_with fail
  refine ⟨trivial, ?_⟩
  refine (callsIn_wide.2 (signs1 s _)).mono ?_
  rintro e w1 ⟨rfl, rfl⟩
  obtain ⟨U0, hU0⟩ : ∃ U0, U0 = (((w.alloc (.cells #[.string s] 9)).alloc (.cells #[.pointer none, .slice none 0 0] 49)).alloc (.cells #[.int .i64 0] 3)) := ⟨_, rfl⟩
  rw [← hU0] at a1 a2 a3 G2 hz ⊢
  clear hU0
  replace a1 := a1.alloc (.cells #[.string s] 9)
  replace a2 := a2.alloc (.cells #[.string s] 9)
  replace a3 := a3.alloc (.cells #[.string s] 9)
  have a4 := At.newAt (w := U0) (n := w.heap.size + 3) hz #[.string s] 9
  replace G2 := G2.alloc (.cells #[.string s] 9)
  rw [hz]
  have hz2 : (U0.alloc (.cells #[.string s] 9)).heap.size = w.heap.size + 4 := by simp [hz]
  obtain ⟨U, hU⟩ : ∃ U, U = U0.alloc (.cells #[.string s] 9) := ⟨_, rfl⟩
  rw [← hU] at a1 a2 a3 a4 G2 hz2 ⊢
  clear hU hz
  gi_wp2
  refine wpIn_rangeFunc_ownG rfl (by omega) (gf := 30) (lb := #[.pointer (some ⟨w.heap.size + 3, 0, none⟩)]) rfl trivial (enters_of Try.func30 (by kernel_rfl) rfl)
    (signsStops (5 - 1) (by omega) _ _ s (by omega) _ a4) (fun h k => walksK_t h k) walksK_b (Below.refl _ _) (fun _ => rfl)
    (fun pre V => At V w.heap.size #[.string s] 9 ∧ Bd w.heap.size (w.heap.size + 1) (encs ((gF s.data.toList pre).map clR)) V ∧ At V (w.heap.size + 2) #[.int .i64 (pre.length : Nat)] 3 ∧ Below w.heap.size w V ∧ pre.length ≤ 64)
    (fun c pre V => c = .exit 0 ∧ Bd w.heap.size (w.heap.size + 1) (encs (((gF s.data.toList pre).take 64).map clR)) V ∧ Below w.heap.size w V ∧ 64 < pre.length)
    ((ownAt _ _ _ _).and ((ownBd _ _ _ _).and ((ownAt _ _ _ _).and ((ownFrom_below (Nat.le_refl _) (by omega)).and (ownFrom_pure _ _)))))
    (fun c => (ownFrom_pure _ _).and ((ownBd _ _ _ _).and ((ownFrom_below (Nat.le_refl _) (by omega)).and (ownFrom_pure _ _))))
    ⟨a1, a2, a3, G2, by simp⟩
    (fun x => { tmps := #[.string s, .pointer (some ⟨w.heap.size, 0, none⟩), .string ⟨#[]⟩, .pointer (some ⟨w.heap.size + 1, 0, none⟩), .pointer (some ⟨w.heap.size + 2, 0, none⟩), .int .i64 (pos s.data.toList x.1 : Nat), .int .i32 (rAt s.data.toList x), .string s, .func (.func 30) #[] #[.pointer (some ⟨w.heap.size + 3, 0, none⟩)], .int .i64 (pos s.data.toList x.1 : Nat), .int .i32 (rAt s.data.toList x),
      undef, undef, undef, undef, undef, undef, undef, undef, undef, undef, undef, undef, undef, undef, undef], defers := [] }) ?assign ?body ?done ?stop
  case assign =>
    intro l x W' K' hK'
    dsimp only [sgV]
    gi_wp2
    exact hK'
  case body =>
    rintro l pre x W' ⟨i1, i2, i3, hb, h64⟩ hlen
    have hgl := gF_len s.data.toList pre
    have hsn := gF_snoc s.data.toList pre x
    have hxok := sgs_ok s.data.toList ((sgs s.data.toList)[x.1]'x.2) (List.getElem_mem _)
    have co := fun w => odd1 (rAt s.data.toList x) w
    have cb : ∀ w, Calls Try.prog 34 #[.string s, .int .i64 (pos s.data.toList x.1 : Nat), .int .i32 (rAt s.data.toList x)] w fun e w' => e = .returned (.bool ((sgs s.data.toList)[x.1]'x.2).bad) ∧ w = w' := fun w => broken1 s (by omega) x.1 _ (sgs_get _ x) w
    have hcl : clR ((sgs s.data.toList)[x.1]'x.2) = if (oddB (rAt s.data.toList x) || ((sgs s.data.toList)[x.1]'x.2).bad) = true then 63 else rAt s.data.toList x := rfl
    have hA : encs ((gF s.data.toList (pre ++ [x])).map clR) = encs ((gF s.data.toList pre).map clR) ++ Lib.encodeRune (clR ((sgs s.data.toList)[x.1]'x.2)) := by
      rw [hsn, List.map_append, encs_app]; simp [encs]
    have hB : 64 < pre.length + 1 → encs (((gF s.data.toList (pre ++ [x])).take 64).map clR) = encs ((gF s.data.toList pre).map clR) := fun h => by
      rw [hsn, List.take_append_of_le_length (by rw [hgl]; omega), List.take_of_length_le (by rw [hgl]; exact h64)]
    have hL : (encs ((gF s.data.toList pre).map clR)).length ≤ 100000000 := by
      have := encs_len ((gF s.data.toList pre).map clR)
      rw [List.length_map, hgl] at this
      omega
    have hr : 0 ≤ rAt s.data.toList x ∧ rAt s.data.toList x ≤ 1114111 := hxok.vr.int
    rw [hcl] at hA
    generalize encs ((gF s.data.toList pre).map clR) = L at *
    generalize ((sgs s.data.toList)[x.1]'x.2).bad = bad at *
    generalize rAt s.data.toList x = r at *
    generalize oddB r = od at *
    obtain ⟨hr0, hr1⟩ := hr
    have c0 : W'.cell? ⟨w.heap.size, 0, none⟩ = some (.string s) := i1.cell 0
    have c3 : W'.cell? ⟨w.heap.size + 2, 0, none⟩ = some (.int .i64 (pre.length : Nat)) := i3.cell 0
    have f3 : W'.frozen? ⟨w.heap.size + 2, 0, none⟩ = false := i3.free 0
    have e1 : (((pre ++ [x]).length : Nat) : Int) = (pre.length : Int) + 1 := by simp
    have j3 := i3.put 0 (.int .i64 ((pre.length : Int) + 1))
    have j1 := i1.far (p := ⟨w.heap.size + 2, 0, none⟩) (by simp) (.int .i64 ((pre.length : Int) + 1))
    have j2 := i2.far i3 (by omega) (by decide) 0 (.int .i64 ((pre.length : Int) + 1))
    have jb := hb.setCell (p := ⟨w.heap.size + 2, 0, none⟩) (by simp) (.int .i64 ((pre.length : Int) + 1))
    have jk := KeepsOthers.setCell W' ⟨w.heap.size + 2, 0, none⟩ (.int .i64 ((pre.length : Int) + 1))
    replace j3 : At (W'.setCell ⟨w.heap.size + 2, 0, none⟩ (.int .i64 ((pre.length : Int) + 1))) (w.heap.size + 2) #[.int .i64 ((pre.length : Int) + 1)] 3 := by simpa using j3
    replace hsn := Lib.hid hsn
    replace hgl := Lib.hid hgl
    replace hcl := Lib.hid hcl
    replace hA := Lib.hid hA
    replace hB := Lib.hid hB
    replace e1 := Lib.hid e1
    clear hxok
    by_cases h64' : 64 < pre.length + 1
    · have q : 64 < ((pre.length : Int)) + 1 := by omega
      have hm := Lib.hid (hB.out h64')
      gi_wp2
      exact ⟨jk.from _, rfl, by rw [hm.out]; exact j2, jb, by simp; omega⟩
    · have q : decide (64 < ((pre.length : Int)) + 1) = false := by simp; omega
      have wr := fun (r' : Int) (h0 : 0 ≤ r') (h1 : r' ≤ 1114111) => writeR w.heap.size (w.heap.size + 1) L r' h0 h1 _ j2 hL (by have := jb.size; omega)
      have hz3 := jb.size
      have fin : ∀ (r' : Int) (V : World), r' = (if (od || bad) = true then 63 else r) → Bd w.heap.size (w.heap.size + 1) (L ++ Lib.encodeRune r') V → Below w.heap.size (W'.setCell ⟨w.heap.size + 2, 0, none⟩ (.int .i64 ((pre.length : Int) + 1))) V → Lib.OthersKept 5 (some (w.heap.size + 1)) (W'.setCell ⟨w.heap.size + 2, 0, none⟩ (.int .i64 ((pre.length : Int) + 1))) V →
          KeepsFrom U.heap.size W' V ∧ KeepsWalks W' V ∧ At V w.heap.size #[.string s] 9 ∧ Bd w.heap.size (w.heap.size + 1) (encs ((gF s.data.toList (pre ++ [x])).map clR)) V ∧ At V (w.heap.size + 2) #[.int .i64 ((pre ++ [x]).length : Nat)] 3 ∧ Below w.heap.size w V ∧ (pre ++ [x]).length ≤ 64 := by
        rintro r' V rfl hbd hbl hok
        obtain ⟨cs, hcs⟩ := j2.at
        have hk := jk.trans (others_keep hok hcs hbl.size)
        refine ⟨hk.from _, hk.walks, j1.others hok (by omega) (by decide), by rw [hA.out]; exact hbd, ?_, jb.trans hbl, by simp; omega⟩
        rw [e1.out]
        exact j3.others hok (by omega) (by decide)
      replace fin := Lib.hid fin
      cases od
      · cases bad
        · gi_wp2_with (first | (refine ⟨trivial, ?_⟩; gi_at_call 33; refine (CallsIn.inRound l (callsIn_wide.2 (co _))).mono ?_; rintro e w2 ⟨rfl, rfl⟩) | (refine ⟨trivial, ?_⟩; gi_at_call 34; refine (CallsIn.inRound l (callsIn_wide.2 (cb _))).mono ?_; rintro e w2 ⟨rfl, rfl⟩) | (refine ⟨trivial, ?_⟩; gi_at_call 35; refine (CallsIn.inRound l (callsIn_wide.2 (wr _ hr0 hr1))).mono ?_; rintro e w2 ⟨⟨n4, rfl⟩, b4, g4, k4⟩) | (refine ⟨trivial, ?_⟩))
          exact fin.out _ _ rfl b4 g4 k4
        · gi_wp2_with (first | (refine ⟨trivial, ?_⟩; gi_at_call 33; refine (CallsIn.inRound l (callsIn_wide.2 (co _))).mono ?_; rintro e w2 ⟨rfl, rfl⟩) | (refine ⟨trivial, ?_⟩; gi_at_call 34; refine (CallsIn.inRound l (callsIn_wide.2 (cb _))).mono ?_; rintro e w2 ⟨rfl, rfl⟩) | (refine ⟨trivial, ?_⟩; gi_at_call 35; refine (CallsIn.inRound l (callsIn_wide.2 (wr 63 (by omega) (by omega)))).mono ?_; rintro e w2 ⟨⟨n4, rfl⟩, b4, g4, k4⟩) | (refine ⟨trivial, ?_⟩))
          exact fin.out _ _ rfl b4 g4 k4
      · gi_wp2_with (first | (refine ⟨trivial, ?_⟩; gi_at_call 33; refine (CallsIn.inRound l (callsIn_wide.2 (co _))).mono ?_; rintro e w2 ⟨rfl, rfl⟩) | (refine ⟨trivial, ?_⟩; gi_at_call 35; refine (CallsIn.inRound l (callsIn_wide.2 (wr 63 (by omega) (by omega)))).mono ?_; rintro e w2 ⟨⟨n4, rfl⟩, b4, g4, k4⟩) | (refine ⟨trivial, ?_⟩))
        exact fin.out _ _ rfl b4 g4 k4
  case done =>
    rintro D ys W' hD hys ⟨i1, i2, i3, hb, h64⟩ hK'
    have hl := gF_len_all hys
    rw [gF_all hys] at i2
    have hcx : encs ((sgs s.data.toList).map clR) = clX (sgs s.data.toList) := by
      unfold clX clN
      rw [List.take_of_length_le (by omega)]
    rw [hcx] at i2
    clear hys hl hcx
    obtain ⟨cs, hcs⟩ := i2.at
    gi_wp2_with (refine ⟨trivial, ?_⟩; gi_at_call 36; refine (callsIn_wide.2 (stringR w.heap.size (w.heap.size + 1) _ W' i2 hb.size)).mono ?_; rintro e w2 ⟨rfl, g4, k4⟩)
    have hK2 := (others_keep k4 hcs g4.size).same D _ hK' rfl
    refine ⟨by simp, .inl ⟨_, _, rfl, run_takeDeferred hK2, ?_⟩⟩
    refine ⟨_, results_tmp rfl _ _ _, rfl, ?_⟩
    exact below_fin (hb.trans g4) hD (by omega) hK2
  case stop =>
    rintro D cx pre W' hD hpre ⟨rfl, i2, hb, h64⟩ hK'
    have hm : encs (((gF s.data.toList pre).take 64).map clR) = clX (sgs s.data.toList) := by
      rw [gF_pre hpre, List.take_take, Nat.min_eq_left (by omega)]
      rfl
    rw [hm] at i2
    clear hpre hm
    obtain ⟨cs, hcs⟩ := i2.at
    gi_wp2_with (refine ⟨trivial, ?_⟩; gi_at_call 36; refine (callsIn_wide.2 (stringR w.heap.size (w.heap.size + 1) _ W' i2 hb.size)).mono ?_; rintro e w2 ⟨rfl, g4, k4⟩)
    have hK2 := (others_keep k4 hcs g4.size).same D _ hK' rfl
    refine ⟨by simp, .inl ⟨_, _, rfl, run_takeDeferred hK2, ?_⟩⟩
    refine ⟨_, results_tmp rfl _ _ _, rfl, ?_⟩
    exact below_fin (hb.trans g4) hD (by omega) hK2
end Go.Proofs.Ytcfckhelpnielaa
