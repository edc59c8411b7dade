/-
  What is proved: what Cut of package title hands back.
-/
import Derived.Test.YtcfckhelpnielaaVt
namespace Go.Proofs.Ytcfckhelpnielaa
open Go.RowKit Go.Sort Go.Shelf
attribute [local go_sem] Oper.semAt_some

theorem snoc_take {α : Type} {l : List α} {m : Nat} {P : List α} {x : α} (h : l.take (m + 1) = P ++ [x]) (_ : P.length = m) : l = P ++ x :: l.drop (m + 1) := by
  conv => lhs; rw [← List.take_append_drop (m + 1) l, h]
  simp

set_option maxRecDepth 100000 in
set_option maxHeartbeats 4000000 in
theorem tcut1 (s : ByteArray) (hs : s.size ≤ 1000000) (n : Int) (w : World) : Calls Try.prog 23 #[.string s, .int .i64 n] w (Bt w (.string (bs (glue (cutS n 0 (sgs s.data.toList)))))) := by
  have mixed : Try.prog.follows .mixedOrders = true := by kernel_rfl
  refine (callsIn_wide (n := 5)).1 ?_
  refine callsIn_of_wp_marks Try.func23 rfl trivial ?_ rfl
  simp only [Try.ntmps23, List.size_toArray, List.length_cons, List.length_nil, Nat.reduceAdd, Nat.reduceSub, Array.replicate_succ, Array.replicate_zero, List.push_toArray, List.append_toArray, List.nil_append, List.cons_append]
  have hn := sgs_len s.data.toList
  rw [show s.data.toList.length = s.size from Array.length_toList] at hn
  have a1 := (((At.new w #[.string s] 9).alloc (.cells #[.int .i64 n] 3)).alloc (.cells #[.string ⟨#[]⟩] 9)).alloc (.cells #[.int .i64 0] 3)
  have a2 := ((At.newAt (w := w.alloc (.cells #[.string s] 9)) (n := w.heap.size + 1) (by simp) #[.int .i64 n] 3).alloc (.cells #[.string ⟨#[]⟩] 9)).alloc (.cells #[.int .i64 0] 3)
  have a3 := (At.newAt (w := (w.alloc (.cells #[.string s] 9)).alloc (.cells #[.int .i64 n] 3)) (n := w.heap.size + 2) (by simp) #[.string ⟨#[]⟩] 9).alloc (.cells #[.int .i64 0] 3)
  have a4 := At.newAt (w := ((w.alloc (.cells #[.string s] 9)).alloc (.cells #[.int .i64 n] 3)).alloc (.cells #[.string ⟨#[]⟩] 9)) (n := w.heap.size + 3) (by simp) #[.int .i64 0] 3
  have G2 : Bl w ((((w.alloc (.cells #[.string s] 9)).alloc (.cells #[.int .i64 n] 3)).alloc (.cells #[.string ⟨#[]⟩] 9)).alloc (.cells #[.int .i64 0] 3)) := (((((Bl.refl w).alloc _).alloc _).alloc _).alloc _)
  have hz : ((((w.alloc (.cells #[.string s] 9)).alloc (.cells #[.int .i64 n] 3)).alloc (.cells #[.string ⟨#[]⟩] 9)).alloc (.cells #[.int .i64 0] 3)).heap.size = w.heap.size + 4 := by simp
  gi_wp2_with fail
  refine ⟨trivial, ?_⟩
  refine (callsIn_wide.2 (signs1 s _)).mono ?_
  rintro e w1 ⟨rfl, rfl⟩
  obtain ⟨U0, hU0⟩ : ∃ U0, U0 = ((((w.alloc (.cells #[.string s] 9)).alloc (.cells #[.int .i64 n] 3)).alloc (.cells #[.string ⟨#[]⟩] 9)).alloc (.cells #[.int .i64 0] 3)) := ⟨_, rfl⟩
  rw [← hU0] at a1 a2 a3 a4 G2 hz ⊢
  clear hU0
  replace a1 := a1.alloc (.cells #[.string s] 9)
  replace a2 := a2.alloc (.cells #[.string s] 9)
  replace a3 := a3.alloc (.cells #[.string s] 9)
  replace a4 := a4.alloc (.cells #[.string s] 9)
  have a5 := At.newAt (w := U0) (n := w.heap.size + 4) hz #[.string s] 9
  replace G2 := G2.alloc (.cells #[.string s] 9)
  rw [hz]
  have hz2 : (U0.alloc (.cells #[.string s] 9)).heap.size = w.heap.size + 5 := by simp [hz]
  obtain ⟨U, hU⟩ : ∃ U, U = U0.alloc (.cells #[.string s] 9) := ⟨_, rfl⟩
  rw [← hU] at a1 a2 a3 a4 a5 G2 hz2 ⊢
  clear hU hz
  gi_wp2
  refine wpIn_rangeFunc_ownG rfl (by omega) (gf := 30) (lb := #[.pointer (some ⟨w.heap.size + 4, 0, none⟩)]) rfl trivial (enters_of Try.func30 (by kernel_rfl) rfl)
    (signsStops (5 - 1) (by omega) _ _ s (by omega) _ a5) (fun h k => walksK_t h k) walksK_b (Below.refl _ _) (fun _ => rfl)
    (fun pre V => At V w.heap.size #[.string s] 9 ∧ At V (w.heap.size + 1) #[.int .i64 n] 3 ∧ At V (w.heap.size + 2) #[.string ⟨#[]⟩] 9 ∧ At V (w.heap.size + 3) #[.int .i64 (wid (gF s.data.toList pre))] 3 ∧ Below w.heap.size w V ∧ Fit n (gF s.data.toList pre))
    (fun c pre V => c = .ret ∧ (∃ (P : List (Fin (sgs s.data.toList).length)) (x : Fin (sgs s.data.toList).length), pre = P ++ [x] ∧ At V (w.heap.size + 2) #[.string (bs (s.data.toList.take (pos s.data.toList x.1)))] 9 ∧ Fit n (gF s.data.toList P) ∧ n < wid (gF s.data.toList P) + widZ (rAt s.data.toList x)) ∧ Below w.heap.size w V)
    ((ownAt _ _ _ _).and ((ownAt _ _ _ _).and ((ownAt _ _ _ _).and ((ownAt _ _ _ _).and ((ownFrom_below (Nat.le_refl _) (by omega)).and (ownFrom_pure _ _))))))
    (fun c => (ownFrom_pure _ _).and (OwnFrom.and (fun pre W W' row ⟨P, x, h1, h2, h3⟩ hg hr => ⟨P, x, h1, ownAt (β := Unit) _ _ (fun _ => _) _ () W W' row h2 hg hr, h3⟩) (ownFrom_below (Nat.le_refl _) (by omega))))
    ⟨a1, a2, a3, a4, G2, .inl rfl⟩
    (fun x => { tmps := #[.string s, .int .i64 n, .pointer (some ⟨w.heap.size, 0, none⟩), .pointer (some ⟨w.heap.size + 1, 0, none⟩), .pointer (some ⟨w.heap.size + 2, 0, none⟩), .pointer (some ⟨w.heap.size + 3, 0, none⟩), .int .i64 (pos s.data.toList x.1 : Nat), .int .i32 (rAt s.data.toList x), .string s, .func (.func 30) #[] #[.pointer (some ⟨w.heap.size + 4, 0, none⟩)], .int .i64 (pos s.data.toList x.1 : Nat), .int .i32 (rAt s.data.toList x),
      undef, undef, undef, undef, undef, undef, undef, undef, undef, undef, undef], defers := [] }) ?assign ?body ?done ?stop
  case assign =>
    intro l x W' K' hK'
    dsimp only [sgV]
    gi_wp2
    exact hK'
  case body =>
    rintro l pre x W' ⟨i1, i2, i3, i4, hb, hfit⟩ hlen
    have hw1 := wid_bd (gF s.data.toList pre)
    have hgl := gF_len s.data.toList pre
    have hw2 := widZ_bd (rAt s.data.toList x)
    have hsn : gF s.data.toList (pre ++ [x]) = gF s.data.toList pre ++ [(sgs s.data.toList)[x.1]'x.2] := gF_snoc _ _ _
    have hwn : wid (gF s.data.toList (pre ++ [x])) = wid (gF s.data.toList pre) + widZ (rAt s.data.toList x) := by rw [hsn, wid_snoc]; rfl
    have cw := fun w => width1 (rAt s.data.toList x) w
    have hext : bs (s.data.toList.take (pos s.data.toList x.1)) = s.extract 0 (pos s.data.toList x.1) := by
      rw [← list_bs (s.extract 0 (pos s.data.toList x.1)), extract_list]; rfl
    have hple := pos_le s.data.toList x.1
    rw [size_list] at hple
    obtain ⟨Z, hZ⟩ : ∃ Z, Z = wid (gF s.data.toList pre) := ⟨_, rfl⟩
    rw [← hZ] at i4 hw1 hwn
    have hb1 : Z ≤ 2000000 := by omega
    have hb0 := hw1.1
    obtain ⟨v, hv⟩ : ∃ v, v = widZ (rAt s.data.toList x) := ⟨_, rfl⟩
    rw [← hv] at cw hw2 hwn
    obtain ⟨v0, v1⟩ := hw2
    have hww : IntKind.i64.wrap (Z + v) = Z + v := IntWalk.i64_in _ (by omega)
    have hple' : ((pos s.data.toList x.1 : Nat) : Int) ≤ s.size := by omega
    replace hwn := Lib.hid hwn
    replace hsn := Lib.hid hsn
    replace hZ := Lib.hid hZ
    replace hv := Lib.hid hv
    replace hext := Lib.hid hext
    replace hfit := Lib.hid hfit
    clear hw1 hgl
    have c0 : W'.cell? ⟨w.heap.size + 3, 0, none⟩ = some (.int .i64 Z) := i4.cell 0
    have f0 : W'.frozen? ⟨w.heap.size + 3, 0, none⟩ = false := i4.free 0
    gi_wp2
    rename_i K hK
    have rest : ∀ V : World, V = (W'.setCell ⟨w.heap.size + 3, 0, none⟩ (.int .i64 (Z + v))).drew →
        K { tmps := #[.string s, .int .i64 n, .pointer (some ⟨w.heap.size, 0, none⟩), .pointer (some ⟨w.heap.size + 1, 0, none⟩), .pointer (some ⟨w.heap.size + 2, 0, none⟩), .pointer (some ⟨w.heap.size + 3, 0, none⟩), .int .i64 (pos s.data.toList x.1 : Nat), .int .i32 (rAt s.data.toList x), .string s, .func (.func 30) #[] #[.pointer (some ⟨w.heap.size + 4, 0, none⟩)], .int .i64 (pos s.data.toList x.1 : Nat), .int .i32 (rAt s.data.toList x),
          .int .i64 Z, .int .i32 (rAt s.data.toList x), .int .i64 v, .int .i64 (Z + v), undef, undef, undef, undef, undef, undef, undef], defers := [] } V := by
      rintro V rfl
      refine hK _ _ ?_
      clear hK
      have hk := (KeepsOthers.setCell W' ⟨w.heap.size + 3, 0, none⟩ (.int .i64 (Z + v))).trans (KeepsOthers.drew _)
      have j4 := (i4.put 0 (.int .i64 (Z + v))).drew
      replace j4 : At (W'.setCell ⟨w.heap.size + 3, 0, none⟩ (.int .i64 (Z + v))).drew (w.heap.size + 3) #[.int .i64 (Z + v)] 3 := by simpa using j4
      have j1 := (i1.far (p := ⟨w.heap.size + 3, 0, none⟩) (by simp) (.int .i64 (Z + v))).drew
      have j2 := (i2.far (p := ⟨w.heap.size + 3, 0, none⟩) (by simp) (.int .i64 (Z + v))).drew
      have j3 := (i3.far (p := ⟨w.heap.size + 3, 0, none⟩) (by simp) (.int .i64 (Z + v))).drew
      have jb := (hb.setCell (p := ⟨w.heap.size + 3, 0, none⟩) (by simp) (.int .i64 (Z + v))).drew
      clear c0 f0 i1 i2 i3 i4 hb
      generalize (W'.setCell ⟨w.heap.size + 3, 0, none⟩ (.int .i64 (Z + v))).drew = X at *
      have c1 : X.cell? ⟨w.heap.size, 0, none⟩ = some (.string s) := j1.cell 0
      have c2 : X.cell? ⟨w.heap.size + 1, 0, none⟩ = some (.int .i64 n) := j2.cell 0
      have c3 : X.cell? ⟨w.heap.size + 2, 0, none⟩ = some (.string ⟨#[]⟩) := j3.cell 0
      have f3 : X.frozen? ⟨w.heap.size + 2, 0, none⟩ = false := j3.free 0
      have c4 : X.cell? ⟨w.heap.size + 3, 0, none⟩ = some (.int .i64 (Z + v)) := j4.cell 0
      by_cases hlt : n < Z + v
      · gi_wp2
        have j3' : At (X.setCell ⟨w.heap.size + 2, 0, none⟩ (.string (s.extract 0 (pos s.data.toList x.1)))) (w.heap.size + 2) #[.string (s.extract 0 (pos s.data.toList x.1))] 9 := by simpa using j3.put 0 (.string (s.extract 0 (pos s.data.toList x.1)))
        exact ⟨(hk.trans (KeepsOthers.setCell _ _ _)).from _, rfl, ⟨pre, x, rfl, by rw [hext.out]; exact j3', hfit.out, by rw [← hZ.out, ← hv.out]; exact hlt⟩, jb.setCell (p := ⟨w.heap.size + 2, 0, none⟩) (by simp) _⟩
      · have q : decide (n < Z + v) = false := decide_eq_false hlt
        gi_wp2
        exact ⟨hk.from _, hk.walks, j1, j2, j3, by rw [hwn.out]; exact j4, jb, .inr (by rw [hwn.out]; omega)⟩
    refine wpIn_mono (Q := Exit.then K (fun _ _ _ => False)) ?_ then_false
    gi_region_with_o (refine ⟨trivial, ?_⟩; gi_at_call 31; refine (CallsIn.inRound l (callsIn_wide.2 (cw _))).mono ?_; rintro e w2 ⟨rfl, rfl⟩)
    all_goals
      try rw [hww]
      exact rest _ rfl
  case done =>
    rintro D ys W' hD hys ⟨i1, i2, i3, i4, hb, hfit⟩ hK'
    rw [gF_all hys] at hfit
    have hm := Lib.hid (show bs (glue (cutS n 0 (sgs s.data.toList))) = s by rw [cutS_all hfit, glue_sgs, list_bs])
    clear hys hfit
    have c1 : W'.cell? ⟨w.heap.size, 0, none⟩ = some (.string s) := i1.cell 0
    have k2 : W'.cell? ⟨w.heap.size + 2, 0, none⟩ = some (.string ⟨#[]⟩) := i3.cell 0
    have f2 : W'.frozen? ⟨w.heap.size + 2, 0, none⟩ = false := i3.free 0
    gi_wp2
    have hbX := hb.setCell (p := ⟨w.heap.size + 2, 0, none⟩) (by simp) (.string s)
    have hKX : (W'.setCell ⟨w.heap.size + 2, 0, none⟩ (.string s)).heap[D]? = some (.deferred (some [])) := (Below.heap_setCell _ _ _ _ (by simp; omega)).trans hK'
    have hX : At (W'.setCell ⟨w.heap.size + 2, 0, none⟩ (.string s)) (w.heap.size + 2) #[.string s] 9 := by simpa using i3.put 0 (.string s)
    generalize W'.setCell ⟨w.heap.size + 2, 0, none⟩ (.string s) = X at hX hbX hKX ⊢
    refine ⟨by simp, .inl ⟨_, _, rfl, run_takeDeferred hKX, ?_⟩⟩
    have hgp := grownBy_putObj' X D (.deferred none)
    have c5 : (X.putObj D (.deferred none)).cell? ⟨w.heap.size + 2, 0, none⟩ = some (.string s) := (hX.grown hgp (by simp; omega)).cell 0
    refine ⟨.string s, ?_, by rw [hm.out], ?_⟩
    · simp [results, Try.results23, go_sem, c5]
    · exact below_fin hbX hD (by omega) hKX
  case stop =>
    rintro D cx pre W' hD hpre ⟨rfl, ⟨P, x, rfl, i3, hfit, hlt⟩, hb⟩ hK'
    have hm : bs (glue (cutS n 0 (sgs s.data.toList))) = bs (s.data.toList.take (pos s.data.toList x.1)) := by
      have h1 := gF_pre hpre
      rw [gF_snoc, List.length_append] at h1
      have hx : x.1 = P.length := by
        have h2 := List.prefix_iff_eq_take.1 hpre
        rw [List.length_map, List.length_append, List.take_range] at h2
        have h3 : ((P ++ [x]).map (·.1))[P.length]? = some x.1 := by simp
        rw [h2] at h3
        have h4 := List.getElem?_eq_some_iff.1 h3
        obtain ⟨h5, h6⟩ := h4
        rw [List.getElem_range] at h6
        exact h6.symm
      have h7 := snoc_take h1.symm (gF_len _ _)
      have h8 : cutS n 0 (sgs s.data.toList) = gF s.data.toList P := by
        conv => lhs; rw [h7]
        exact cutS_stop hfit hlt
      have h9 : gF s.data.toList P = (sgs s.data.toList).take P.length := by
        have := congrArg (List.take P.length) h7
        rw [List.take_append_of_le_length (by rw [gF_len]; exact Nat.le_refl _)] at this
        exact (this.trans (List.take_of_length_le (by rw [gF_len]; exact Nat.le_refl _))).symm
      rw [h8, h9, pos_take, hx]
    replace hm := Lib.hid hm
    clear hpre hfit hlt
    gi_wp2
    refine ⟨by simp, .inl ⟨_, _, rfl, run_takeDeferred hK', ?_⟩⟩
    have hgp := grownBy_putObj' W' D (.deferred none)
    have c5 : (W'.putObj D (.deferred none)).cell? ⟨w.heap.size + 2, 0, none⟩ = some (.string (bs (s.data.toList.take (pos s.data.toList x.1)))) := (i3.grown hgp (by simp; omega)).cell 0
    refine ⟨.string (bs (s.data.toList.take (pos s.data.toList x.1))), ?_, by rw [hm.out], ?_⟩
    · simp [results, Try.results23, go_sem, c5]
    · exact below_fin hb hD (by omega) hK'
end Go.Proofs.Ytcfckhelpnielaa
