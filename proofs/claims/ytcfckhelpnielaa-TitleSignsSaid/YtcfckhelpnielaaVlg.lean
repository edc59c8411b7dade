/-
  What is proved: the statement TitleSigns: a text's signs, how many there are, and how wide it is, are the document's. No conditions.
-/
import Derived.Test.YtcfckhelpnielaaVz
import Derived.ChangeMaps5
namespace Go.Proofs.Ytcfckhelpnielaa
open Go.Shelf Go.ChangeShapes Go.WideShapes Go.ChangeAt Go.RowKit Go.Joins Go.Sort
open Go.ChangeMaps (open_string shut_string)
attribute [local go_sem] Oper.semAt_some
attribute [local go_sem ↓] run_min2 run_max2

theorem range_next {α : Type} {N : Nat} {P : List (Fin N)} {x : Fin N} (h : (P ++ [x]).map (·.1) <+: List.range N) : x.1 = P.length := by
  have h2 := List.prefix_iff_eq_take.1 h
  rw [List.length_map, List.length_append, List.take_range] at h2
  have h3 : ((P ++ [x]).map (·.1))[P.length]? = some x.1 := by simp
  rw [h2] at h3
  obtain ⟨h5, h6⟩ := List.getElem?_eq_some_iff.1 h3
  rw [List.getElem_range] at h6
  exact h6.symm
theorem pos_ne {l : List UInt8} {i j : Nat} (hi : i < (sgs l).length) (hj : j < (sgs l).length) (h : i ≠ j) : pos l i ≠ pos l j := by
  rcases Nat.lt_or_ge i j with h1 | h1
  · have := pos_lt h1 (Nat.le_of_lt hj); omega
  · have := pos_lt (l := l) (show j < i by omega) (Nat.le_of_lt hi); omega
theorem fn_nil (f : Nat) (cap : Array Value) (w : World) : (binOp .eql 26 (.func (.func f) #[] cap) .nilFunc).run Try.prog w = .ok (.bool false) w := by
  have h : ∀ d : Nat, (Op.equalIn (d + 1) 26 (.func (.func f) #[] cap) .nilFunc).run Try.prog w = .ok false w := fun d => by
    simp [Op.equalIn, run_underlying Try.underlying26]
  simp only [binOp]
  simp [Op.equal, Op.maxDepth, h 9999]
/-- What lies between: the row, how far, and the answer's cell. -/
def SS (b0 z : Nat) (v : Value) (n : Int) (V : World) : Prop := At V z #[v] 23 ∧ At V (z + 2) #[.int .i64 n] 3 ∧ At V b0 #[.bool false] 4
theorem SS.bl {b0 z : Nat} {v : Value} {n : Int} {V V' : World} (h : SS b0 z v n V) (g : Bl V V') : SS b0 z v n V' := ⟨h.1.bl g, h.2.1.bl g, h.2.2.bl g⟩
theorem SS.cells {b0 z : Nat} {v : Value} {n : Int} {V : World} (h : SS b0 z v n V) : V.cell? ⟨z, 0, none⟩ = some v ∧ V.cell? ⟨z + 2, 0, none⟩ = some (.int .i64 n) ∧ V.cell? ⟨b0, 0, none⟩ = some (.bool false) ∧ V.frozen? ⟨b0, 0, none⟩ = false := ⟨h.1.cell 0, h.2.1.cell 0, h.2.2.cell 0, h.2.2.free 0⟩

set_option maxRecDepth 100000 in
set_option maxHeartbeats 4000000 in
theorem signs_core (s : ByteArray) (hs : s.size ≤ 9223372036854775807) (w : World) : Calls Try.prog 3 #[.string s] w (Bt w (.bool true)) := by
  have cf : ∀ w, Calls Try.prog 11 #[.string s, .int .i64 200] w fun e w' => e = .returned (.string (bs (s.data.toList.take 200))) ∧ w = w' := fun w => few1 s hs 200 (by omega) w
  have hT : (bs (s.data.toList.take 200)).size ≤ 200 := by rw [bs_size, List.length_take]; omega
  generalize bs (s.data.toList.take 200) = T at *
  have mixed : Try.prog.follows .mixedOrders = true := by kernel_rfl
  have cs := fun w => rsigns1 T (by omega) w
  have hN := sgs_len T.data.toList
  rw [size_list] at hN
  have cc := fun w => count1 T (by omega) w
  have cw := fun w => twidth1 T (by omega) w
  have cr := fun w => rwidth1 T (by omega) w
  refine (callsIn_wide (n := 5)).1 ?_
  refine callsIn_of_wp_marks Try.func3 rfl trivial ?_ rfl
  simp only [Try.ntmps3, List.size_toArray, List.length_cons, List.length_nil, Nat.reduceAdd, Nat.reduceSub, Array.replicate_succ, Array.replicate_zero, List.push_toArray, List.append_toArray, List.nil_append, List.cons_append]
  have r1 := At.new w #[.bool false] 4
  have G1 : Bl w (w.alloc (.cells #[.bool false] 4)) := (Bl.refl w).alloc _
  gi_wp2_with fail
  refine ⟨trivial, ?_⟩
  refine (callsIn_wide.2 (cf _)).mono ?_
  rintro e w1 ⟨rfl, rfl⟩
  gi_wp2_with fail
  refine ⟨trivial, ?_⟩
  refine (callsIn_wide.2 (cs _)).mono ?_
  rintro e w2 ⟨A, c, rfl, own, g2⟩
  have hrow := own.ss
  replace r1 := r1.bl g2
  replace G1 := G1.trans g2
  clear g2 own
  have hb0 := r1.lt
  have hz0 : w.heap.size ≤ w2.heap.size := G1.size
  obtain ⟨N, hNN⟩ : ∃ N, N = (sgs T.data.toList).length := ⟨_, rfl⟩
  rw [← hNN] at hN cc ⊢
  replace hNN := Lib.hid hNN
  gi_wp2_with fail
  refine ⟨trivial, ?_⟩
  refine (callsIn_wide.2 (signs1 T _)).mono ?_
  rintro e w3 ⟨rfl, rfl⟩
  have a1 := ((At.new w2 #[.slice A N c] 23).alloc (.cells #[.string T] 9)).alloc (.cells #[.int .i64 0] 3)
  have a2 := (At.newAt (w := w2.alloc (.cells #[.slice A N c] 23)) (n := w2.heap.size + 1) (by simp) #[.string T] 9).alloc (.cells #[.int .i64 0] 3)
  have a3 := At.newAt (w := (w2.alloc (.cells #[.slice A N c] 23)).alloc (.cells #[.string T] 9)) (n := w2.heap.size + 2) (by simp) #[.int .i64 0] 3
  have G2 : Bl w2 (((w2.alloc (.cells #[.slice A N c] 23)).alloc (.cells #[.string T] 9)).alloc (.cells #[.int .i64 0] 3)) := (((Bl.refl w2).alloc _).alloc _).alloc _
  have hz2 : (((w2.alloc (.cells #[.slice A N c] 23)).alloc (.cells #[.string T] 9)).alloc (.cells #[.int .i64 0] 3)).heap.size = w2.heap.size + 3 := by simp
  have hfe := fun cap w => fn_nil 30 cap w
  gi_wp2
  clear hfe
  obtain ⟨U, hU⟩ : ∃ U, U = (((w2.alloc (.cells #[.slice A N c] 23)).alloc (.cells #[.string T] 9)).alloc (.cells #[.int .i64 0] 3)) := ⟨_, rfl⟩
  rw [← hU] at a1 a2 a3 G2 hz2 ⊢
  clear hU
  refine wpIn_rangeFunc_ownG rfl (by omega) (gf := 30) (lb := #[.pointer (some ⟨w2.heap.size + 1, 0, none⟩)]) rfl trivial (enters_of Try.func30 (by kernel_rfl) rfl)
    (signsStops (5 - 1) (by omega) _ _ T (by omega) _ a2) (fun h k => walksK_t h k) walksK_b (Below.refl _ _) (fun _ => rfl)
    (fun pre V => Below w2.heap.size w2 V ∧ At V w2.heap.size #[.slice A N c] 23 ∧ At V (w2.heap.size + 2) #[.int .i64 (pre.length : Nat)] 3 ∧ pre.map (·.1) = List.range pre.length)
    (fun c pre V => c = .ret ∧ ∃ P x, pre = P ++ [x] ∧ x.1 ≠ P.length)
    ((ownFrom_below (Nat.le_refl _) (by omega)).and ((ownAt _ _ _ _).and ((ownAt _ _ _ _).and (ownFrom_pure _ _))))
    (fun c => (ownFrom_pure _ _))
    ⟨G2, a1, a3, rfl⟩
    (fun x => { tmps := #[.string T, undef, .pointer (some ⟨w.heap.size, 0, none⟩), .pointer (some ⟨w2.heap.size, 0, none⟩), .func (.func 30) #[] #[.pointer (some ⟨w2.heap.size + 1, 0, none⟩)], .pointer (some ⟨w2.heap.size + 2, 0, none⟩), .int .i64 (pos T.data.toList x.1 : Nat), .int .i32 (rAt T.data.toList x),
      .string s, .string T, .string T, .slice A N c, .string T, .func (.func 30) #[] #[.pointer (some ⟨w2.heap.size + 1, 0, none⟩)], .func (.func 30) #[] #[.pointer (some ⟨w2.heap.size + 1, 0, none⟩)], .bool false, .func (.func 30) #[] #[.pointer (some ⟨w2.heap.size + 1, 0, none⟩)], .int .i64 (pos T.data.toList x.1 : Nat), .int .i32 (rAt T.data.toList x),
      undef, undef, undef, undef, undef, undef, undef, undef, undef, undef, undef, undef, undef, undef, undef, undef, undef, undef, undef, undef, undef, undef, undef, undef, undef, undef, undef, undef, undef, undef, undef, undef, undef, undef, undef, undef, undef, undef, undef, undef, undef, undef, undef], defers := [] }) ?assign ?body ?done ?stop
  case assign =>
    intro l x W' K' hK'
    dsimp only [sgV]
    gi_wp2
    exact hK'
  case body =>
    rintro l pre x W' ⟨hb, i1, i3, hpre⟩ hlen0
    have hlen : pre.length < N := by rw [hNN.out]; exact hlen0
    obtain ⟨b, off, y, rfl, hy, e1, e2, e3, e4⟩ := row_open (hrow.bl hb) (k := pre.length) hlen0
    have hbz : b ≠ w2.heap.size + 2 := by
      intro e
      obtain ⟨b', off', hA', hr'⟩ := hrow.opened (by rw [pls_len, ← hNN.out]; omega)
      injection hA' with hA'
      injection hA' with hA1 hA2 _
      subst hA1
      have h9 := (hr' _ _ (pls_at hy)).1
      have := World.block_lt_of_cell? w2 _ h9
      simp at this
      omega
    have c3 : W'.cell? ⟨w2.heap.size, 0, none⟩ = some (.slice (some ⟨b, off, none⟩) N c) := i1.cell 0
    have c5 : W'.cell? ⟨w2.heap.size + 2, 0, none⟩ = some (.int .i64 (pre.length : Nat)) := i3.cell 0
    have f5 : W'.frozen? ⟨w2.heap.size + 2, 0, none⟩ = false := i3.free 0
    have r2 := r1.bl hb
    have k2 : W'.cell? ⟨w.heap.size, 0, none⟩ = some (.bool false) := r2.cell 0
    have g2 : W'.frozen? ⟨w.heap.size, 0, none⟩ = false := r2.free 0
    have e6 : (((pre ++ [x]).length : Nat) : Int) = (pre.length : Int) + 1 := by simp
    have j3 : At (W'.setCell ⟨w2.heap.size + 2, 0, none⟩ (.int .i64 ((pre.length : Int) + 1))) (w2.heap.size + 2) #[.int .i64 ((pre.length : Int) + 1)] 3 := by simpa using i3.put 0 (.int .i64 ((pre.length : Int) + 1))
    have j1 := i1.far (p := ⟨w2.heap.size + 2, 0, none⟩) (by simp) (.int .i64 ((pre.length : Int) + 1))
    have jb := hb.setCell (p := ⟨w2.heap.size + 2, 0, none⟩) (by simp) (.int .i64 ((pre.length : Int) + 1))
    have jk := KeepsOthers.setCell W' ⟨w2.heap.size + 2, 0, none⟩ (.int .i64 ((pre.length : Int) + 1))
    have hmap : x.1 = pre.length → (pre ++ [x]).map (·.1) = List.range (pre ++ [x]).length := fun h => by
      rw [List.map_append, hpre, List.length_append]
      show _ = List.range (pre.length + 1)
      rw [List.range_succ, ← h]; rfl
    have q0 : decide ((N : Int) ≤ (pre.length : Int)) = false := by simp; omega
    have q00 : decide (N ≤ pre.length) = false := by simp; omega
    by_cases hx : x.1 = pre.length
    · have hpos : pos T.data.toList x.1 = pos T.data.toList pre.length := by rw [hx]
      have hyr : y.r = rAt T.data.toList x := by
        have h8 : (sgs T.data.toList)[x.1]? = some y := by rw [hx]; exact hy
        have h9 := Option.some.inj ((sgs_get T.data.toList x).symm.trans h8)
        unfold rAt
        rw [h9]
      rw [hyr] at e3
      rw [← hpos] at e1
      have hm := Lib.hid (hmap hx)
      have hr := (sgs_ok T.data.toList _ (List.getElem_mem x.2)).vr.int
      have hr' : 0 ≤ rAt T.data.toList x ∧ rAt T.data.toList x ≤ 1114111 := hr
      generalize rAt T.data.toList x = r at *
      obtain ⟨hr0, hr1⟩ := hr'
      have q1 : (((pos T.data.toList x.1 : Nat) : Int) != ((pos T.data.toList x.1 : Nat) : Int)) = false := by simp
      have q2 : (r != r) = false := by simp
      have hpll : (pre.length : Int) ≤ 1000000 := by omega
      generalize pos T.data.toList x.1 = p at *
      replace hpre := Lib.hid hpre
      clear hpos hyr hx hmap hr hy
      replace e6 := Lib.hid e6
      gi_wp2
      exact ⟨jk.from _, jk.walks, jb, j1, by rw [e6.out]; exact j3, hm.out⟩
    · have hne : (((pos T.data.toList x.1 : Nat) : Int) != ((pos T.data.toList pre.length : Nat) : Int)) = true := by
        have := pos_ne x.2 hlen0 hx
        simp; omega
      clear hmap hy
      replace hpre := Lib.hid hpre
      replace e6 := Lib.hid e6
      gi_wp2
      exact ⟨(KeepsOthers.setCell _ _ _).from _, rfl, pre, x, rfl, hx⟩
  case done =>
    rintro D ys W' hD hys ⟨hb, i1, i3, _⟩ hK'
    rw [gF_len_all hys, ← hNN.out] at i3
    have S0 : SS w.heap.size w2.heap.size (.slice A N c) N W' := ⟨i1, i3, r1.bl hb⟩
    have GB : Bl w W' := G1.trans hb
    clear hys hb i1 i3
    obtain ⟨s1, s2, s3, s4⟩ := S0.cells
    have q0 : ((N : Int) == (N : Int)) = true := by simp
    generalize wid (sgs T.data.toList) = v at *
    gi_wp2
    rename_i K hK
    have rest : ∀ X : World, SS w.heap.size w2.heap.size (.slice A N c) N X → Bl W' X →
        K { tmps := #[.string T, undef, .pointer (some ⟨w.heap.size, 0, none⟩), .pointer (some ⟨w2.heap.size, 0, none⟩), .func (.func 30) #[] #[.pointer (some ⟨w2.heap.size + 1, 0, none⟩)], .pointer (some ⟨w2.heap.size + 2, 0, none⟩), undef, undef,
          .string s, .string T, .string T, .slice A N c, .string T, .func (.func 30) #[] #[.pointer (some ⟨w2.heap.size + 1, 0, none⟩)], .func (.func 30) #[] #[.pointer (some ⟨w2.heap.size + 1, 0, none⟩)], .bool false, .func (.func 30) #[] #[.pointer (some ⟨w2.heap.size + 1, 0, none⟩)], undef, undef,
          undef, undef, undef, undef, undef, undef, undef, undef, undef, undef, undef, undef, undef, undef, undef, undef, undef, undef, undef, undef, undef, undef, undef,
          .int .i64 N, .slice A N c, .int .i64 N, .bool true, .bool true, .string T, .int .i64 N, .int .i64 N, .bool true, .bool true, .bool true, .string T, .int .i64 v, .string T, .int .i64 v, .bool true, .bool true, .bool true, .bool true, .bool true], defers := [{ target := .collected D, args := #[] }] } (X.setCell ⟨w.heap.size, 0, none⟩ (.bool true)) := by
      intro X SX gX
      refine hK _ _ ?_
      clear hK
      have hX : At (X.setCell ⟨w.heap.size, 0, none⟩ (.bool true)) w.heap.size #[.bool true] 4 := by simpa using SX.2.2.put 0 (.bool true)
      have hbX := (GB.trans gX).setCell (p := ⟨w.heap.size, 0, none⟩) (Nat.le_refl _) (.bool true)
      have hDX : X.heap[D]? = some (.deferred (some [])) := (Below.block gX D (Array.getElem?_eq_some_iff.1 hK').1).trans hK'
      have hKX : (X.setCell ⟨w.heap.size, 0, none⟩ (.bool true)).heap[D]? = some (.deferred (some [])) := (Below.heap_setCell _ _ _ _ (by simp; omega)).trans hDX
      generalize X.setCell ⟨w.heap.size, 0, none⟩ (.bool true) = Y at hX hbX hKX ⊢
      gi_wp2
      refine ⟨by simp, .inl ⟨_, _, rfl, run_takeDeferred hKX, ?_⟩⟩
      have hgp := grownBy_putObj' Y D (.deferred none)
      have c5 : (Y.putObj D (.deferred none)).cell? ⟨w.heap.size, 0, none⟩ = some (.bool true) := (hX.grown hgp (by simp; omega)).cell 0
      refine ⟨.bool true, ?_, rfl, ?_⟩
      · simp [results, Try.results3, go_sem, c5]
      · exact below_fin hbX hD (by omega) hKX
    have v0 : ((v : Int) == v) = true := by simp
    have D0 : Bl W' W'.drew := (Bl.refl _).drew
    obtain ⟨t1, t2, t3, t4⟩ := (S0.bl D0).cells
    refine wpIn_mono (Q := Exit.then K (fun _ _ _ => False)) ?_ then_false
    gi_region_with_o (first
      | (refine ⟨trivial, ?_⟩; gi_at_call 14; refine (callsIn_wide.2 (cc _)).mono ?_; rintro e w5 ⟨rfl, g5⟩; have S5 := S0.bl (D0.trans g5); obtain ⟨u1, u2, u3, u4⟩ := S5.cells)
      | (refine ⟨trivial, ?_⟩; gi_at_call 15; refine (callsIn_wide.2 (cw _)).mono ?_; rintro e w6 ⟨rfl, g6⟩; have S6 := S5.bl g6; obtain ⟨x1, x2, x3, x4⟩ := S6.cells)
      | (refine ⟨trivial, ?_⟩; gi_at_call 16; refine (callsIn_wide.2 (cr _)).mono ?_; rintro e w7 ⟨rfl, g7⟩; have S7 := S6.bl g7; obtain ⟨y1, y2, y3, y4⟩ := S7.cells)
      | (refine ⟨trivial, ?_⟩; gi_at_call 17; refine (callsIn_wide.2 (tlives1 _)).mono ?_; rintro e w8 ⟨rfl, g8⟩; have S8 := S7.bl g8; obtain ⟨z1, z2, z3, z4⟩ := S8.cells))
    all_goals exact rest _ S8 (((((D0.trans g5).trans g6).trans g7).trans g8))
  case stop =>
    rintro D cx pre W' hD hpre ⟨_, P, x, rfl, hx⟩ hK'
    exact absurd (range_next (α := Unit) hpre) hx

set_option maxRecDepth 100000 in
theorem titleSigns_lifted (os : Os) (started : os.Started) (H : Type) (enc : TypeId × Value → H) :
    ReturnsInHanded {} Try.checked os 3 .any (Rows.titleSignsSpec.pre6 enc Try.prog Try.f3 Rows.titleSignsRow.domain false) (Rows.titleSignsSpec.post enc Try.prog Try.f3 false true false false) := by
  refine returnsInHanded_of_change (C := Try.checked) own started (by kernel_rfl) Try.func3
    (ChangeSpec.witness6 (enc := enc) (C := Try.checked) false ⟨#[], #[.string ByteArray.empty], []⟩ 8 (by kernel_rfl) (by kernel_rfl) (by kernel_rfl) (by kernel_rfl)) ?_
  intro W base args ds gs before hval0 hW hcnd _
  have hval : ∀ (j : Nat) t v, Try.f3.params[j]? = some t → args[j]? = some v → Value.okWide Try.prog W .any base t v := hval0
  have hW' := hW
  obtain ⟨p, q, hA0, hV, rfl, hfz, hnd⟩ := hW
  have hA : DataW.TrodAll enc Try.prog W 0 (fun _ => true) true Try.f3.params.toList args.toList ds p := hA0
  rw [Try.params3] at hA hval
  obtain ⟨v0, vs0, d0, ds0, p0, q0, hargs, rfl, rfl, h0, r0⟩ := trodAll_cons hA
  obtain ⟨rfl, rfl, rfl⟩ := trodAll_nil r0
  obtain rfl : args = #[v0] := by cases args; simp_all
  obtain ⟨rfl, rfl⟩ := trodVars_none hV
  obtain ⟨s0, rfl, rfl, rfl, ws0⟩ := open_string Try.underlying9 (hval 0 9 v0 rfl rfl) h0
  clear hA0 hval0
  simp only [List.append_nil] at hW'
  refine (signs_core s0 (by unfold maxLen at ws0; exact ws0) W).mono fun e W' ⟨he, hb⟩ => ?_
  subst he
  exact ⟨_, rfl, close_below (pa := []) (pv := []) hW' (fun _ _ _ => (trodAll_cons_mk (shut_bool Try.underlying4 _) trodAll_mk0)) (fun sp _ => (trodAll_cons_mk (shut_string Try.underlying9 ws0) trodAll_mk0))
    (fun _ _ => rfl) rfl hb (ok_one (by kernel_rfl) rfl (okWide_bool_mk Try.underlying4 _))⟩

theorem titleSigns_holds : Rows.TitleSignsSaid :=
  OpenClaim.holds_of_wide 3 Try.f3 rfl rfl rfl rfl rfl rfl rfl ⟨rfl, rfl, rfl, rfl, rfl⟩ rfl rfl rfl rfl rfl (by kernel_rfl) Try.func3 (by kernel_rfl)
    (of_decide_eq_true (by kernel_rfl)) (by unfold Func.isWrapper; first | (rw [if_pos (by decide +kernel)]; kernel_rfl) | (rw [if_neg (by decide +kernel)]; exact ⟨rfl, rfl⟩))
    (fun os started H enc _ => titleSigns_lifted os started H enc)

#print axioms titleSigns_holds

end Go.Proofs.Ytcfckhelpnielaa
