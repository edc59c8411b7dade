/-
  What is proved: what Rows of package image hands back, and what a range over it comes to.
-/
import Derived.Test.YtmaondghfncjoaaRs
import Derived.Test.YtmaondghfncjoaaIz
import Derived.Laws.CopyOwn
namespace Go.Proofs.Ytmaondghfncjoaa
open Go.RowKit Go.Sort Go.Shelf

attribute [local go_sem] Oper.semAt_some

/-- A row of colors. -/
def rowL (W : Nat) (L : List Int) (y : Nat) : List Int := (L.drop (y * W)).take W
def rowE (W : Nat) {H : Nat} (x : Fin H × Nat) : Array Value := #[.int .i64 (x.1.1 : Int), .slice (some ⟨x.2, 0, none⟩) W W]

theorem rows1 {pm pc W H : Nat} {L : List Int} {X : List Value} (w : World) (hI : ImgX w pm pc W H L X) :
    Calls Try.prog 26 #[.pointer (some ⟨pm, 0, none⟩)] w (fun e w' => ∃ (bn p2 c2 : Nat) (Y : List Value), e = .returned (.func (.func 52) #[] #[.pointer (some ⟨bn, 0, none⟩)]) ∧
      At w' bn #[.pointer (some ⟨p2, 0, none⟩)] 27 ∧ ImgX w' p2 c2 W H L Y ∧ w.heap.size ≤ bn ∧ w.heap.size ≤ p2 ∧ w.heap.size ≤ c2 ∧ Bl w w') := by
  have cl := iclone1 w hI
  go_enter Try.func26, Try.ntmps26
  go_wp2_with fail
  refine cl.mono ?_
  rintro e w1 ⟨p2, c2, Y, rfl, I1, h1, h2, g1⟩
  have A1 := At.new w1 #[.pointer (some ⟨p2, 0, none⟩)] 27
  have I2 := I1.gr ((Gr.refl w1).alloc (.cells #[.pointer (some ⟨p2, 0, none⟩)] 27))
  have g2 := g1.gr ((Gr.refl w1).alloc (.cells #[.pointer (some ⟨p2, 0, none⟩)] 27))
  have h3 := g1.size
  go_wp2
  go_ret
  exact ⟨_, p2, c2, Y, rfl, A1, I2, h3, h1, h2, g2⟩

set_option maxRecDepth 100000 in
set_option maxHeartbeats 2000000 in
theorem rowsRuns (bn pn pc W H : Nat) (L : List Int) (X : List Value) (tn : TypeId) (w : World) (hbn : At w bn #[.pointer (some ⟨pn, 0, none⟩)] tn) (hI : ImgX w pn pc W H L X) :
    Runs 8 Try.prog 52 #[.pointer (some ⟨bn, 0, none⟩)] (fun x : Fin H × Nat => rowE W x)
      (fun pre x V => x.1.1 = pre.length ∧ w.heap.size ≤ x.2 ∧ At V x.2 (cC (rowL W L x.1.1)) 30) (fun x k => k ≠ x.2 ∧ (w.heap.size ≤ k ∨ k = pn ∨ k = pc)) (fun xs => xs.map (·.1.1) = List.range' 0 H) w := by
  intro l J hJ hY h0
  have mixed : Try.prog.follows .mixedOrders = true := by kernel_rfl
  refine callsIn_of_wp_marks Try.func52 rfl trivial ?_ rfl
  simp only [Try.ntmps52, List.size_toArray, List.length_cons, List.length_nil, Nat.reduceAdd, Nat.reduceSub, Array.replicate_succ, Array.replicate_zero, List.push_toArray, List.append_toArray, List.nil_append, List.cons_append]
  have G0 := (Gr.refl w).alloc (.cells #[.func (.yield l) #[] #[]] 89)
  have Y0 := At.new w #[.func (.yield l) #[] #[]] 89
  have j0 : J [] (w.alloc (.cells #[.func (.yield l) #[] #[]] 89)) := hJ.lay _ h0
  have n0 := (hbn.gr G0).cell 0
  gi_wp2
  rename_i K hK
  have rest : ∀ V : World, Gr (w.alloc (.cells #[.func (.yield l) #[] #[]] 89)) V →
      K { tmps := #[.func (.yield l) #[] #[], .pointer (some ⟨bn, 0, none⟩), .pointer (some ⟨w.heap.size, 0, none⟩), undef, undef, undef, .pointer (some ⟨pn, 0, none⟩), .pointer (some ⟨pn, 0, none⟩), .agg #[.int .i64 0, .int .i64 0, .int .i64 W, .int .i64 H],
          .func (.func 55) #[] #[.pointer (some ⟨V.heap.size + 1, 0, none⟩), .pointer (some ⟨V.heap.size, 0, none⟩)], undef, undef, undef, undef, undef, undef, undef, undef, undef, undef, undef, undef, undef], defers := [] }
        ((V.alloc (.cells #[.pointer (some ⟨pn, 0, none⟩)] 27)).alloc (.cells #[.int .i64 (0 : Nat), .int .i64 (0 : Nat), .int .i64 W, .int .i64 H] 32)) := by
    intro V GV
    refine hK _ _ ?_
    clear hK n0 mixed
    have hle := area_le hI.w2 hI.h2
    have hlL := Lib.hid hI.len
    have bm := (At.new V #[.pointer (some ⟨pn, 0, none⟩)] 27).alloc (.cells #[.int .i64 (0 : Nat), .int .i64 (0 : Nat), .int .i64 W, .int .i64 H] 32)
    have br := At.newAt (w := V.alloc (.cells #[.pointer (some ⟨pn, 0, none⟩)] 27)) (n := V.heap.size + 1) (by simp) #[.int .i64 (0 : Nat), .int .i64 (0 : Nat), .int .i64 W, .int .i64 H] 32
    have GU := ((G0.trans GV).alloc (.cells #[.pointer (some ⟨pn, 0, none⟩)] 27)).alloc (.cells #[.int .i64 (0 : Nat), .int .i64 (0 : Nat), .int .i64 W, .int .i64 H] 32)
    have yU := ((Y0.gr GV).alloc (.cells #[.pointer (some ⟨pn, 0, none⟩)] 27)).alloc (.cells #[.int .i64 (0 : Nat), .int .i64 (0 : Nat), .int .i64 W, .int .i64 H] 32)
    have hsU : ((V.alloc (.cells #[.pointer (some ⟨pn, 0, none⟩)] 27)).alloc (.cells #[.int .i64 (0 : Nat), .int .i64 (0 : Nat), .int .i64 W, .int .i64 H] 32)).heap.size = V.heap.size + 2 := by simp
    have hsV := (G0.trans GV).size
    have hsV1 : w.heap.size + 1 ≤ V.heap.size := by have := GV.size; simpa using this
    have ltn := hI.hd.lt
    have ltc := hI.cs.lt
    gi_wp2
    obtain ⟨U, hU⟩ : ∃ U, U = (V.alloc (.cells #[.pointer (some ⟨pn, 0, none⟩)] 27)).alloc (.cells #[.int .i64 (0 : Nat), .int .i64 (0 : Nat), .int .i64 W, .int .i64 H] 32) := ⟨_, rfl⟩
    rw [← hU] at bm br GU yU hsU ⊢
    clear hU
    have I5 := hI.gr GU
    have jU : J [] U := hJ [] _ _ none h0 (GU.by none) (by simp)
    clear hbn G0 Y0 j0 GV h0
    refine range_runs (n := 8) (by omega) (gf := 55) (lb := #[.pointer (some ⟨V.heap.size + 1, 0, none⟩), .pointer (some ⟨V.heap.size, 0, none⟩)]) rfl (enters_of Try.func55 (by kernel_rfl) rfl)
      (fun o o' => spansRuns V.heap.size (V.heap.size + 1) _ _ pn pc W H L.length (L.length + X.length) 0 W 0 H (fun _ => hI.w1) (Nat.le_refl _) (Nat.zero_le _) (Nat.le_refl _) ((U.alloc o).alloc o') ((I5.hd.alloc o).alloc o') (Nat.le_add_right _ _) I5.len I5.w2 I5.h2 ((bm.alloc o).alloc o') ((br.alloc o).alloc o'))
      (fun _ => rfl) (fun _ => by omega)
      (fun pre V' => ∃ xs : List (Fin H × Nat), xs.map (·.1) = pre ∧ J xs V' ∧ ImgX V' pn pc W H L X ∧ At V' w.heap.size #[.func (.yield l) #[] #[]] 89 ∧ U.heap.size ≤ V'.heap.size)
      ?own ⟨[], rfl, jU, I5, yU, Nat.le_refl _⟩ (fun _ => ownFrom_pure _ _)
      (fun x => { tmps := #[.func (.yield l) #[] #[], .pointer (some ⟨bn, 0, none⟩), .pointer (some ⟨w.heap.size, 0, none⟩), .int .i64 (x.1 : Int), .slice (some ⟨pc, x.1 * W, none⟩) W (L.length + X.length - x.1 * W), undef, .pointer (some ⟨pn, 0, none⟩), .pointer (some ⟨pn, 0, none⟩), .agg #[.int .i64 0, .int .i64 0, .int .i64 W, .int .i64 H],
          .func (.func 55) #[] #[.pointer (some ⟨V.heap.size + 1, 0, none⟩), .pointer (some ⟨V.heap.size, 0, none⟩)], .int .i64 (x.1 : Int), .slice (some ⟨pc, x.1 * W, none⟩) W (L.length + X.length - x.1 * W), undef, undef, undef, undef, undef, undef, undef, undef, undef, undef, undef], defers := [] }) ?assign ?body ?done
    case own =>
      rintro pre A B row ⟨xs, h1, h2, h3, h4, h5⟩ hg hr
      have ne : ∀ k, k < U.heap.size → some k ≠ row := fun k hk e => by have := hr k e.symm; omega
      exact ⟨xs, h1, hJ xs A B row h2 hg (fun r e => by have := hr r e; omega), { h3 with hd := h3.hd.kept hg (ne _ (by omega)), cs := h3.cs.kept hg (ne _ (by omega)) }, h4.kept hg (ne _ (by omega)), Nat.le_trans h5 hg.size⟩
    case assign =>
      intro l x W' K' hK'
      dsimp only [rowV]
      gi_wp2
      exact hK'
    case body =>
      rintro l' pre y W' ⟨xs, hxs, hj, hi, hy, hsz⟩ hyp
      have hvl : (rowL W L y.1).length = W := by
        unfold rowL
        rw [List.length_take, List.length_drop]
        have := row_of (show W - 1 < W by have := hI.w1; omega) y.2
        rw [← hlL.out] at this
        have := hI.w1
        omega
      have hmk := makeC W (by have := hI.w2; omega) W'
      have hR : ∀ j v, (rowL W L y.1)[j]? = some v → (W'.alloc (.cells (cC (List.replicate W 0)) 30)).cell? ⟨pc, y.1 * W + j, none⟩ = some (.int .u32 v) := fun j v hv => by
        have hjW : j < W := by
          rcases Nat.lt_or_ge j W with h | h
          · exact h
          · rw [List.getElem?_eq_none (by omega)] at hv; cases hv
        unfold rowL at hv
        rw [List.getElem?_take_of_lt hjW, List.getElem?_drop] at hv
        exact (hi.gr ((Gr.refl W').alloc _)).at hv
      have hcp := run_copy_row (P := Try.prog) (W'.alloc (.cells (cC (List.replicate W 0)) 30)) 22 22 3 30 W'.heap.size 0 (rowL W L y.1).length W ⟨pc, y.1 * W, none⟩ (rowL W L y.1).length (L.length + X.length - y.1 * W) (cC (List.replicate W 0)) 30 ((rowL W L y.1).map (Value.int .u32)) Try.underlying22 (by kernel_rfl) (At.new W' _ _) (by simp)
        (rowN_add (k := .u32) hR) (by simp [cC, hvl]) (one_int _ _)
      rw [hvl] at hcp
      obtain ⟨W1, hW1⟩ : ∃ W1, W1 = W'.alloc (.cells (cC (List.replicate W 0)) 30) := ⟨_, rfl⟩
      have zA : At W1 W'.heap.size (cC (List.replicate W 0)) 30 := by rw [hW1]; exact At.new W' _ _
      have gA : Gr W' W1 := by rw [hW1]; exact (Gr.refl W').alloc _
      rw [← hW1] at hmk hcp
      obtain ⟨W2, hW2⟩ : ∃ W2, W2 = W1.setRow W'.heap.size (cC (rowL W L y.1)) := ⟨_, rfl⟩
      have hrow : (cC (List.replicate W 0)).toList.take 0 ++ (rowL W L y.1).map (Value.int .u32) ++ (cC (List.replicate W 0)).toList.drop (0 + (rowL W L y.1).length) = (cC (rowL W L y.1)).toList := by
        rw [hvl]; simp [cC]
      have hcp2 : (Builtin.copy_ #[22, 22] 3 #[.slice (some ⟨W'.heap.size, 0, none⟩) W W, .slice (some ⟨pc, y.1 * W, none⟩) W (L.length + X.length - y.1 * W)]).run Try.prog W1 = .ok (goInt W) W2 := by
        rw [hcp, hW2]
        have h1 : ((List.map (Value.int .u32) (rowL W L y.1)).length : Int) = (W : Int) := by rw [List.length_map, hvl]
        have h2 : ((cC (List.replicate W 0)).toList.take 0 ++ (rowL W L y.1).map (Value.int .u32) ++ (cC (List.replicate W 0)).toList.drop (0 + ((rowL W L y.1).map (Value.int .u32)).length)).toArray = cC (rowL W L y.1) := by
          rw [List.length_map, hrow]
        rw [h1, h2]
      have gB : W1.grownBy W2 (some W'.heap.size) := by
        rw [hW2]
        exact ⟨rfl, rfl, rfl, by simp [World.setRow], fun k hk hne => setRow_other _ _ _ _ (fun e => hne (by rw [e]))⟩
      have yA : At W2 W'.heap.size (cC (rowL W L y.1)) 30 := by rw [hW2]; exact setRow_heap _ _ _ _ _ _ zA
      have same2 : ∀ k, k < W'.heap.size → W2.heap[k]? = W'.heap[k]? := fun k hk => (gB.block k (Nat.lt_of_lt_of_le hk gA.size) (by simp; omega)).trans (gA.below.block k hk)
      have hs2 : W'.heap.size + 1 ≤ W2.heap.size := by have := gB.size; have := zA.lt; omega
      have hYY := hY xs (y, W'.heap.size) W2 (hJ _ _ _ _ (hJ _ _ _ none hj (gA.by none) (by simp)) gB (fun r e => by cases e; omega)) ⟨by rw [hyp, ← hxs]; simp, by omega, yA⟩
      have yc : W2.cell? ⟨w.heap.size, 0, none⟩ = some (.func (.yield l) #[] #[]) := (hy.same (same2 _ (by omega))).cell 0
      obtain ⟨fn, tmps, assign, body, hyy, hRR⟩ := hYY
      have hRi : ∀ m, RoundIn (Fence.wide.inRound l') m Try.prog l fn tmps assign body W2 _ := fun m => ⟨hRR.1, fun c cs _ => hRR.2 c cs (room_wide _)⟩
      unfold rowE at hyy
      dsimp only at hyy
      have hW1' := Lib.hid hW1
      have hW2' := Lib.hid hW2
      have hyp' := Lib.hid hyp
      have hxs' := Lib.hid hxs
      have hvl' := Lib.hid hvl
      clear hcp hR hW1 hW2 hyp hxs hvl hrow hRR
      generalize L.length + X.length - y.1 * W = cc at *
      generalize y.1 * W = pp at *
      gi_wp2_with fail
      refine (hRi _).mono ?_
      rintro e W3 ⟨rfl, hj3, hst⟩
      have keep : ∀ k, k < W'.heap.size → (w.heap.size ≤ k ∨ k = pn ∨ k = pc) → W3.heap[k]? = W'.heap[k]? := fun k hk h => (hst.same k (by omega) ⟨by omega, h⟩).trans (same2 k hk)
      have hs3 := hst.size
      gi_wp2
      refine ⟨⟨by omega, fun k o hB hk _ => (keep k (Array.getElem?_eq_some_iff.1 hk).1 (.inl (by omega))).trans hk⟩, ⟨by omega, fun k hk h => keep k hk ?_⟩, xs ++ [(y, W'.heap.size)], by rw [List.map_append, hxs'.out]; rfl, hj3, { hi with hd := hi.hd.same (keep _ (by omega) (.inr (.inl rfl))), cs := hi.cs.same (keep _ (by omega) (.inr (.inr rfl))) }, hy.same (keep _ (by omega) (.inl (by omega))), by omega⟩
      rcases h with rfl | rfl | rfl
      · exact .inr (.inl rfl)
      · exact .inl (by omega)
      · exact .inl (by omega)
    case done =>
      rintro D ys W' hD hys ⟨xs, hxs, hj, _⟩ hK'
      gi_wp2
      refine ⟨by simp, .inl ⟨_, _, rfl, run_takeDeferred hK', ?_⟩⟩
      refine ⟨_, results_none rfl _ _ _, ⟨_, rfl⟩, xs, ?_, hJ.put _ hj (by omega)⟩
      have hys' : ys.map (·.1) = List.range' 0 H := hys
      rw [← hys', ← hxs, List.map_map]
      rfl
  have bx := fun (V : World) (h : ImgX V pn pc W H L X) => boxX V h
  refine wpIn_mono (Q := Exit.then K (fun _ _ _ => False)) ?_ then_false
  have n1 : ∀ V : World, Gr (w.alloc (.cells #[.func (.yield l) #[] #[]] 89)) V → V.cell? ⟨bn, 0, none⟩ = some (.pointer (some ⟨pn, 0, none⟩)) := fun V g => ((hbn.gr G0).gr g).cell 0
  have c0 := n1 _ (Gr.refl _)
  gi_region_with_o (first | (refine ⟨trivial, ?_⟩; gi_at_call 34; refine (callsIn_wide.2 (bx _ ((hI.gr G0).gr (Gr.refl _).drew))).mono ?_; rintro e w2 ⟨rfl, g2⟩; have R2 : Gr (w.alloc (.cells #[.func (.yield l) #[] #[]] 89)) w2 := (Gr.refl _).drew.trans g2; have c2 := n1 _ R2) | (refine ⟨trivial, ?_⟩; gi_at_call 38; refine (callsIn_wide.2 (spans1 _ _ _ _ _ _)).mono ?_; rintro e w3 ⟨rfl, rfl⟩))
  all_goals
    exact rest _ R2

theorem rowsRunsB (B bn pn pc W H : Nat) (L : List Int) (X : List Value) (tn : TypeId) (w : World) (hB : w.heap.size = B) (hbn : At w bn #[.pointer (some ⟨pn, 0, none⟩)] tn) (hI : ImgX w pn pc W H L X) :
    Runs 8 Try.prog 52 #[.pointer (some ⟨bn, 0, none⟩)] (fun x : Fin H × Nat => rowE W x)
      (fun pre x V => x.1.1 = pre.length ∧ B ≤ x.2 ∧ At V x.2 (cC (rowL W L x.1.1)) 30) (fun x k => k ≠ x.2 ∧ (B ≤ k ∨ k = pn ∨ k = pc)) (fun xs => xs.map (·.1.1) = List.range' 0 H) w := by
  subst hB
  exact rowsRuns bn pn pc W H L X tn w hbn hI

end Go.Proofs.Ytmaondghfncjoaa
