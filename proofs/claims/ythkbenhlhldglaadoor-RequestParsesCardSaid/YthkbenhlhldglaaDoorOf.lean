/-
  What is proved: what Read of the document's package of messages hands back. No conditions but bounds.
-/
import Derived.Test.YthkbenhlhldglaaDoorMb
namespace Go.Proofs.YthkbenhlhldglaaDoor
open Go.RowKit Go.Sort

set_option maxRecDepth 100000 in
set_option maxHeartbeats 4000000 in
theorem rread1 (A : Option Addr) (c : Nat) (L : List Int) (w : World) (hA : RwB w A L) (hc : L.length ≤ c) (hcm : c ≤ maxLen) (hb : ByL L) :
    Calls Tryd.prog 83 #[.slice A L.length c] w (RdQ w L (fun k => A.map (·.block) = some k)) := by
  obtain ⟨n, hn⟩ : ∃ n, n = L.length := ⟨_, rfl⟩
  rw [← hn] at hc ⊢
  have e1 : n < 2 → rdE L = 3 := fun h => by unfold rdE; rw [if_pos (by omega)]; rfl
  have e2 : 2 ≤ n → (hdN L < 7 ∨ 4103 < hdN L) → rdE L = 2 := fun h k => by unfold rdE; rw [if_neg (by omega), if_pos k]; rfl
  have e3 : 2 ≤ n → 7 ≤ hdN L → hdN L ≤ 4103 → (n : Int) < hdN L → rdE L = 3 := fun h k1 k2 k3 => by unfold rdE; rw [if_neg (by omega), if_neg (by omega), if_pos (by omega)]; rfl
  have e4 : 2 ≤ n → 7 ≤ hdN L → hdN L ≤ 4103 → hdN L ≤ (n : Int) → rdE L = 0 := fun h k1 k2 k3 => rd_ok.2 (by omega)
  have hcm' := Lib.hid hcm
  clear hcm
  have b0 := hb.at 0
  have b1 := hb.at 1
  have b2 := hb.at 2
  have b3 := hb.at 3
  have b4 := hb.at 4
  have b5 := hb.at 5
  have b6 := hb.at 6
  have hH : hdN L = L.getD 0 0 * 256 + L.getD 1 0 := rfl
  have hgood := fun h => rd_good (L := L) h
  clear hb
  by_cases h2 : n < 2
  · have q := e1 h2
    clear e1 e2 e3 e4 hH b0 b1 b2 b3 b4 b5 b6 hgood
    replace hn := Lib.hid hn
    have q2 : (n : Int) < 2 := by omega
    go_enter Tryd.func83, Tryd.ntmps83
    go_wp2
    go_returns
    exact RdQ.bad q (by decide) ((Bl.refl _).alloc _)
  obtain ⟨b, off, rfl, hr⟩ := hA.opened (by omega)
  have k0 := hr.cellD (i := 0) (by omega)
  have k1 := hr.cellD (i := 1) (by omega)
  rw [Nat.add_zero] at k0
  have hkk := fun (h7 : 7 ≤ n) => And.intro (hr.cellD (i := 2) (by omega)) (And.intro (hr.cellD (i := 3) (by omega)) (And.intro (hr.cellD (i := 4) (by omega)) (And.intro (hr.cellD (i := 5) (by omega)) (hr.cellD (i := 6) (by omega)))))
  obtain ⟨x0, hx0⟩ : ∃ x, x = L.getD 0 0 := ⟨_, rfl⟩
  obtain ⟨x1, hx1⟩ : ∃ x, x = L.getD 1 0 := ⟨_, rfl⟩
  obtain ⟨x2, hx2⟩ : ∃ x, x = L.getD 2 0 := ⟨_, rfl⟩
  obtain ⟨x3, hx3⟩ : ∃ x, x = L.getD 3 0 := ⟨_, rfl⟩
  obtain ⟨x4, hx4⟩ : ∃ x, x = L.getD 4 0 := ⟨_, rfl⟩
  obtain ⟨x5, hx5⟩ : ∃ x, x = L.getD 5 0 := ⟨_, rfl⟩
  obtain ⟨x6, hx6⟩ : ∃ x, x = L.getD 6 0 := ⟨_, rfl⟩
  rw [← hx0] at k0 b0 hH
  rw [← hx1] at k1 b1 hH
  rw [← hx2, ← hx3, ← hx4, ← hx5, ← hx6] at hkk hgood
  rw [← hx2] at b2
  rw [← hx3] at b3
  rw [← hx4] at b4
  rw [← hx5] at b5
  rw [← hx6] at b6
  clear hx0 hx1 hx2 hx3 hx4 hx5 hx6
  obtain ⟨b00, b01⟩ := b0
  obtain ⟨b10, b11⟩ := b1
  obtain ⟨b20, b21⟩ := b2
  obtain ⟨b30, b31⟩ := b3
  obtain ⟨b40, b41⟩ := b4
  obtain ⟨b50, b51⟩ := b5
  obtain ⟨b60, b61⟩ := b6
  obtain ⟨N, hN⟩ : ∃ N, N = hdN L := ⟨_, rfl⟩
  rw [← hN] at e2 e3 e4 hH hgood
  have hN0 : 0 ≤ N := by omega
  have hN1 : N ≤ 65535 := by omega
  replace hN := Lib.hid hN
  have q2 : ¬ ((n : Int) < 2) := by omega
  have eN : x0 * 256 + x1 = N := by omega
  have hlow := fun h => e2 (by omega) h
  have hshort := fun h1 h2 h3 => e3 (by omega) h1 h2 h3
  have hok := fun h1 h2 h3 => e4 (by omega) h1 h2 h3
  clear e1 e2 e3 e4 hH
  replace hn := Lib.hid hn
  replace hlow := Lib.hid hlow
  replace hshort := Lib.hid hshort
  replace hok := Lib.hid hok
  replace hgood := Lib.hid hgood
  replace hkk := Lib.hid hkk

  have a0 := At.new w #[.int .i64 0, .int .i64 0, .slice none 0 0] 24
  have G0 : Bl w (w.alloc (.cells #[.int .i64 0, .int .i64 0, .slice none 0 0] 24)) := (Bl.refl w).alloc _
  have hr0 : RowB (w.alloc (.cells #[.int .i64 0, .int .i64 0, .slice none 0 0] 24)) b off L := fun i x hi => G0.keep (hr i x hi)
  have kb : b < w.heap.size := World.block_lt_of_cell? w _ k0
  have k0' := G0.keep k0
  have k1' := G0.keep k1
  have hz : w.heap.size < (w.alloc (.cells #[.int .i64 0, .int .i64 0, .slice none 0 0] 24)).heap.size := by simp
  have fin : ∀ (V : World) (y0 y1 y2 : Value), Bl w V → At V w.heap.size #[.int .i64 0, .int .i64 0, .slice none 0 0] 24 → At (((V.setCell ⟨w.heap.size, 0, none⟩ y0).setCell ⟨w.heap.size, 1, none⟩ y1).setCell ⟨w.heap.size, 2, none⟩ y2) w.heap.size #[y0, y1, y2] 24 ∧ Bl w (((V.setCell ⟨w.heap.size, 0, none⟩ y0).setCell ⟨w.heap.size, 1, none⟩ y1).setCell ⟨w.heap.size, 2, none⟩ y2) :=
    fun V y0 y1 y2 g h => ⟨h.put3 y0 y1 y2, ((g.setCell (p := ⟨w.heap.size, 0, none⟩) (Nat.le_refl _) y0).setCell (p := ⟨w.heap.size, 1, none⟩) (Nat.le_refl _) y1).setCell (p := ⟨w.heap.size, 2, none⟩) (Nat.le_refl _) y2⟩
  by_cases h7 : N < 7
  · have hq := Lib.hid (hlow.out (.inl h7))

    go_enter Tryd.func83, Tryd.ntmps83
    go_wp2
    obtain ⟨W, hW⟩ : ∃ W, W = w.alloc (.cells #[.int .i64 0, .int .i64 0, .slice none 0 0] 24) := ⟨_, rfl⟩
    rw [← hW] at a0 G0 hr0 k0' k1' hz ⊢
    clear hW
    go_quiet (fail)
    have a1 := a0.drewN nq
    have G1 := G0.drewN nq
    have hr1 : RowB (W.drewN nq) b off L := hr0
    have hz1 : w.heap.size < (W.drewN nq).heap.size := hz
    generalize W.drewN nq = W1 at *
    have f0 := a1.free 0
    have f1 := a1.free 1
    have f2 := a1.free 2
    have i0 := a1.cell 0
    have i1 := a1.cell 1
    have i2 := a1.cell 2
    simp only [List.getElem?_toArray, List.getElem?_cons_zero, List.getElem?_cons_succ] at i0 i1 i2
    go_wp2
    obtain ⟨aF, gF⟩ := fin W1 (.int .i64 0) (.int .i64 0) (.slice none 0 0) G1 a1
    generalize (((W1.setCell ⟨w.heap.size, 0, none⟩ (.int .i64 0)).setCell ⟨w.heap.size, 1, none⟩ (.int .i64 0)).setCell ⟨w.heap.size, 2, none⟩ (.slice none 0 0)) = V at *
    have d0 : V.cell? ⟨w.heap.size, 0, none⟩ = _ := aF.cell 0
    have d1 : V.cell? ⟨w.heap.size, 1, none⟩ = _ := aF.cell 1
    have d2 : V.cell? ⟨w.heap.size, 2, none⟩ = _ := aF.cell 2
    simp only [List.getElem?_toArray, List.getElem?_cons_zero, List.getElem?_cons_succ] at d0 d1 d2
    exact bodyPost_ret (v := .tuple #[.agg #[.int .i64 0, .int .i64 0, .slice none 0 0], .int .i64 0, .int .i64 2]) (by simp [results, Tryd.results83, go_sem, d0, d1, d2]) rfl (RdQ.bad hq.out (by decide) gF)
  by_cases h4 : 4103 < N
  · have hq := Lib.hid (hlow.out (.inr h4))

    go_enter Tryd.func83, Tryd.ntmps83
    go_wp2
    obtain ⟨W, hW⟩ : ∃ W, W = w.alloc (.cells #[.int .i64 0, .int .i64 0, .slice none 0 0] 24) := ⟨_, rfl⟩
    rw [← hW] at a0 G0 hr0 k0' k1' hz ⊢
    clear hW
    go_quiet (fail)
    have a1 := a0.drewN nq
    have G1 := G0.drewN nq
    have hr1 : RowB (W.drewN nq) b off L := hr0
    have hz1 : w.heap.size < (W.drewN nq).heap.size := hz
    generalize W.drewN nq = W1 at *
    have f0 := a1.free 0
    have f1 := a1.free 1
    have f2 := a1.free 2
    have i0 := a1.cell 0
    have i1 := a1.cell 1
    have i2 := a1.cell 2
    simp only [List.getElem?_toArray, List.getElem?_cons_zero, List.getElem?_cons_succ] at i0 i1 i2
    go_wp2
    obtain ⟨aF, gF⟩ := fin W1 (.int .i64 0) (.int .i64 0) (.slice none 0 0) G1 a1
    generalize (((W1.setCell ⟨w.heap.size, 0, none⟩ (.int .i64 0)).setCell ⟨w.heap.size, 1, none⟩ (.int .i64 0)).setCell ⟨w.heap.size, 2, none⟩ (.slice none 0 0)) = V at *
    have d0 : V.cell? ⟨w.heap.size, 0, none⟩ = _ := aF.cell 0
    have d1 : V.cell? ⟨w.heap.size, 1, none⟩ = _ := aF.cell 1
    have d2 : V.cell? ⟨w.heap.size, 2, none⟩ = _ := aF.cell 2
    simp only [List.getElem?_toArray, List.getElem?_cons_zero, List.getElem?_cons_succ] at d0 d1 d2
    exact bodyPost_ret (v := .tuple #[.agg #[.int .i64 0, .int .i64 0, .slice none 0 0], .int .i64 0, .int .i64 2]) (by simp [results, Tryd.results83, go_sem, d0, d1, d2]) rfl (RdQ.bad hq.out (by decide) gF)
  by_cases hs : (n : Int) < N
  · have hq := Lib.hid (hshort.out (by omega) (by omega) hs)

    go_enter Tryd.func83, Tryd.ntmps83
    go_wp2
    obtain ⟨W, hW⟩ : ∃ W, W = w.alloc (.cells #[.int .i64 0, .int .i64 0, .slice none 0 0] 24) := ⟨_, rfl⟩
    rw [← hW] at a0 G0 hr0 k0' k1' hz ⊢
    clear hW
    go_quiet (fail)
    have a1 := a0.drewN nq
    have G1 := G0.drewN nq
    have hr1 : RowB (W.drewN nq) b off L := hr0
    have hz1 : w.heap.size < (W.drewN nq).heap.size := hz
    generalize W.drewN nq = W1 at *
    have f0 := a1.free 0
    have f1 := a1.free 1
    have f2 := a1.free 2
    have i0 := a1.cell 0
    have i1 := a1.cell 1
    have i2 := a1.cell 2
    simp only [List.getElem?_toArray, List.getElem?_cons_zero, List.getElem?_cons_succ] at i0 i1 i2
    go_wp2
    obtain ⟨aF, gF⟩ := fin W1 (.int .i64 0) (.int .i64 0) (.slice none 0 0) G1 a1
    generalize (((W1.setCell ⟨w.heap.size, 0, none⟩ (.int .i64 0)).setCell ⟨w.heap.size, 1, none⟩ (.int .i64 0)).setCell ⟨w.heap.size, 2, none⟩ (.slice none 0 0)) = V at *
    have d0 : V.cell? ⟨w.heap.size, 0, none⟩ = _ := aF.cell 0
    have d1 : V.cell? ⟨w.heap.size, 1, none⟩ = _ := aF.cell 1
    have d2 : V.cell? ⟨w.heap.size, 2, none⟩ = _ := aF.cell 2
    simp only [List.getElem?_toArray, List.getElem?_cons_zero, List.getElem?_cons_succ] at d0 d1 d2
    exact bodyPost_ret (v := .tuple #[.agg #[.int .i64 0, .int .i64 0, .slice none 0 0], .int .i64 0, .int .i64 3]) (by simp [results, Tryd.results83, go_sem, d0, d1, d2]) rfl (RdQ.bad hq.out (by decide) gF)
  have hq := Lib.hid (hok.out (by omega) (by omega) (by omega))
  obtain ⟨y2, y3, y4, y5, y6⟩ := hkk.out (by omega)
  obtain ⟨Q, rfl⟩ : ∃ Q : Nat, N = Q := ⟨N.toNat, by omega⟩
  have n7 : 7 ≤ Q := by omega
  have nn : Q ≤ n := by omega
  have n8 : Q ≤ c := by omega
  have n9 : (7 : Int) ≤ Q := by omega
  have m2 : 2 < n := by omega
  have hw2 : IntKind.i64.wrap x2 = x2 := IntWalk.i64_in _ (by omega)
  have m3 : (2 : Int) < n := by omega
  obtain ⟨I, hI⟩ : ∃ I, I = x3 * 16777216 + x4 * 65536 + x5 * 256 + x6 := ⟨_, rfl⟩
  replace hI := Lib.hid hI
  have y2' := G0.keep y2
  have y3' := G0.keep y3
  have y4' := G0.keep y4
  have y5' := G0.keep y5
  have y6' := G0.keep y6

  go_enter Tryd.func83, Tryd.ntmps83
  go_wp2
  obtain ⟨W, hW⟩ : ∃ W, W = w.alloc (.cells #[.int .i64 0, .int .i64 0, .slice none 0 0] 24) := ⟨_, rfl⟩
  rw [← hW] at a0 G0 hr0 k0' k1' hz y2' y3' y4' y5' y6' ⊢
  clear hW
  go_quiet (fail)
  have a1 := a0.drewN nq
  have G1 := G0.drewN nq
  have hr1 : RowB (W.drewN nq) b off L := hr0
  have hz1 : w.heap.size < (W.drewN nq).heap.size := hz
  replace y2' : (W.drewN nq).cell? _ = _ := y2'
  replace y3' : (W.drewN nq).cell? _ = _ := y3'
  replace y4' : (W.drewN nq).cell? _ = _ := y4'
  replace y5' : (W.drewN nq).cell? _ = _ := y5'
  replace y6' : (W.drewN nq).cell? _ = _ := y6'
  generalize W.drewN nq = W1 at *
  have f0 := a1.free 0
  have f1 := a1.free 1
  have f2 := a1.free 2
  have i0 := a1.cell 0
  have i1 := a1.cell 1
  have i2 := a1.cell 2
  simp only [List.getElem?_toArray, List.getElem?_cons_zero, List.getElem?_cons_succ] at i0 i1 i2

  have eI : x3 * 16777216 + x4 * 65536 + x5 * 256 + x6 = I := hI.out.symm
  go_wp2
  go_quiet (fail)
  have a3 := a1.drewN nq
  have G3 := G1.drewN nq
  have hr3 : RowB (W1.drewN nq) b off L := hr1
  have hz3 : w.heap.size < (W1.drewN nq).heap.size := hz1
  replace y2' : (W1.drewN nq).cell? _ = _ := y2'
  have f3 := a3.free 0
  have f4 := a3.free 1
  have f5 := a3.free 2
  have i3 := a3.cell 0
  have i4 := a3.cell 1
  have i5 := a3.cell 2
  simp only [List.getElem?_toArray, List.getElem?_cons_zero, List.getElem?_cons_succ] at i3 i4 i5
  clear f0 f1 f2 i0 i1 i2 a1 G1 hr1 hz1 y3' y4' y5' y6'
  generalize W1.drewN nq = W3 at *
  go_wp2
  go_region_with (fail)
  go_wp2
  · have hb0 : (L.take Q).drop 7 = [] := List.eq_nil_of_length_eq_zero (by rw [List.length_drop, List.length_take]; omega)
    have e0 : Q - 7 = 0 := by omega
    obtain ⟨aF, gF⟩ := fin W3 (.int .i64 x2) (.int .i64 I) (.slice (some ⟨b, off, none⟩) (Q - 7) 0) G3 a3
    replace aF := aF.drew
    replace gF := gF.drew
    generalize ((((W3.setCell ⟨w.heap.size, 0, none⟩ (.int .i64 x2)).setCell ⟨w.heap.size, 1, none⟩ (.int .i64 I)).setCell ⟨w.heap.size, 2, none⟩ (.slice (some ⟨b, off, none⟩) (Q - 7) 0))).drew = V at *
    have d0 : V.cell? ⟨w.heap.size, 0, none⟩ = _ := aF.cell 0
    have d1 : V.cell? ⟨w.heap.size, 1, none⟩ = _ := aF.cell 1
    have d2 : V.cell? ⟨w.heap.size, 2, none⟩ = _ := aF.cell 2
    simp only [List.getElem?_toArray, List.getElem?_cons_zero, List.getElem?_cons_succ] at d0 d1 d2
    obtain ⟨r1, r2⟩ := hgood.out hq.out
    refine bodyPost_ret (v := .tuple #[.agg #[.int .i64 x2, .int .i64 I, .slice (some ⟨b, off, none⟩) (Q - 7) 0], .int .i64 (Q : Int), .int .i64 0]) (by simp [results, Tryd.results83, go_sem, d0, d1, d2]) rfl ?_
    refine ⟨.slice (some ⟨b, off, none⟩) (Q - 7) 0, by rw [r1, r2, hq.out, ← hI.out]; simp, ?_, .inl (by rw [r1]; simpa using hb0), gF⟩
    rw [r1]
    simp only [Int.toNat_natCast]
    rw [hb0, e0]
    exact ⟨_, 0, rfl, fun _ => rfl, Nat.zero_le _, Nat.zero_le _, .inl rfl⟩
  · have hl0 : ((L.take Q).drop 7).length = Q - 7 := by rw [List.length_drop, List.length_take, ← hn.out]; omega
    obtain ⟨aF, gF⟩ := fin W3 (.int .i64 x2) (.int .i64 I) (.slice (some ⟨b, off + 7, none⟩) (Q - 7) (c - 7)) G3 a3
    replace aF := aF.drew
    replace gF := gF.drew
    generalize ((((W3.setCell ⟨w.heap.size, 0, none⟩ (.int .i64 x2)).setCell ⟨w.heap.size, 1, none⟩ (.int .i64 I)).setCell ⟨w.heap.size, 2, none⟩ (.slice (some ⟨b, off + 7, none⟩) (Q - 7) (c - 7)))).drew = V at *
    have d0 : V.cell? ⟨w.heap.size, 0, none⟩ = _ := aF.cell 0
    have d1 : V.cell? ⟨w.heap.size, 1, none⟩ = _ := aF.cell 1
    have d2 : V.cell? ⟨w.heap.size, 2, none⟩ = _ := aF.cell 2
    simp only [List.getElem?_toArray, List.getElem?_cons_zero, List.getElem?_cons_succ] at d0 d1 d2
    obtain ⟨r1, r2⟩ := hgood.out hq.out
    refine bodyPost_ret (v := .tuple #[.agg #[.int .i64 x2, .int .i64 I, .slice (some ⟨b, off + 7, none⟩) (Q - 7) (c - 7)], .int .i64 (Q : Int), .int .i64 0]) (by simp [results, Tryd.results83, go_sem, d0, d1, d2]) rfl ?_
    refine ⟨.slice (some ⟨b, off + 7, none⟩) (Q - 7) (c - 7), by rw [r1, r2, hq.out, ← hI.out]; simp, ?_, .inr ⟨b, rfl, rfl⟩, gF⟩
    rw [r1]
    simp only [Int.toNat_natCast]
    have hm := hcm'.out
    refine ⟨some ⟨b, off + 7, none⟩, c - 7, by rw [hl0], by simp, by rw [hl0]; omega, by omega, .inr ⟨b, off + 7, rfl, ?_⟩⟩
    have hrV : RowB V b off L := fun i x hi => gF.keep (hr i x hi)
    exact (hrV.take Q).drop 7

end Go.Proofs.YthkbenhlhldglaaDoor
