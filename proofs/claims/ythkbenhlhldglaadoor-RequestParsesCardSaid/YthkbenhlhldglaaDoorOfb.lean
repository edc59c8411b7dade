/-
  What is proved: what Read of package frame hands back. No conditions but bounds.
-/
import Derived.Test.YthkbenhlhldglaaDoorMb
import Derived.Test.YthkbenhlhldglaaDoorOg
namespace Go.Proofs.YthkbenhlhldglaaDoor
open Go.RowKit Go.Sort

set_option maxRecDepth 100000 in
set_option maxHeartbeats 4000000 in
theorem fread1 (A : Option Addr) (c : Nat) (L : List Int) (w : World) (hA : RwB w A L) (hc : L.length ≤ c) (hcm : c ≤ maxLen) (hb : ByL L) :
    Calls Tryd.prog 82 #[.slice A L.length c] w (RdQ w L (fun k => w.heap.size ≤ k)) := by
  obtain ⟨n, hn⟩ : ∃ n, n = L.length := ⟨_, rfl⟩
  rw [← hn] at hc ⊢
  have e1 : n < 2 → rdE L = 3 := fun h => by unfold rdE; rw [if_pos (by omega)]; rfl
  have e2 : 2 ≤ n → (hdN L < 7 ∨ 4103 < hdN L) → rdE L = 2 := fun h k => by unfold rdE; rw [if_neg (by omega), if_pos k]; rfl
  have e3 : 2 ≤ n → 7 ≤ hdN L → hdN L ≤ 4103 → (n : Int) < hdN L → rdE L = 3 := fun h k1 k2 k3 => by unfold rdE; rw [if_neg (by omega), if_neg (by omega), if_pos (by omega)]; rfl
  have e4 : 2 ≤ n → 7 ≤ hdN L → hdN L ≤ 4103 → hdN L ≤ (n : Int) → rdE L = 0 := fun h k1 k2 k3 => rd_ok.2 (by omega)
  have hcm' := Lib.hid hcm
  clear hcm
  have b0 := hb.at 0
  have b1 := hb.at 1
  have b2 := hb.at 2
  have b3 := hb.at 3
  have b4 := hb.at 4
  have b5 := hb.at 5
  have b6 := hb.at 6
  have hH : hdN L = L.getD 0 0 * 256 + L.getD 1 0 := rfl
  have hgood := fun h => rd_good (L := L) h
  clear hb
  by_cases h2 : n < 2
  · have q := e1 h2
    clear e1 e2 e3 e4 hH b0 b1 b2 b3 b4 b5 b6 hgood
    replace hn := Lib.hid hn
    have q2 : (n : Int) < 2 := by omega
    go_enter Tryd.func82, Tryd.ntmps82
    go_wp2
    go_returns
    exact RdQ.bad q (by decide) ((Bl.refl _).alloc _)
  obtain ⟨b, off, rfl, hr⟩ := hA.opened (by omega)
  have k0 := hr.cellD (i := 0) (by omega)
  have k1 := hr.cellD (i := 1) (by omega)
  rw [Nat.add_zero] at k0
  have hkk := fun (h7 : 7 ≤ n) => And.intro (hr.cellD (i := 2) (by omega)) (And.intro (hr.cellD (i := 3) (by omega)) (And.intro (hr.cellD (i := 4) (by omega)) (And.intro (hr.cellD (i := 5) (by omega)) (hr.cellD (i := 6) (by omega)))))
  obtain ⟨x0, hx0⟩ : ∃ x, x = L.getD 0 0 := ⟨_, rfl⟩
  obtain ⟨x1, hx1⟩ : ∃ x, x = L.getD 1 0 := ⟨_, rfl⟩
  obtain ⟨x2, hx2⟩ : ∃ x, x = L.getD 2 0 := ⟨_, rfl⟩
  obtain ⟨x3, hx3⟩ : ∃ x, x = L.getD 3 0 := ⟨_, rfl⟩
  obtain ⟨x4, hx4⟩ : ∃ x, x = L.getD 4 0 := ⟨_, rfl⟩
  obtain ⟨x5, hx5⟩ : ∃ x, x = L.getD 5 0 := ⟨_, rfl⟩
  obtain ⟨x6, hx6⟩ : ∃ x, x = L.getD 6 0 := ⟨_, rfl⟩
  rw [← hx0] at k0 b0 hH
  rw [← hx1] at k1 b1 hH
  rw [← hx2, ← hx3, ← hx4, ← hx5, ← hx6] at hkk hgood
  rw [← hx2] at b2
  rw [← hx3] at b3
  rw [← hx4] at b4
  rw [← hx5] at b5
  rw [← hx6] at b6
  clear hx0 hx1 hx2 hx3 hx4 hx5 hx6
  obtain ⟨b00, b01⟩ := b0
  obtain ⟨b10, b11⟩ := b1
  obtain ⟨b20, b21⟩ := b2
  obtain ⟨b30, b31⟩ := b3
  obtain ⟨b40, b41⟩ := b4
  obtain ⟨b50, b51⟩ := b5
  obtain ⟨b60, b61⟩ := b6
  obtain ⟨N, hN⟩ : ∃ N, N = hdN L := ⟨_, rfl⟩
  rw [← hN] at e2 e3 e4 hH hgood
  have hN0 : 0 ≤ N := by omega
  have hN1 : N ≤ 65535 := by omega
  replace hN := Lib.hid hN
  have q2 : ¬ ((n : Int) < 2) := by omega
  have eN : x0 * 256 + x1 = N := by omega
  have hlow := fun h => e2 (by omega) h
  have hshort := fun h1 h2 h3 => e3 (by omega) h1 h2 h3
  have hok := fun h1 h2 h3 => e4 (by omega) h1 h2 h3
  clear e1 e2 e3 e4 hH
  replace hn := Lib.hid hn
  replace hlow := Lib.hid hlow
  replace hshort := Lib.hid hshort
  replace hok := Lib.hid hok
  replace hgood := Lib.hid hgood
  replace hkk := Lib.hid hkk

  have a0 := At.new w #[.int .i64 0, .int .i64 0, .slice none 0 0] 24
  have G0 : Bl w (w.alloc (.cells #[.int .i64 0, .int .i64 0, .slice none 0 0] 24)) := (Bl.refl w).alloc _
  have hr0 : RowB (w.alloc (.cells #[.int .i64 0, .int .i64 0, .slice none 0 0] 24)) b off L := fun i x hi => G0.keep (hr i x hi)
  have kb : b < w.heap.size := World.block_lt_of_cell? w _ k0
  have k0' := G0.keep k0
  have k1' := G0.keep k1
  have hz : w.heap.size < (w.alloc (.cells #[.int .i64 0, .int .i64 0, .slice none 0 0] 24)).heap.size := by simp
  have fin : ∀ (V : World) (y0 y1 y2 : Value), Bl w V → At V w.heap.size #[.int .i64 0, .int .i64 0, .slice none 0 0] 24 → At (((V.setCell ⟨w.heap.size, 0, none⟩ y0).setCell ⟨w.heap.size, 1, none⟩ y1).setCell ⟨w.heap.size, 2, none⟩ y2) w.heap.size #[y0, y1, y2] 24 ∧ Bl w (((V.setCell ⟨w.heap.size, 0, none⟩ y0).setCell ⟨w.heap.size, 1, none⟩ y1).setCell ⟨w.heap.size, 2, none⟩ y2) :=
    fun V y0 y1 y2 g h => ⟨h.put3 y0 y1 y2, ((g.setCell (p := ⟨w.heap.size, 0, none⟩) (Nat.le_refl _) y0).setCell (p := ⟨w.heap.size, 1, none⟩) (Nat.le_refl _) y1).setCell (p := ⟨w.heap.size, 2, none⟩) (Nat.le_refl _) y2⟩
  by_cases h7 : N < 7
  · have hq := Lib.hid (hlow.out (.inl h7))

    go_enter Tryd.func82, Tryd.ntmps82
    go_wp2_with fail
    obtain ⟨W, hW⟩ : ∃ W, W = w.alloc (.cells #[.int .i64 0, .int .i64 0, .slice none 0 0] 24) := ⟨_, rfl⟩
    rw [← hW] at a0 G0 hr0 k0' k1' hz ⊢
    clear hW
    refine (value2 b off c x0 x1 W k0' k1' ⟨b00, b01⟩ ⟨b10, b11⟩).mono ?_
    rintro e W1 ⟨rfl, rfl⟩
    have f0 := a0.free 0
    have f1 := a0.free 1
    have f2 := a0.free 2
    have i0 := a0.cell 0
    have i1 := a0.cell 1
    have i2 := a0.cell 2
    simp only [List.getElem?_toArray, List.getElem?_cons_zero, List.getElem?_cons_succ] at i0 i1 i2
    rw [eN]
    go_wp2
    obtain ⟨aF, gF⟩ := fin W (.int .i64 0) (.int .i64 0) (.slice none 0 0) G0 a0
    generalize (((W.setCell ⟨w.heap.size, 0, none⟩ (.int .i64 0)).setCell ⟨w.heap.size, 1, none⟩ (.int .i64 0)).setCell ⟨w.heap.size, 2, none⟩ (.slice none 0 0)) = V at *
    have d0 : V.cell? ⟨w.heap.size, 0, none⟩ = _ := aF.cell 0
    have d1 : V.cell? ⟨w.heap.size, 1, none⟩ = _ := aF.cell 1
    have d2 : V.cell? ⟨w.heap.size, 2, none⟩ = _ := aF.cell 2
    simp only [List.getElem?_toArray, List.getElem?_cons_zero, List.getElem?_cons_succ] at d0 d1 d2
    exact bodyPost_ret (v := .tuple #[.agg #[.int .i64 0, .int .i64 0, .slice none 0 0], .int .i64 0, .int .i64 2]) (by simp [results, Tryd.results82, go_sem, d0, d1, d2]) rfl (RdQ.bad hq.out (by decide) gF)
  by_cases h4 : 4103 < N
  · have hq := Lib.hid (hlow.out (.inr h4))

    go_enter Tryd.func82, Tryd.ntmps82
    go_wp2_with fail
    obtain ⟨W, hW⟩ : ∃ W, W = w.alloc (.cells #[.int .i64 0, .int .i64 0, .slice none 0 0] 24) := ⟨_, rfl⟩
    rw [← hW] at a0 G0 hr0 k0' k1' hz ⊢
    clear hW
    refine (value2 b off c x0 x1 W k0' k1' ⟨b00, b01⟩ ⟨b10, b11⟩).mono ?_
    rintro e W1 ⟨rfl, rfl⟩
    have f0 := a0.free 0
    have f1 := a0.free 1
    have f2 := a0.free 2
    have i0 := a0.cell 0
    have i1 := a0.cell 1
    have i2 := a0.cell 2
    simp only [List.getElem?_toArray, List.getElem?_cons_zero, List.getElem?_cons_succ] at i0 i1 i2
    rw [eN]
    go_wp2
    obtain ⟨aF, gF⟩ := fin W (.int .i64 0) (.int .i64 0) (.slice none 0 0) G0 a0
    generalize (((W.setCell ⟨w.heap.size, 0, none⟩ (.int .i64 0)).setCell ⟨w.heap.size, 1, none⟩ (.int .i64 0)).setCell ⟨w.heap.size, 2, none⟩ (.slice none 0 0)) = V at *
    have d0 : V.cell? ⟨w.heap.size, 0, none⟩ = _ := aF.cell 0
    have d1 : V.cell? ⟨w.heap.size, 1, none⟩ = _ := aF.cell 1
    have d2 : V.cell? ⟨w.heap.size, 2, none⟩ = _ := aF.cell 2
    simp only [List.getElem?_toArray, List.getElem?_cons_zero, List.getElem?_cons_succ] at d0 d1 d2
    exact bodyPost_ret (v := .tuple #[.agg #[.int .i64 0, .int .i64 0, .slice none 0 0], .int .i64 0, .int .i64 2]) (by simp [results, Tryd.results82, go_sem, d0, d1, d2]) rfl (RdQ.bad hq.out (by decide) gF)
  by_cases hs : (n : Int) < N
  · have hq := Lib.hid (hshort.out (by omega) (by omega) hs)

    go_enter Tryd.func82, Tryd.ntmps82
    go_wp2_with fail
    obtain ⟨W, hW⟩ : ∃ W, W = w.alloc (.cells #[.int .i64 0, .int .i64 0, .slice none 0 0] 24) := ⟨_, rfl⟩
    rw [← hW] at a0 G0 hr0 k0' k1' hz ⊢
    clear hW
    refine (value2 b off c x0 x1 W k0' k1' ⟨b00, b01⟩ ⟨b10, b11⟩).mono ?_
    rintro e W1 ⟨rfl, rfl⟩
    have f0 := a0.free 0
    have f1 := a0.free 1
    have f2 := a0.free 2
    have i0 := a0.cell 0
    have i1 := a0.cell 1
    have i2 := a0.cell 2
    simp only [List.getElem?_toArray, List.getElem?_cons_zero, List.getElem?_cons_succ] at i0 i1 i2
    rw [eN]
    go_wp2
    obtain ⟨aF, gF⟩ := fin W (.int .i64 0) (.int .i64 0) (.slice none 0 0) G0 a0
    generalize (((W.setCell ⟨w.heap.size, 0, none⟩ (.int .i64 0)).setCell ⟨w.heap.size, 1, none⟩ (.int .i64 0)).setCell ⟨w.heap.size, 2, none⟩ (.slice none 0 0)) = V at *
    have d0 : V.cell? ⟨w.heap.size, 0, none⟩ = _ := aF.cell 0
    have d1 : V.cell? ⟨w.heap.size, 1, none⟩ = _ := aF.cell 1
    have d2 : V.cell? ⟨w.heap.size, 2, none⟩ = _ := aF.cell 2
    simp only [List.getElem?_toArray, List.getElem?_cons_zero, List.getElem?_cons_succ] at d0 d1 d2
    exact bodyPost_ret (v := .tuple #[.agg #[.int .i64 0, .int .i64 0, .slice none 0 0], .int .i64 0, .int .i64 3]) (by simp [results, Tryd.results82, go_sem, d0, d1, d2]) rfl (RdQ.bad hq.out (by decide) gF)
  have hq := Lib.hid (hok.out (by omega) (by omega) (by omega))
  obtain ⟨y2, y3, y4, y5, y6⟩ := hkk.out (by omega)
  obtain ⟨Q, rfl⟩ : ∃ Q : Nat, N = Q := ⟨N.toNat, by omega⟩
  have n7 : 7 ≤ Q := by omega
  have nn : Q ≤ n := by omega
  have n8 : Q ≤ c := by omega
  have n9 : (7 : Int) ≤ Q := by omega
  have m2 : 7 ≤ c := by omega
  have m3 : 2 < c := by omega
  have m4 : 3 < c := by omega
  obtain ⟨I, hI⟩ : ∃ I, I = x3 * 16777216 + x4 * 65536 + x5 * 256 + x6 := ⟨_, rfl⟩
  have eI : x3 * 16777216 + x4 * 65536 + x5 * 256 + x6 = I := hI.symm
  replace hI := Lib.hid hI
  obtain ⟨o2, ho2⟩ : ∃ o, off + 2 = o := ⟨_, rfl⟩
  obtain ⟨o3, ho3⟩ : ∃ o, off + 3 = o := ⟨_, rfl⟩
  replace y4 : w.cell? ⟨b, off + 3 + 1, none⟩ = _ := y4
  replace y5 : w.cell? ⟨b, off + 3 + 2, none⟩ = _ := y5
  replace y6 : w.cell? ⟨b, off + 3 + 3, none⟩ = _ := y6
  rw [ho2] at y2
  rw [ho3] at y3 y4 y5 y6
  have hl0 : ((L.take Q).drop 7).length = Q - 7 := by rw [List.length_drop, List.length_take, ← hn.out]; omega
  have hrow : RwB w (if c = 7 then some ⟨b, off, none⟩ else some ⟨b, off + 7, none⟩) ((L.take Q).drop 7) := by
    by_cases h77 : c = 7
    · exact .inl (List.eq_nil_of_length_eq_zero (by rw [hl0]; omega))
    · rw [if_neg h77]; exact .inr ⟨b, off + 7, rfl, (hr.take Q).drop 7⟩
  refine (freadG b off o2 o3 n Q c x0 x1 x2 x3 x4 x5 x6 I w ((L.take Q).drop 7) ho2 ho3 k0 k1 y2 y3 y4 y5 y6 ⟨b00, b01⟩ ⟨b10, b11⟩ ⟨b20, b21⟩ ⟨b30, b31⟩ ⟨b40, b41⟩ ⟨b50, b51⟩ ⟨b60, b61⟩ eN eI n7 (by omega) nn hc hl0 hrow).mono ?_
  rintro e w' ⟨v, rfl, sv, fr, g⟩
  obtain ⟨r1, r2⟩ := hgood.out hq.out
  exact ⟨v, by rw [r1, r2, hq.out, ← hI.out]; simp, by rw [r1]; simpa using sv, by rw [r1]; simpa using fr, g⟩

end Go.Proofs.YthkbenhlhldglaaDoor
