/-
  What is proved: what Read of package frame hands back of bytes that begin with a message. No conditions but bounds.
-/
import Derived.Test.YthkbenhlhldglaaDoorMb
import Derived.Deep.RegionHeld3
import Derived.Deep.RegionLaw
namespace Go.Proofs.YthkbenhlhldglaaDoor
open Go.RowKit Go.Sort

theorem At.put3' {w : World} {b : Nat} {z0 z1 z2 : Value} {t : TypeId} (h : At w b #[z0, z1, z2] t) (u0 u1 u2 : Value) :
    At (((w.setCell ⟨b, 0, none⟩ u0).setCell ⟨b, 1, none⟩ u1).setCell ⟨b, 2, none⟩ u2) b #[u0, u1, u2] t := by
  have h1 := Go.Joins.block_setCell (i := 0) h u0
  have h2 := Go.Joins.block_setCell (i := 1) h1 u1
  have h3 := Go.Joins.block_setCell (i := 2) h2 u2
  unfold At
  simpa using h3

set_option maxRecDepth 100000 in
set_option maxHeartbeats 1000000 in
theorem freadG (b off o2 o3 n Q c : Nat) (x0 x1 x2 x3 x4 x5 x6 I : Int) (w : World) (M : List Int) (ho2 : off + 2 = o2) (ho3 : off + 3 = o3)
    (k0 : w.cell? ⟨b, off, none⟩ = some (.int .u8 x0)) (k1 : w.cell? ⟨b, off + 1, none⟩ = some (.int .u8 x1)) (y2 : w.cell? ⟨b, o2, none⟩ = some (.int .u8 x2)) (y3 : w.cell? ⟨b, o3, none⟩ = some (.int .u8 x3))
    (y4 : w.cell? ⟨b, o3 + 1, none⟩ = some (.int .u8 x4)) (y5 : w.cell? ⟨b, o3 + 2, none⟩ = some (.int .u8 x5)) (y6 : w.cell? ⟨b, o3 + 3, none⟩ = some (.int .u8 x6))
    (b0 : 0 ≤ x0 ∧ x0 ≤ 255) (b1 : 0 ≤ x1 ∧ x1 ≤ 255) (b2 : 0 ≤ x2 ∧ x2 ≤ 255) (b3 : 0 ≤ x3 ∧ x3 ≤ 255) (b4 : 0 ≤ x4 ∧ x4 ≤ 255) (b5 : 0 ≤ x5 ∧ x5 ≤ 255) (b6 : 0 ≤ x6 ∧ x6 ≤ 255)
    (eN : x0 * 256 + x1 = (Q : Int)) (eI : x3 * 16777216 + x4 * 65536 + x5 * 256 + x6 = I) (n7 : 7 ≤ Q) (q4 : Q ≤ 4103) (nn : Q ≤ n) (hc : n ≤ c) (hM : M.length = Q - 7) (hrow : RwB w (if c = 7 then some ⟨b, off, none⟩ else some ⟨b, off + 7, none⟩) M) :
    Calls Tryd.prog 82 #[.slice (some ⟨b, off, none⟩) n c] w fun e w' => ∃ v, e = .returned (.tuple #[.agg #[.int .i64 x2, .int .i64 I, v], .int .i64 (Q : Int), .int .i64 0]) ∧ Sv w' v M ∧ (M = [] ∨ ∃ k, v.ownBlock = some k ∧ w.heap.size ≤ k) ∧ Bl w w' := by
  have n8 : Q ≤ c := by omega
  have n9 : (7 : Int) ≤ Q := by omega
  have m6 : (Q : Int) ≤ n := by omega
  have r1 : ¬ ((n : Int) < 2) := by omega
  have r2 : decide ((Q : Int) < 7) = false := by simp; omega
  have r3 : decide ((4103 : Int) < Q) = false := by simp; omega
  have r4 : decide ((n : Int) < Q) = false := by simp; omega
  have r5 : 2 ≤ n := by omega
  have a0 := At.new w #[.int .i64 0, .int .i64 0, .slice none 0 0] 24
  have G0 : Bl w (w.alloc (.cells #[.int .i64 0, .int .i64 0, .slice none 0 0] 24)) := (Bl.refl w).alloc _
  have k0' := G0.keep k0
  have k1' := G0.keep k1
  obtain ⟨m, hm⟩ : ∃ m, m = w.heap.size := ⟨_, rfl⟩
  have hz : (w.alloc (.cells #[.int .i64 0, .int .i64 0, .slice none 0 0] 24)).heap.size = m + 1 := by simp [hm]
  rw [← hm] at a0 ⊢
  obtain ⟨W, hW⟩ : ∃ W, W = w.alloc (.cells #[.int .i64 0, .int .i64 0, .slice none 0 0] 24) := ⟨_, rfl⟩
  rw [← hW] at a0 G0 k0' k1' hz
  have hb : b < m := by rw [hm]; exact World.block_lt_of_cell? w _ k0
  have V1 : ∀ V, Gr W V → _ := fun V g => valueF1 b o2 (c - 2) x2 V (g.bl.keep (G0.keep y2)) b2
  have V4 : ∀ V, Gr W V → _ := fun V g => value4 b o3 (c - 3) x3 x4 x5 x6 V (g.bl.keep (G0.keep y3)) (g.bl.keep (G0.keep y4)) (g.bl.keep (G0.keep y5)) (g.bl.keep (G0.keep y6)) b3 b4 b5 b6
  rw [eI] at V4
  have hrowW := hrow.bl G0
  have c2 := value2 b off c x0 x1 W k0' k1' b0 b1
  rw [eN] at c2
  replace hm := Lib.hid hm
  replace hz := Lib.hid hz
  replace V1 := Lib.hid V1
  replace V4 := Lib.hid V4
  replace hM := Lib.hid hM
  clear k0 k1 y2 y3 y4 y5 y6 b0 b1 b2 b3 b4 b5 b6 eN eI k0' k1'
  go_enter Tryd.func82, Tryd.ntmps82
  go_wp2_with fail
  rw [← hW, ← hm.out]
  clear hW
  refine c2.mono ?_
  rintro e W1 ⟨rfl, rfl⟩
  clear c2
  go_wp2
  rename_i K hK
  have X := (At.new W #[.int .i64 x2, .int .i64 I, .slice none 0 0] 24).drew
  have a1 := (a0.alloc (.cells #[.int .i64 x2, .int .i64 I, .slice none 0 0] 24)).drew
  have GV : Bl W (W.alloc (.cells #[.int .i64 x2, .int .i64 I, .slice none 0 0] 24)).drew := ((Bl.refl W).alloc _).drew
  have hp : w.heap.size ≤ W.heap.size := G0.size
  have hpm : m < W.heap.size := a0.lt
  obtain ⟨p, hpp⟩ : ∃ p, p = W.heap.size := ⟨_, rfl⟩
  have rest : ∀ V, V = (W.alloc (.cells #[.int .i64 x2, .int .i64 I, .slice none 0 0] 24)).drew →
      K { tmps := #[.slice (some ⟨b, off, none⟩) n c, undef, .pointer (some ⟨m, 0, none⟩), .int .i64 0, .int .i64 0, .int .i64 (Q : Int), .pointer (some ⟨W.heap.size, 0, none⟩), .slice (some ⟨b, off, none⟩) n c,
        .int .i64 (n : Int), .bool false, undef, .slice (some ⟨b, off, none⟩) n c, .slice (some ⟨b, off, none⟩) 2 c, .int .i64 (Q : Int), .int .i64 (Q : Int), .bool false, .bool false, .int .i64 (Q : Int), .bool false, .bool false, undef,
        .slice (some ⟨b, off, none⟩) n c, .int .i64 (n : Int), .int .i64 (Q : Int), .bool false, undef, .slice (some ⟨b, off, none⟩) n c, .slice (some ⟨b, o2, none⟩) 1 (c - 2), .int .i64 x2,
        .slice (some ⟨b, off, none⟩) n c, .slice (some ⟨b, o3, none⟩) 4 (c - 3), .int .i64 I, .agg #[.int .i64 x2, .int .i64 I, .slice none 0 0],
        undef, undef, undef, undef, undef, undef, undef, undef, undef], defers := [] } V := by
    rintro V hV
    refine hK _ _ ?_
    rw [← hV, ← hpp] at X
    rw [← hV] at a1 GV
    rw [← hpp]
    clear hV hK V1 V4 a0
    rw [← hpp] at hp hpm
    clear hpp
    have hr1 := hrowW.bl GV
    have gV := G0.trans GV
    have zp : w.heap.size ≤ V.heap.size := gV.size
    have t0 := X.cell 2
    simp only [List.getElem?_toArray, List.getElem?_cons_zero, List.getElem?_cons_succ] at t0
    go_wp2
    go_region_law (refine step_app_b (by rfl) (.tmp 34) (.tmp 37) (by rfl) none 0 [] (by rfl) w.heap.size (OwB.nil _ _) (if c = 7 then some ⟨b, off, none⟩ else some ⟨b, off + 7, none⟩) M (c - 7) (by rw [hM.out]; rfl) (by split <;> simp) (hr1.bl ((Bl.refl _).drew)) (by simp; have := hM.out; omega) (by simp; omega) ?_; intro A' c' w' own by1 _; have e1 : ([] : List Int).length + M.length = M.length := (by simp); rw [e1]; have X2 := At.grown (row := none) (X.drew) by1 (by simp); have m2 := At.grown (row := none) (a1.drew) by1 (by simp); have G2 := Bl.grown gV.drew by1 (by intro k hk; cases hk); have t2 := X2.cell 2; have f2 := X2.free 2; simp only [List.getElem?_toArray, List.getElem?_cons_zero, List.getElem?_cons_succ] at t2)
    rw [List.nil_append] at own
    have sv := own.sv
    have fr := own.lies
    have X3 : At (w'.setCell ⟨p, 2, none⟩ (.slice A' M.length c')) p #[.int .i64 x2, .int .i64 I, .slice A' M.length c'] 24 := by simpa using X2.put 2 (.slice A' M.length c')
    have m3 := m2.far (p := ⟨p, 2, none⟩) (by simp; omega) (.slice A' M.length c')
    have G3 := G2.setCell (p := ⟨p, 2, none⟩) hp (.slice A' M.length c')
    have hg : ∀ k, (Value.slice A' M.length c').ownBlock = some k → w.heap.size ≤ k ∧ (k = p ∨ k = m → M = []) := by
      intro k hk
      rw [slice_block] at hk
      rcases fr with rfl | ⟨g', rfl, q1, q2⟩
      · cases hk
      · cases hk
        refine ⟨q1, fun hkp => ?_⟩
        rcases own_addr own with ⟨h1, _⟩ | ⟨g2, h1, _⟩
        · cases h1
        · rcases own.rwb with h | ⟨b2, o2', hb2, hr2⟩
          · exact h
          · cases hb2
            cases hM2 : M with
            | nil => rfl
            | cons z zs =>
              have := hr2 0 z (by rw [hM2]; rfl)
              rcases hkp with rfl | rfl
              · exact absurd this (by rw [X2.cell]; simp)
              · exact absurd this (by rw [m2.cell]; simp)
    have sv3 : Sv (w'.setCell ⟨p, 2, none⟩ (.slice A' M.length c')) (.slice A' M.length c') M := by
      refine sv.by (row := some p) (By.set (p := ⟨p, 2, none⟩) (By.refl _ _) _) ?_
      cases ho : (Value.slice A' M.length c').ownBlock with
      | none => exact .inr (.inl ho)
      | some k =>
        by_cases hkp : k = p
        · exact .inl ((hg k ho).2 (.inl hkp))
        · exact .inr (.inr (by rw [ho]; simp [hkp]))
    clear X2 m2 G2 t2 f2 t0 X a1 GV gV own sv by1 hrowW hr1 fr
    generalize w'.setCell ⟨p, 2, none⟩ (.slice A' M.length c') = U at *
    generalize (if c = 7 then some (⟨b, off, none⟩ : Addr) else some ⟨b, off + 7, none⟩) = Az at *
    have t0 := X3.cell 0
    have t1 := X3.cell 1
    have t2 := X3.cell 2
    have u0 := m3.cell 0
    have u1 := m3.cell 1
    have u2 := m3.cell 2
    have v0 := m3.free 0
    have v1 := m3.free 1
    have v2 := m3.free 2
    simp only [List.getElem?_toArray, List.getElem?_cons_zero, List.getElem?_cons_succ] at t0 t1 t2 u0 u1 u2
    go_wp2
    have m4 := m3.put3' (.int .i64 x2) (.int .i64 I) (.slice A' M.length c')
    have hmw : w.heap.size ≤ m := by rw [hm.out]; exact Nat.le_refl _
    have G4 := ((G3.setCell (p := ⟨m, 0, none⟩) hmw (.int .i64 x2)).setCell (p := ⟨m, 1, none⟩) hmw (.int .i64 I)).setCell (p := ⟨m, 2, none⟩) hmw (.slice A' M.length c')
    have sv4 : Sv (((U.setCell ⟨m, 0, none⟩ (.int .i64 x2)).setCell ⟨m, 1, none⟩ (.int .i64 I)).setCell ⟨m, 2, none⟩ (.slice A' M.length c')) (.slice A' M.length c') M := by
      refine sv3.by (row := some m) (By.set (p := ⟨m, 2, none⟩) (By.set (p := ⟨m, 1, none⟩) (By.set (p := ⟨m, 0, none⟩) (By.refl _ _) _) _) _) ?_
      cases ho : (Value.slice A' M.length c').ownBlock with
      | none => exact .inr (.inl ho)
      | some k =>
        by_cases hkp : k = m
        · exact .inl ((hg k ho).2 (.inr hkp))
        · exact .inr (.inr (by rw [ho]; simp [hkp]))
    generalize ((U.setCell ⟨m, 0, none⟩ (.int .i64 x2)).setCell ⟨m, 1, none⟩ (.int .i64 I)).setCell ⟨m, 2, none⟩ (.slice A' M.length c') = F at *
    have d0 := m4.cell 0
    have d1 := m4.cell 1
    have d2 := m4.cell 2
    simp only [List.getElem?_toArray, List.getElem?_cons_zero, List.getElem?_cons_succ] at d0 d1 d2
    refine bodyPost_ret (v := .tuple #[.agg #[.int .i64 x2, .int .i64 I, .slice A' M.length c'], .int .i64 (Q : Int), .int .i64 0]) (by simp [results, Tryd.results82, go_sem, d0, d1, d2]) rfl ?_
    refine ⟨_, rfl, sv4, ?_, G4⟩
    cases ho : (Value.slice A' M.length c').ownBlock with
    | none =>
      left
      obtain ⟨A2, c2, e2, q1, q2, q3, q4'⟩ := sv4
      injection e2 with e3 e4 e5
      subst e3
      rcases q4' with h | ⟨b2, off2, h, _⟩
      · exact h
      · rw [slice_block, h] at ho; cases ho
    | some k => exact .inr ⟨k, rfl, by rw [hm.out]; exact (hg k ho).1⟩
  have c2' : ¬ c = 2 := by omega
  have c3' : ¬ c = 3 := by omega
  have c7' : (7 : Int) ≤ (c : Nat) := by omega
  have c5' : (3 : Int) ≤ (c : Nat) := by omega
  go_region_held3 (fun V => Gr W V) (repeat (first | with_reducible assumption | with_reducible exact Gr.refl _ | with_reducible apply Gr.drew | with_reducible apply Gr.alloc)) ((first | (go_at_call_of 108 o2; (refine (V1.out _ (by assumption)).mono ?_); rintro e V9 ⟨rfl, rfl⟩) | (go_at_call_of 108 o3; (refine (V4.out _ (by assumption)).mono ?_); rintro e V9 ⟨rfl, rfl⟩)))
  all_goals exact rest _ rfl

end Go.Proofs.YthkbenhlhldglaaDoor
