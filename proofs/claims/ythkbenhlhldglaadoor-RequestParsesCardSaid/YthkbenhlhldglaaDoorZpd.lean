/-
  What is proved: what Good of the document makes, Op by Op. No conditions but bounds.
-/
import Derived.Test.YthkbenhlhldglaaDoorZo
import Derived.Test.YthkbenhlhldglaaDoorMa
import Derived.Deep.RegionHeld3
namespace Go.Proofs.YthkbenhlhldglaaDoor
open Go.RowKit Go.Sort

set_option maxRecDepth 100000 in
set_option maxHeartbeats 2000000 in
theorem rgood_10 (op id a b x0 y0 x1 y1 : Int) (s : ByteArray) (A : Option Addr) (n c : Nat) (w : World) (I : Int) (hI : 0 ≤ I ∧ I < 9) (A1 : Int) (hA1 : 0 ≤ A1 ∧ A1 < 3)
    (c1 : ∀ V, Calls Tryd.prog 15 #[.int .i64 a, .int .i64 3] V fun e w' => e = .returned (.int .i64 A1) ∧ V = w')
    (ca : ∀ V, Calls Tryd.prog 15 #[.int .i64 op, .int .i64 19] V fun e w' => e = .returned (.int .i64 10) ∧ V = w')
    (ci : ∀ V, Calls Tryd.prog 15 #[.int .i64 id, .int .i64 9] V fun e w' => e = .returned (.int .i64 I) ∧ V = w') :
    Calls Tryd.prog 14 #[.agg #[.int .i64 op, .int .i64 id, .int .i64 a, .int .i64 b, .int .i64 x0, .int .i64 y0, .int .i64 x1, .int .i64 y1, .string s, .slice A n c]] w (fun e w' => e = .returned (.agg #[.int .i64 10, .int .i64 (1 + I), .int .i64 (1 + A1), .int .i64 0, .int .i64 0, .int .i64 0, .int .i64 0, .int .i64 0, .string ⟨#[]⟩, .slice none 0 0]) ∧ Bl w w') := by
  have w1 : IntKind.i64.wrap (1 + A1) = 1 + A1 := IntWalk.i64_in _ (by omega)
  replace hA1 := Lib.hid hA1
  have hw1 : IntKind.i64.wrap (1 + I) = 1 + I := IntWalk.i64_in _ (by omega)
  have X0 := (At.new w #[.int .i64 op, .int .i64 id, .int .i64 a, .int .i64 b, .int .i64 x0, .int .i64 y0, .int .i64 x1, .int .i64 y1, .string s, .slice A n c] 28).alloc (.cells #[.int .i64 0, .int .i64 0, .int .i64 0, .int .i64 0, .int .i64 0, .int .i64 0, .int .i64 0, .int .i64 0, .string ⟨#[]⟩, .slice none 0 0] 28)
  have X1 := At.newAt (w := w.alloc (.cells #[.int .i64 op, .int .i64 id, .int .i64 a, .int .i64 b, .int .i64 x0, .int .i64 y0, .int .i64 x1, .int .i64 y1, .string s, .slice A n c] 28)) (n := w.heap.size + 1) (by simp) #[.int .i64 0, .int .i64 0, .int .i64 0, .int .i64 0, .int .i64 0, .int .i64 0, .int .i64 0, .int .i64 0, .string ⟨#[]⟩, .slice none 0 0] 28
  have G0 : Bl w ((w.alloc (.cells #[.int .i64 op, .int .i64 id, .int .i64 a, .int .i64 b, .int .i64 x0, .int .i64 y0, .int .i64 x1, .int .i64 y1, .string s, .slice A n c] 28)).alloc (.cells #[.int .i64 0, .int .i64 0, .int .i64 0, .int .i64 0, .int .i64 0, .int .i64 0, .int .i64 0, .int .i64 0, .string ⟨#[]⟩, .slice none 0 0] 28)) := ((Bl.refl w).alloc _).alloc _
  go_enter Tryd.func14, Tryd.ntmps14
  go_wp2
  rename_i K hK
  generalize hw0 : ((w.alloc (.cells #[.int .i64 op, .int .i64 id, .int .i64 a, .int .i64 b, .int .i64 x0, .int .i64 y0, .int .i64 x1, .int .i64 y1, .string s, .slice A n c] 28)).alloc (.cells #[.int .i64 0, .int .i64 0, .int .i64 0, .int .i64 0, .int .i64 0, .int .i64 0, .int .i64 0, .int .i64 0, .string ⟨#[]⟩, .slice none 0 0] 28)) = w0 at *
  have L0 := X0.lt
  have L1 := X1.lt
  have hsz0 := G0.size
  have rest : ∀ W, At W w.heap.size #[.int .i64 op, .int .i64 id, .int .i64 a, .int .i64 b, .int .i64 x0, .int .i64 y0, .int .i64 x1, .int .i64 y1, .string s, .slice A n c] 28 → At W w0.heap.size #[.int .i64 10, .int .i64 (1 + I), .int .i64 0, .int .i64 0, .int .i64 0, .int .i64 0, .int .i64 0, .int .i64 0, .string ⟨#[]⟩, .slice none 0 0] 28 → At W (w.heap.size + 1) #[.int .i64 0, .int .i64 0, .int .i64 0, .int .i64 0, .int .i64 0, .int .i64 0, .int .i64 0, .int .i64 0, .string ⟨#[]⟩, .slice none 0 0] 28 → Bl w W → K { tmps := #[.agg #[.int .i64 op, .int .i64 id, .int .i64 a, .int .i64 b, .int .i64 x0, .int .i64 y0, .int .i64 x1, .int .i64 y1, .string s, .slice A n c], .pointer (some ⟨w.heap.size, 0, none⟩), .pointer (some ⟨w.heap.size + 1, 0, none⟩), .pointer (some ⟨w0.heap.size, 0, none⟩), undef, undef, .pointer (some ⟨w.heap.size, 0, none⟩), .int .i64 op, .int .i64 10, .pointer (some ⟨w.heap.size, 1, none⟩), .int .i64 id, .int .i64 I, .int .i64 (1 + I), .agg #[.int .i64 10, .int .i64 (1 + I), .int .i64 0, .int .i64 0, .int .i64 0, .int .i64 0, .int .i64 0, .int .i64 0, .string ⟨#[]⟩, .slice none 0 0], undef, undef, undef, undef, undef, undef, undef, undef, undef, undef, undef, undef, undef, undef, undef, undef, undef, undef, undef, undef, undef, undef, undef, undef, undef, undef, undef, undef, undef, undef, undef, undef, undef, undef, undef, undef, undef, undef, undef, undef, undef, undef, undef, undef, undef, undef, undef, undef, undef, undef, undef, undef, undef, undef, undef, undef, undef, undef, undef, undef, undef, undef, undef, undef, undef, undef, undef, undef, undef, undef, undef, undef, undef, undef, undef, undef, undef, undef, undef, undef, undef, undef, undef, undef, undef, undef, undef, undef, undef, undef, undef, undef, undef, undef, undef, undef, undef, undef, undef, undef, undef], defers := [] } W := by
    intro W X O R G
    clear ca ci X0 X1 G0 hw0
    refine hK _ _ ?_
    have o00 : (W).cell? ⟨w0.heap.size, 0, none⟩ = some (.int .i64 10) := (O.cell 0).trans rfl
    have x0_2 : (W).cell? ⟨w.heap.size, 2, none⟩ = some (.int .i64 a) := (X.cell 2).trans rfl
    go_wp2_with fail
    refine (c1 _).mono ?_
    rintro e V0 ⟨rfl, rfl⟩
    have s1 : (W).cell? ⟨w0.heap.size, 2, none⟩ = some (.int .i64 0) := (O.cell 2).trans rfl
    have s1f : (W).frozen? ⟨w0.heap.size, 2, none⟩ = false := O.free 2
    have OO1 := O.put 2 (.int .i64 (1 + A1))
    have O1q : At (W.setCell ⟨w0.heap.size, 2, none⟩ (.int .i64 (1 + A1))) w0.heap.size #[.int .i64 10, .int .i64 (1 + I), .int .i64 (1 + A1), .int .i64 0, .int .i64 0, .int .i64 0, .int .i64 0, .int .i64 0, .string ⟨#[]⟩, .slice none 0 0] 28 := by simpa using OO1
    have X1q : At (W.setCell ⟨w0.heap.size, 2, none⟩ (.int .i64 (1 + A1))) w.heap.size #[.int .i64 op, .int .i64 id, .int .i64 a, .int .i64 b, .int .i64 x0, .int .i64 y0, .int .i64 x1, .int .i64 y1, .string s, .slice A n c] 28 := X.far (by simp; omega) (.int .i64 (1 + A1))
    have R1q : At (W.setCell ⟨w0.heap.size, 2, none⟩ (.int .i64 (1 + A1))) (w.heap.size + 1) #[.int .i64 0, .int .i64 0, .int .i64 0, .int .i64 0, .int .i64 0, .int .i64 0, .int .i64 0, .int .i64 0, .string ⟨#[]⟩, .slice none 0 0] 28 := R.far (by simp; omega) (.int .i64 (1 + A1))
    have G1q : Bl w (W.setCell ⟨w0.heap.size, 2, none⟩ (.int .i64 (1 + A1))) := G.setCell (p := ⟨w0.heap.size, 2, none⟩) (by simp; omega) (.int .i64 (1 + A1))
    clear OO1
    have e0 : ((W.setCell ⟨w0.heap.size, 2, none⟩ (.int .i64 (1 + A1)))).cell? ⟨w0.heap.size, 0, none⟩ = some (.int .i64 10) := (O1q.cell 0).trans rfl
    have r0 : ((W.setCell ⟨w0.heap.size, 2, none⟩ (.int .i64 (1 + A1)))).cell? ⟨w.heap.size + 1, 0, none⟩ = some (.int .i64 0) := (R1q.cell 0).trans rfl
    have r0f : ((W.setCell ⟨w0.heap.size, 2, none⟩ (.int .i64 (1 + A1)))).frozen? ⟨w.heap.size + 1, 0, none⟩ = false := R1q.free 0
    have e1 : ((W.setCell ⟨w0.heap.size, 2, none⟩ (.int .i64 (1 + A1)))).cell? ⟨w0.heap.size, 1, none⟩ = some (.int .i64 (1 + I)) := (O1q.cell 1).trans rfl
    have r1 : ((W.setCell ⟨w0.heap.size, 2, none⟩ (.int .i64 (1 + A1)))).cell? ⟨w.heap.size + 1, 1, none⟩ = some (.int .i64 0) := (R1q.cell 1).trans rfl
    have r1f : ((W.setCell ⟨w0.heap.size, 2, none⟩ (.int .i64 (1 + A1)))).frozen? ⟨w.heap.size + 1, 1, none⟩ = false := R1q.free 1
    have e2 : ((W.setCell ⟨w0.heap.size, 2, none⟩ (.int .i64 (1 + A1)))).cell? ⟨w0.heap.size, 2, none⟩ = some (.int .i64 (1 + A1)) := (O1q.cell 2).trans rfl
    have r2 : ((W.setCell ⟨w0.heap.size, 2, none⟩ (.int .i64 (1 + A1)))).cell? ⟨w.heap.size + 1, 2, none⟩ = some (.int .i64 0) := (R1q.cell 2).trans rfl
    have r2f : ((W.setCell ⟨w0.heap.size, 2, none⟩ (.int .i64 (1 + A1)))).frozen? ⟨w.heap.size + 1, 2, none⟩ = false := R1q.free 2
    have e3 : ((W.setCell ⟨w0.heap.size, 2, none⟩ (.int .i64 (1 + A1)))).cell? ⟨w0.heap.size, 3, none⟩ = some (.int .i64 0) := (O1q.cell 3).trans rfl
    have r3 : ((W.setCell ⟨w0.heap.size, 2, none⟩ (.int .i64 (1 + A1)))).cell? ⟨w.heap.size + 1, 3, none⟩ = some (.int .i64 0) := (R1q.cell 3).trans rfl
    have r3f : ((W.setCell ⟨w0.heap.size, 2, none⟩ (.int .i64 (1 + A1)))).frozen? ⟨w.heap.size + 1, 3, none⟩ = false := R1q.free 3
    have e4 : ((W.setCell ⟨w0.heap.size, 2, none⟩ (.int .i64 (1 + A1)))).cell? ⟨w0.heap.size, 4, none⟩ = some (.int .i64 0) := (O1q.cell 4).trans rfl
    have r4 : ((W.setCell ⟨w0.heap.size, 2, none⟩ (.int .i64 (1 + A1)))).cell? ⟨w.heap.size + 1, 4, none⟩ = some (.int .i64 0) := (R1q.cell 4).trans rfl
    have r4f : ((W.setCell ⟨w0.heap.size, 2, none⟩ (.int .i64 (1 + A1)))).frozen? ⟨w.heap.size + 1, 4, none⟩ = false := R1q.free 4
    have e5 : ((W.setCell ⟨w0.heap.size, 2, none⟩ (.int .i64 (1 + A1)))).cell? ⟨w0.heap.size, 5, none⟩ = some (.int .i64 0) := (O1q.cell 5).trans rfl
    have r5 : ((W.setCell ⟨w0.heap.size, 2, none⟩ (.int .i64 (1 + A1)))).cell? ⟨w.heap.size + 1, 5, none⟩ = some (.int .i64 0) := (R1q.cell 5).trans rfl
    have r5f : ((W.setCell ⟨w0.heap.size, 2, none⟩ (.int .i64 (1 + A1)))).frozen? ⟨w.heap.size + 1, 5, none⟩ = false := R1q.free 5
    have e6 : ((W.setCell ⟨w0.heap.size, 2, none⟩ (.int .i64 (1 + A1)))).cell? ⟨w0.heap.size, 6, none⟩ = some (.int .i64 0) := (O1q.cell 6).trans rfl
    have r6 : ((W.setCell ⟨w0.heap.size, 2, none⟩ (.int .i64 (1 + A1)))).cell? ⟨w.heap.size + 1, 6, none⟩ = some (.int .i64 0) := (R1q.cell 6).trans rfl
    have r6f : ((W.setCell ⟨w0.heap.size, 2, none⟩ (.int .i64 (1 + A1)))).frozen? ⟨w.heap.size + 1, 6, none⟩ = false := R1q.free 6
    have e7 : ((W.setCell ⟨w0.heap.size, 2, none⟩ (.int .i64 (1 + A1)))).cell? ⟨w0.heap.size, 7, none⟩ = some (.int .i64 0) := (O1q.cell 7).trans rfl
    have r7 : ((W.setCell ⟨w0.heap.size, 2, none⟩ (.int .i64 (1 + A1)))).cell? ⟨w.heap.size + 1, 7, none⟩ = some (.int .i64 0) := (R1q.cell 7).trans rfl
    have r7f : ((W.setCell ⟨w0.heap.size, 2, none⟩ (.int .i64 (1 + A1)))).frozen? ⟨w.heap.size + 1, 7, none⟩ = false := R1q.free 7
    have e8 : ((W.setCell ⟨w0.heap.size, 2, none⟩ (.int .i64 (1 + A1)))).cell? ⟨w0.heap.size, 8, none⟩ = some (.string ⟨#[]⟩) := (O1q.cell 8).trans rfl
    have r8 : ((W.setCell ⟨w0.heap.size, 2, none⟩ (.int .i64 (1 + A1)))).cell? ⟨w.heap.size + 1, 8, none⟩ = some (.string ⟨#[]⟩) := (R1q.cell 8).trans rfl
    have r8f : ((W.setCell ⟨w0.heap.size, 2, none⟩ (.int .i64 (1 + A1)))).frozen? ⟨w.heap.size + 1, 8, none⟩ = false := R1q.free 8
    have e9 : ((W.setCell ⟨w0.heap.size, 2, none⟩ (.int .i64 (1 + A1)))).cell? ⟨w0.heap.size, 9, none⟩ = some (.slice none 0 0) := (O1q.cell 9).trans rfl
    have r9 : ((W.setCell ⟨w0.heap.size, 2, none⟩ (.int .i64 (1 + A1)))).cell? ⟨w.heap.size + 1, 9, none⟩ = some (.slice none 0 0) := (R1q.cell 9).trans rfl
    have r9f : ((W.setCell ⟨w0.heap.size, 2, none⟩ (.int .i64 (1 + A1)))).frozen? ⟨w.heap.size + 1, 9, none⟩ = false := R1q.free 9
    go_wp2
    have Y := put10_at R1q (.int .i64 10) (.int .i64 (1 + I)) (.int .i64 (1 + A1)) (.int .i64 0) (.int .i64 0) (.int .i64 0) (.int .i64 0) (.int .i64 0) (.string ⟨#[]⟩) (.slice none 0 0)
    have GY := put10_bl (b := w.heap.size + 1) G1q (by omega) (.int .i64 10) (.int .i64 (1 + I)) (.int .i64 (1 + A1)) (.int .i64 0) (.int .i64 0) (.int .i64 0) (.int .i64 0) (.int .i64 0) (.string ⟨#[]⟩) (.slice none 0 0)
    clear e0 r0 r0f e1 r1 r1f e2 r2 r2f e3 r3 r3f e4 r4 r4f e5 r5 r5f e6 r6 r6f e7 r7 r7f e8 r8 r8f e9 r9 r9f
    generalize (((((((((((W.setCell ⟨w0.heap.size, 2, none⟩ (.int .i64 (1 + A1))).setCell ⟨w.heap.size + 1, 0, none⟩ (.int .i64 10)).setCell ⟨w.heap.size + 1, 1, none⟩ (.int .i64 (1 + I))).setCell ⟨w.heap.size + 1, 2, none⟩ (.int .i64 (1 + A1))).setCell ⟨w.heap.size + 1, 3, none⟩ (.int .i64 0)).setCell ⟨w.heap.size + 1, 4, none⟩ (.int .i64 0)).setCell ⟨w.heap.size + 1, 5, none⟩ (.int .i64 0)).setCell ⟨w.heap.size + 1, 6, none⟩ (.int .i64 0)).setCell ⟨w.heap.size + 1, 7, none⟩ (.int .i64 0)).setCell ⟨w.heap.size + 1, 8, none⟩ (.string ⟨#[]⟩)).setCell ⟨w.heap.size + 1, 9, none⟩ (.slice none 0 0)) = VV at *
    have d0 : VV.cell? ⟨w.heap.size + 1, 0, none⟩ = some (.int .i64 10) := (Y.cell 0).trans rfl
    have d1 : VV.cell? ⟨w.heap.size + 1, 1, none⟩ = some (.int .i64 (1 + I)) := (Y.cell 1).trans rfl
    have d2 : VV.cell? ⟨w.heap.size + 1, 2, none⟩ = some (.int .i64 (1 + A1)) := (Y.cell 2).trans rfl
    have d3 : VV.cell? ⟨w.heap.size + 1, 3, none⟩ = some (.int .i64 0) := (Y.cell 3).trans rfl
    have d4 : VV.cell? ⟨w.heap.size + 1, 4, none⟩ = some (.int .i64 0) := (Y.cell 4).trans rfl
    have d5 : VV.cell? ⟨w.heap.size + 1, 5, none⟩ = some (.int .i64 0) := (Y.cell 5).trans rfl
    have d6 : VV.cell? ⟨w.heap.size + 1, 6, none⟩ = some (.int .i64 0) := (Y.cell 6).trans rfl
    have d7 : VV.cell? ⟨w.heap.size + 1, 7, none⟩ = some (.int .i64 0) := (Y.cell 7).trans rfl
    have d8 : VV.cell? ⟨w.heap.size + 1, 8, none⟩ = some (.string ⟨#[]⟩) := (Y.cell 8).trans rfl
    have d9 : VV.cell? ⟨w.heap.size + 1, 9, none⟩ = some (.slice none 0 0) := (Y.cell 9).trans rfl
    exact bodyPost_ret (v := .agg #[.int .i64 10, .int .i64 (1 + I), .int .i64 (1 + A1), .int .i64 0, .int .i64 0, .int .i64 0, .int .i64 0, .int .i64 0, .string ⟨#[]⟩, .slice none 0 0]) (by simp [results, Tryd.results14, go_sem, d0, d1, d2, d3, d4, d5, d6, d7, d8, d9]) rfl ⟨rfl, GY⟩
  have SK : ∀ V, Bl w0 V → V.cell? ⟨w.heap.size, 0, none⟩ = some (.int .i64 op) ∧ V.cell? ⟨w.heap.size, 1, none⟩ = some (.int .i64 id) ∧ Bl w0 V := fun V g => ⟨((X0.bl g).cell 0).trans rfl, ((X0.bl g).cell 1).trans rfl, g⟩
  replace SK := Lib.hid SK
  replace rest := Lib.hid rest
  go_region_held3 (fun V => V.cell? ⟨w.heap.size, 0, none⟩ = some (.int .i64 op) ∧ V.cell? ⟨w.heap.size, 1, none⟩ = some (.int .i64 id) ∧ Bl w0 V) ((refine SK.out _ ?_; repeat (first | with_reducible assumption | with_reducible exact Bl.refl _ | with_reducible exact (And.right (And.right (by assumption))) | with_reducible exact Bl.gr (And.right (And.right (by assumption))) (by assumption) | with_reducible apply Bl.drew | with_reducible apply Bl.alloc))) ((first | (go_at_call_of 15 (Value.int IntKind.i64 op); (refine (ca _).mono ?_); rintro e V1 ⟨rfl, rfl⟩) | (go_at_call_of 15 (Value.int IntKind.i64 id); (refine (ci _).mono ?_); rintro e V2 ⟨rfl, rfl⟩)))
  all_goals exact rest.out _ (X0.alloc _).drew (At.new w0 _ _).drew (X1.alloc _).drew (G0.alloc _).drew
set_option maxRecDepth 100000 in
set_option maxHeartbeats 2000000 in
theorem rgood_11 (op id a b x0 y0 x1 y1 : Int) (s : ByteArray) (A : Option Addr) (n c : Nat) (w : World) (I : Int) (hI : 0 ≤ I ∧ I < 9) (q : Rc)
    (c1 : ∀ V, Calls Tryd.prog 45 #[.agg #[.int .i64 x0, .int .i64 y0, .int .i64 x1, .int .i64 y1]] V (Rt V (.agg #[.int .i64 q.a, .int .i64 q.b, .int .i64 q.c, .int .i64 q.d])))
    (ca : ∀ V, Calls Tryd.prog 15 #[.int .i64 op, .int .i64 19] V fun e w' => e = .returned (.int .i64 11) ∧ V = w')
    (ci : ∀ V, Calls Tryd.prog 15 #[.int .i64 id, .int .i64 9] V fun e w' => e = .returned (.int .i64 I) ∧ V = w') :
    Calls Tryd.prog 14 #[.agg #[.int .i64 op, .int .i64 id, .int .i64 a, .int .i64 b, .int .i64 x0, .int .i64 y0, .int .i64 x1, .int .i64 y1, .string s, .slice A n c]] w (fun e w' => e = .returned (.agg #[.int .i64 11, .int .i64 (1 + I), .int .i64 0, .int .i64 0, .int .i64 q.a, .int .i64 q.b, .int .i64 q.c, .int .i64 q.d, .string ⟨#[]⟩, .slice none 0 0]) ∧ Bl w w') := by
  have hw1 : IntKind.i64.wrap (1 + I) = 1 + I := IntWalk.i64_in _ (by omega)
  have X0 := (At.new w #[.int .i64 op, .int .i64 id, .int .i64 a, .int .i64 b, .int .i64 x0, .int .i64 y0, .int .i64 x1, .int .i64 y1, .string s, .slice A n c] 28).alloc (.cells #[.int .i64 0, .int .i64 0, .int .i64 0, .int .i64 0, .int .i64 0, .int .i64 0, .int .i64 0, .int .i64 0, .string ⟨#[]⟩, .slice none 0 0] 28)
  have X1 := At.newAt (w := w.alloc (.cells #[.int .i64 op, .int .i64 id, .int .i64 a, .int .i64 b, .int .i64 x0, .int .i64 y0, .int .i64 x1, .int .i64 y1, .string s, .slice A n c] 28)) (n := w.heap.size + 1) (by simp) #[.int .i64 0, .int .i64 0, .int .i64 0, .int .i64 0, .int .i64 0, .int .i64 0, .int .i64 0, .int .i64 0, .string ⟨#[]⟩, .slice none 0 0] 28
  have G0 : Bl w ((w.alloc (.cells #[.int .i64 op, .int .i64 id, .int .i64 a, .int .i64 b, .int .i64 x0, .int .i64 y0, .int .i64 x1, .int .i64 y1, .string s, .slice A n c] 28)).alloc (.cells #[.int .i64 0, .int .i64 0, .int .i64 0, .int .i64 0, .int .i64 0, .int .i64 0, .int .i64 0, .int .i64 0, .string ⟨#[]⟩, .slice none 0 0] 28)) := ((Bl.refl w).alloc _).alloc _
  go_enter Tryd.func14, Tryd.ntmps14
  go_wp2
  rename_i K hK
  generalize hw0 : ((w.alloc (.cells #[.int .i64 op, .int .i64 id, .int .i64 a, .int .i64 b, .int .i64 x0, .int .i64 y0, .int .i64 x1, .int .i64 y1, .string s, .slice A n c] 28)).alloc (.cells #[.int .i64 0, .int .i64 0, .int .i64 0, .int .i64 0, .int .i64 0, .int .i64 0, .int .i64 0, .int .i64 0, .string ⟨#[]⟩, .slice none 0 0] 28)) = w0 at *
  have L0 := X0.lt
  have L1 := X1.lt
  have hsz0 := G0.size
  have rest : ∀ W, At W w.heap.size #[.int .i64 op, .int .i64 id, .int .i64 a, .int .i64 b, .int .i64 x0, .int .i64 y0, .int .i64 x1, .int .i64 y1, .string s, .slice A n c] 28 → At W w0.heap.size #[.int .i64 11, .int .i64 (1 + I), .int .i64 0, .int .i64 0, .int .i64 0, .int .i64 0, .int .i64 0, .int .i64 0, .string ⟨#[]⟩, .slice none 0 0] 28 → At W (w.heap.size + 1) #[.int .i64 0, .int .i64 0, .int .i64 0, .int .i64 0, .int .i64 0, .int .i64 0, .int .i64 0, .int .i64 0, .string ⟨#[]⟩, .slice none 0 0] 28 → Bl w W → K { tmps := #[.agg #[.int .i64 op, .int .i64 id, .int .i64 a, .int .i64 b, .int .i64 x0, .int .i64 y0, .int .i64 x1, .int .i64 y1, .string s, .slice A n c], .pointer (some ⟨w.heap.size, 0, none⟩), .pointer (some ⟨w.heap.size + 1, 0, none⟩), .pointer (some ⟨w0.heap.size, 0, none⟩), undef, undef, .pointer (some ⟨w.heap.size, 0, none⟩), .int .i64 op, .int .i64 11, .pointer (some ⟨w.heap.size, 1, none⟩), .int .i64 id, .int .i64 I, .int .i64 (1 + I), .agg #[.int .i64 11, .int .i64 (1 + I), .int .i64 0, .int .i64 0, .int .i64 0, .int .i64 0, .int .i64 0, .int .i64 0, .string ⟨#[]⟩, .slice none 0 0], undef, undef, undef, undef, undef, undef, undef, undef, undef, undef, undef, undef, undef, undef, undef, undef, undef, undef, undef, undef, undef, undef, undef, undef, undef, undef, undef, undef, undef, undef, undef, undef, undef, undef, undef, undef, undef, undef, undef, undef, undef, undef, undef, undef, undef, undef, undef, undef, undef, undef, undef, undef, undef, undef, undef, undef, undef, undef, undef, undef, undef, undef, undef, undef, undef, undef, undef, undef, undef, undef, undef, undef, undef, undef, undef, undef, undef, undef, undef, undef, undef, undef, undef, undef, undef, undef, undef, undef, undef, undef, undef, undef, undef, undef, undef, undef, undef, undef, undef, undef, undef], defers := [] } W := by
    intro W X O R G
    clear ca ci X0 X1 G0 hw0
    refine hK _ _ ?_
    have o00 : (W).cell? ⟨w0.heap.size, 0, none⟩ = some (.int .i64 11) := (O.cell 0).trans rfl
    have x0_4 : (W).cell? ⟨w.heap.size, 4, none⟩ = some (.int .i64 x0) := (X.cell 4).trans rfl
    have x0_5 : (W).cell? ⟨w.heap.size, 5, none⟩ = some (.int .i64 y0) := (X.cell 5).trans rfl
    have x0_6 : (W).cell? ⟨w.heap.size, 6, none⟩ = some (.int .i64 x1) := (X.cell 6).trans rfl
    have x0_7 : (W).cell? ⟨w.heap.size, 7, none⟩ = some (.int .i64 y1) := (X.cell 7).trans rfl
    go_wp2_with fail
    refine (c1 _).mono ?_
    rintro e V0 ⟨rfl, gg0⟩
    have X0 := X.gr gg0
    have O0 := O.gr gg0
    have R0 := R.gr gg0
    have G0 := G.gr gg0
    have s1 : (V0).cell? ⟨w0.heap.size, 4, none⟩ = some (.int .i64 0) := (O0.cell 4).trans rfl
    have s1f : (V0).frozen? ⟨w0.heap.size, 4, none⟩ = false := O0.free 4
    have OO1 := O0.put 4 (.int .i64 q.a)
    have O1q : At (V0.setCell ⟨w0.heap.size, 4, none⟩ (.int .i64 q.a)) w0.heap.size #[.int .i64 11, .int .i64 (1 + I), .int .i64 0, .int .i64 0, .int .i64 q.a, .int .i64 0, .int .i64 0, .int .i64 0, .string ⟨#[]⟩, .slice none 0 0] 28 := by simpa using OO1
    have X1q : At (V0.setCell ⟨w0.heap.size, 4, none⟩ (.int .i64 q.a)) w.heap.size #[.int .i64 op, .int .i64 id, .int .i64 a, .int .i64 b, .int .i64 x0, .int .i64 y0, .int .i64 x1, .int .i64 y1, .string s, .slice A n c] 28 := X0.far (by simp; omega) (.int .i64 q.a)
    have R1q : At (V0.setCell ⟨w0.heap.size, 4, none⟩ (.int .i64 q.a)) (w.heap.size + 1) #[.int .i64 0, .int .i64 0, .int .i64 0, .int .i64 0, .int .i64 0, .int .i64 0, .int .i64 0, .int .i64 0, .string ⟨#[]⟩, .slice none 0 0] 28 := R0.far (by simp; omega) (.int .i64 q.a)
    have G1q : Bl w (V0.setCell ⟨w0.heap.size, 4, none⟩ (.int .i64 q.a)) := G0.setCell (p := ⟨w0.heap.size, 4, none⟩) (by simp; omega) (.int .i64 q.a)
    clear OO1
    have s2 : ((V0.setCell ⟨w0.heap.size, 4, none⟩ (.int .i64 q.a))).cell? ⟨w0.heap.size, 5, none⟩ = some (.int .i64 0) := (O1q.cell 5).trans rfl
    have s2f : ((V0.setCell ⟨w0.heap.size, 4, none⟩ (.int .i64 q.a))).frozen? ⟨w0.heap.size, 5, none⟩ = false := O1q.free 5
    have OO2 := O1q.put 5 (.int .i64 q.b)
    have O2q : At ((V0.setCell ⟨w0.heap.size, 4, none⟩ (.int .i64 q.a)).setCell ⟨w0.heap.size, 5, none⟩ (.int .i64 q.b)) w0.heap.size #[.int .i64 11, .int .i64 (1 + I), .int .i64 0, .int .i64 0, .int .i64 q.a, .int .i64 q.b, .int .i64 0, .int .i64 0, .string ⟨#[]⟩, .slice none 0 0] 28 := by simpa using OO2
    have X2q : At ((V0.setCell ⟨w0.heap.size, 4, none⟩ (.int .i64 q.a)).setCell ⟨w0.heap.size, 5, none⟩ (.int .i64 q.b)) w.heap.size #[.int .i64 op, .int .i64 id, .int .i64 a, .int .i64 b, .int .i64 x0, .int .i64 y0, .int .i64 x1, .int .i64 y1, .string s, .slice A n c] 28 := X1q.far (by simp; omega) (.int .i64 q.b)
    have R2q : At ((V0.setCell ⟨w0.heap.size, 4, none⟩ (.int .i64 q.a)).setCell ⟨w0.heap.size, 5, none⟩ (.int .i64 q.b)) (w.heap.size + 1) #[.int .i64 0, .int .i64 0, .int .i64 0, .int .i64 0, .int .i64 0, .int .i64 0, .int .i64 0, .int .i64 0, .string ⟨#[]⟩, .slice none 0 0] 28 := R1q.far (by simp; omega) (.int .i64 q.b)
    have G2q : Bl w ((V0.setCell ⟨w0.heap.size, 4, none⟩ (.int .i64 q.a)).setCell ⟨w0.heap.size, 5, none⟩ (.int .i64 q.b)) := G1q.setCell (p := ⟨w0.heap.size, 5, none⟩) (by simp; omega) (.int .i64 q.b)
    clear OO2
    have s3 : (((V0.setCell ⟨w0.heap.size, 4, none⟩ (.int .i64 q.a)).setCell ⟨w0.heap.size, 5, none⟩ (.int .i64 q.b))).cell? ⟨w0.heap.size, 6, none⟩ = some (.int .i64 0) := (O2q.cell 6).trans rfl
    have s3f : (((V0.setCell ⟨w0.heap.size, 4, none⟩ (.int .i64 q.a)).setCell ⟨w0.heap.size, 5, none⟩ (.int .i64 q.b))).frozen? ⟨w0.heap.size, 6, none⟩ = false := O2q.free 6
    have OO3 := O2q.put 6 (.int .i64 q.c)
    have O3q : At (((V0.setCell ⟨w0.heap.size, 4, none⟩ (.int .i64 q.a)).setCell ⟨w0.heap.size, 5, none⟩ (.int .i64 q.b)).setCell ⟨w0.heap.size, 6, none⟩ (.int .i64 q.c)) w0.heap.size #[.int .i64 11, .int .i64 (1 + I), .int .i64 0, .int .i64 0, .int .i64 q.a, .int .i64 q.b, .int .i64 q.c, .int .i64 0, .string ⟨#[]⟩, .slice none 0 0] 28 := by simpa using OO3
    have X3q : At (((V0.setCell ⟨w0.heap.size, 4, none⟩ (.int .i64 q.a)).setCell ⟨w0.heap.size, 5, none⟩ (.int .i64 q.b)).setCell ⟨w0.heap.size, 6, none⟩ (.int .i64 q.c)) w.heap.size #[.int .i64 op, .int .i64 id, .int .i64 a, .int .i64 b, .int .i64 x0, .int .i64 y0, .int .i64 x1, .int .i64 y1, .string s, .slice A n c] 28 := X2q.far (by simp; omega) (.int .i64 q.c)
    have R3q : At (((V0.setCell ⟨w0.heap.size, 4, none⟩ (.int .i64 q.a)).setCell ⟨w0.heap.size, 5, none⟩ (.int .i64 q.b)).setCell ⟨w0.heap.size, 6, none⟩ (.int .i64 q.c)) (w.heap.size + 1) #[.int .i64 0, .int .i64 0, .int .i64 0, .int .i64 0, .int .i64 0, .int .i64 0, .int .i64 0, .int .i64 0, .string ⟨#[]⟩, .slice none 0 0] 28 := R2q.far (by simp; omega) (.int .i64 q.c)
    have G3q : Bl w (((V0.setCell ⟨w0.heap.size, 4, none⟩ (.int .i64 q.a)).setCell ⟨w0.heap.size, 5, none⟩ (.int .i64 q.b)).setCell ⟨w0.heap.size, 6, none⟩ (.int .i64 q.c)) := G2q.setCell (p := ⟨w0.heap.size, 6, none⟩) (by simp; omega) (.int .i64 q.c)
    clear OO3
    have s4 : ((((V0.setCell ⟨w0.heap.size, 4, none⟩ (.int .i64 q.a)).setCell ⟨w0.heap.size, 5, none⟩ (.int .i64 q.b)).setCell ⟨w0.heap.size, 6, none⟩ (.int .i64 q.c))).cell? ⟨w0.heap.size, 7, none⟩ = some (.int .i64 0) := (O3q.cell 7).trans rfl
    have s4f : ((((V0.setCell ⟨w0.heap.size, 4, none⟩ (.int .i64 q.a)).setCell ⟨w0.heap.size, 5, none⟩ (.int .i64 q.b)).setCell ⟨w0.heap.size, 6, none⟩ (.int .i64 q.c))).frozen? ⟨w0.heap.size, 7, none⟩ = false := O3q.free 7
    have OO4 := O3q.put 7 (.int .i64 q.d)
    have O4q : At ((((V0.setCell ⟨w0.heap.size, 4, none⟩ (.int .i64 q.a)).setCell ⟨w0.heap.size, 5, none⟩ (.int .i64 q.b)).setCell ⟨w0.heap.size, 6, none⟩ (.int .i64 q.c)).setCell ⟨w0.heap.size, 7, none⟩ (.int .i64 q.d)) w0.heap.size #[.int .i64 11, .int .i64 (1 + I), .int .i64 0, .int .i64 0, .int .i64 q.a, .int .i64 q.b, .int .i64 q.c, .int .i64 q.d, .string ⟨#[]⟩, .slice none 0 0] 28 := by simpa using OO4
    have X4q : At ((((V0.setCell ⟨w0.heap.size, 4, none⟩ (.int .i64 q.a)).setCell ⟨w0.heap.size, 5, none⟩ (.int .i64 q.b)).setCell ⟨w0.heap.size, 6, none⟩ (.int .i64 q.c)).setCell ⟨w0.heap.size, 7, none⟩ (.int .i64 q.d)) w.heap.size #[.int .i64 op, .int .i64 id, .int .i64 a, .int .i64 b, .int .i64 x0, .int .i64 y0, .int .i64 x1, .int .i64 y1, .string s, .slice A n c] 28 := X3q.far (by simp; omega) (.int .i64 q.d)
    have R4q : At ((((V0.setCell ⟨w0.heap.size, 4, none⟩ (.int .i64 q.a)).setCell ⟨w0.heap.size, 5, none⟩ (.int .i64 q.b)).setCell ⟨w0.heap.size, 6, none⟩ (.int .i64 q.c)).setCell ⟨w0.heap.size, 7, none⟩ (.int .i64 q.d)) (w.heap.size + 1) #[.int .i64 0, .int .i64 0, .int .i64 0, .int .i64 0, .int .i64 0, .int .i64 0, .int .i64 0, .int .i64 0, .string ⟨#[]⟩, .slice none 0 0] 28 := R3q.far (by simp; omega) (.int .i64 q.d)
    have G4q : Bl w ((((V0.setCell ⟨w0.heap.size, 4, none⟩ (.int .i64 q.a)).setCell ⟨w0.heap.size, 5, none⟩ (.int .i64 q.b)).setCell ⟨w0.heap.size, 6, none⟩ (.int .i64 q.c)).setCell ⟨w0.heap.size, 7, none⟩ (.int .i64 q.d)) := G3q.setCell (p := ⟨w0.heap.size, 7, none⟩) (by simp; omega) (.int .i64 q.d)
    clear OO4
    have e0 : (((((V0.setCell ⟨w0.heap.size, 4, none⟩ (.int .i64 q.a)).setCell ⟨w0.heap.size, 5, none⟩ (.int .i64 q.b)).setCell ⟨w0.heap.size, 6, none⟩ (.int .i64 q.c)).setCell ⟨w0.heap.size, 7, none⟩ (.int .i64 q.d))).cell? ⟨w0.heap.size, 0, none⟩ = some (.int .i64 11) := (O4q.cell 0).trans rfl
    have r0 : (((((V0.setCell ⟨w0.heap.size, 4, none⟩ (.int .i64 q.a)).setCell ⟨w0.heap.size, 5, none⟩ (.int .i64 q.b)).setCell ⟨w0.heap.size, 6, none⟩ (.int .i64 q.c)).setCell ⟨w0.heap.size, 7, none⟩ (.int .i64 q.d))).cell? ⟨w.heap.size + 1, 0, none⟩ = some (.int .i64 0) := (R4q.cell 0).trans rfl
    have r0f : (((((V0.setCell ⟨w0.heap.size, 4, none⟩ (.int .i64 q.a)).setCell ⟨w0.heap.size, 5, none⟩ (.int .i64 q.b)).setCell ⟨w0.heap.size, 6, none⟩ (.int .i64 q.c)).setCell ⟨w0.heap.size, 7, none⟩ (.int .i64 q.d))).frozen? ⟨w.heap.size + 1, 0, none⟩ = false := R4q.free 0
    have e1 : (((((V0.setCell ⟨w0.heap.size, 4, none⟩ (.int .i64 q.a)).setCell ⟨w0.heap.size, 5, none⟩ (.int .i64 q.b)).setCell ⟨w0.heap.size, 6, none⟩ (.int .i64 q.c)).setCell ⟨w0.heap.size, 7, none⟩ (.int .i64 q.d))).cell? ⟨w0.heap.size, 1, none⟩ = some (.int .i64 (1 + I)) := (O4q.cell 1).trans rfl
    have r1 : (((((V0.setCell ⟨w0.heap.size, 4, none⟩ (.int .i64 q.a)).setCell ⟨w0.heap.size, 5, none⟩ (.int .i64 q.b)).setCell ⟨w0.heap.size, 6, none⟩ (.int .i64 q.c)).setCell ⟨w0.heap.size, 7, none⟩ (.int .i64 q.d))).cell? ⟨w.heap.size + 1, 1, none⟩ = some (.int .i64 0) := (R4q.cell 1).trans rfl
    have r1f : (((((V0.setCell ⟨w0.heap.size, 4, none⟩ (.int .i64 q.a)).setCell ⟨w0.heap.size, 5, none⟩ (.int .i64 q.b)).setCell ⟨w0.heap.size, 6, none⟩ (.int .i64 q.c)).setCell ⟨w0.heap.size, 7, none⟩ (.int .i64 q.d))).frozen? ⟨w.heap.size + 1, 1, none⟩ = false := R4q.free 1
    have e2 : (((((V0.setCell ⟨w0.heap.size, 4, none⟩ (.int .i64 q.a)).setCell ⟨w0.heap.size, 5, none⟩ (.int .i64 q.b)).setCell ⟨w0.heap.size, 6, none⟩ (.int .i64 q.c)).setCell ⟨w0.heap.size, 7, none⟩ (.int .i64 q.d))).cell? ⟨w0.heap.size, 2, none⟩ = some (.int .i64 0) := (O4q.cell 2).trans rfl
    have r2 : (((((V0.setCell ⟨w0.heap.size, 4, none⟩ (.int .i64 q.a)).setCell ⟨w0.heap.size, 5, none⟩ (.int .i64 q.b)).setCell ⟨w0.heap.size, 6, none⟩ (.int .i64 q.c)).setCell ⟨w0.heap.size, 7, none⟩ (.int .i64 q.d))).cell? ⟨w.heap.size + 1, 2, none⟩ = some (.int .i64 0) := (R4q.cell 2).trans rfl
    have r2f : (((((V0.setCell ⟨w0.heap.size, 4, none⟩ (.int .i64 q.a)).setCell ⟨w0.heap.size, 5, none⟩ (.int .i64 q.b)).setCell ⟨w0.heap.size, 6, none⟩ (.int .i64 q.c)).setCell ⟨w0.heap.size, 7, none⟩ (.int .i64 q.d))).frozen? ⟨w.heap.size + 1, 2, none⟩ = false := R4q.free 2
    have e3 : (((((V0.setCell ⟨w0.heap.size, 4, none⟩ (.int .i64 q.a)).setCell ⟨w0.heap.size, 5, none⟩ (.int .i64 q.b)).setCell ⟨w0.heap.size, 6, none⟩ (.int .i64 q.c)).setCell ⟨w0.heap.size, 7, none⟩ (.int .i64 q.d))).cell? ⟨w0.heap.size, 3, none⟩ = some (.int .i64 0) := (O4q.cell 3).trans rfl
    have r3 : (((((V0.setCell ⟨w0.heap.size, 4, none⟩ (.int .i64 q.a)).setCell ⟨w0.heap.size, 5, none⟩ (.int .i64 q.b)).setCell ⟨w0.heap.size, 6, none⟩ (.int .i64 q.c)).setCell ⟨w0.heap.size, 7, none⟩ (.int .i64 q.d))).cell? ⟨w.heap.size + 1, 3, none⟩ = some (.int .i64 0) := (R4q.cell 3).trans rfl
    have r3f : (((((V0.setCell ⟨w0.heap.size, 4, none⟩ (.int .i64 q.a)).setCell ⟨w0.heap.size, 5, none⟩ (.int .i64 q.b)).setCell ⟨w0.heap.size, 6, none⟩ (.int .i64 q.c)).setCell ⟨w0.heap.size, 7, none⟩ (.int .i64 q.d))).frozen? ⟨w.heap.size + 1, 3, none⟩ = false := R4q.free 3
    have e4 : (((((V0.setCell ⟨w0.heap.size, 4, none⟩ (.int .i64 q.a)).setCell ⟨w0.heap.size, 5, none⟩ (.int .i64 q.b)).setCell ⟨w0.heap.size, 6, none⟩ (.int .i64 q.c)).setCell ⟨w0.heap.size, 7, none⟩ (.int .i64 q.d))).cell? ⟨w0.heap.size, 4, none⟩ = some (.int .i64 q.a) := (O4q.cell 4).trans rfl
    have r4 : (((((V0.setCell ⟨w0.heap.size, 4, none⟩ (.int .i64 q.a)).setCell ⟨w0.heap.size, 5, none⟩ (.int .i64 q.b)).setCell ⟨w0.heap.size, 6, none⟩ (.int .i64 q.c)).setCell ⟨w0.heap.size, 7, none⟩ (.int .i64 q.d))).cell? ⟨w.heap.size + 1, 4, none⟩ = some (.int .i64 0) := (R4q.cell 4).trans rfl
    have r4f : (((((V0.setCell ⟨w0.heap.size, 4, none⟩ (.int .i64 q.a)).setCell ⟨w0.heap.size, 5, none⟩ (.int .i64 q.b)).setCell ⟨w0.heap.size, 6, none⟩ (.int .i64 q.c)).setCell ⟨w0.heap.size, 7, none⟩ (.int .i64 q.d))).frozen? ⟨w.heap.size + 1, 4, none⟩ = false := R4q.free 4
    have e5 : (((((V0.setCell ⟨w0.heap.size, 4, none⟩ (.int .i64 q.a)).setCell ⟨w0.heap.size, 5, none⟩ (.int .i64 q.b)).setCell ⟨w0.heap.size, 6, none⟩ (.int .i64 q.c)).setCell ⟨w0.heap.size, 7, none⟩ (.int .i64 q.d))).cell? ⟨w0.heap.size, 5, none⟩ = some (.int .i64 q.b) := (O4q.cell 5).trans rfl
    have r5 : (((((V0.setCell ⟨w0.heap.size, 4, none⟩ (.int .i64 q.a)).setCell ⟨w0.heap.size, 5, none⟩ (.int .i64 q.b)).setCell ⟨w0.heap.size, 6, none⟩ (.int .i64 q.c)).setCell ⟨w0.heap.size, 7, none⟩ (.int .i64 q.d))).cell? ⟨w.heap.size + 1, 5, none⟩ = some (.int .i64 0) := (R4q.cell 5).trans rfl
    have r5f : (((((V0.setCell ⟨w0.heap.size, 4, none⟩ (.int .i64 q.a)).setCell ⟨w0.heap.size, 5, none⟩ (.int .i64 q.b)).setCell ⟨w0.heap.size, 6, none⟩ (.int .i64 q.c)).setCell ⟨w0.heap.size, 7, none⟩ (.int .i64 q.d))).frozen? ⟨w.heap.size + 1, 5, none⟩ = false := R4q.free 5
    have e6 : (((((V0.setCell ⟨w0.heap.size, 4, none⟩ (.int .i64 q.a)).setCell ⟨w0.heap.size, 5, none⟩ (.int .i64 q.b)).setCell ⟨w0.heap.size, 6, none⟩ (.int .i64 q.c)).setCell ⟨w0.heap.size, 7, none⟩ (.int .i64 q.d))).cell? ⟨w0.heap.size, 6, none⟩ = some (.int .i64 q.c) := (O4q.cell 6).trans rfl
    have r6 : (((((V0.setCell ⟨w0.heap.size, 4, none⟩ (.int .i64 q.a)).setCell ⟨w0.heap.size, 5, none⟩ (.int .i64 q.b)).setCell ⟨w0.heap.size, 6, none⟩ (.int .i64 q.c)).setCell ⟨w0.heap.size, 7, none⟩ (.int .i64 q.d))).cell? ⟨w.heap.size + 1, 6, none⟩ = some (.int .i64 0) := (R4q.cell 6).trans rfl
    have r6f : (((((V0.setCell ⟨w0.heap.size, 4, none⟩ (.int .i64 q.a)).setCell ⟨w0.heap.size, 5, none⟩ (.int .i64 q.b)).setCell ⟨w0.heap.size, 6, none⟩ (.int .i64 q.c)).setCell ⟨w0.heap.size, 7, none⟩ (.int .i64 q.d))).frozen? ⟨w.heap.size + 1, 6, none⟩ = false := R4q.free 6
    have e7 : (((((V0.setCell ⟨w0.heap.size, 4, none⟩ (.int .i64 q.a)).setCell ⟨w0.heap.size, 5, none⟩ (.int .i64 q.b)).setCell ⟨w0.heap.size, 6, none⟩ (.int .i64 q.c)).setCell ⟨w0.heap.size, 7, none⟩ (.int .i64 q.d))).cell? ⟨w0.heap.size, 7, none⟩ = some (.int .i64 q.d) := (O4q.cell 7).trans rfl
    have r7 : (((((V0.setCell ⟨w0.heap.size, 4, none⟩ (.int .i64 q.a)).setCell ⟨w0.heap.size, 5, none⟩ (.int .i64 q.b)).setCell ⟨w0.heap.size, 6, none⟩ (.int .i64 q.c)).setCell ⟨w0.heap.size, 7, none⟩ (.int .i64 q.d))).cell? ⟨w.heap.size + 1, 7, none⟩ = some (.int .i64 0) := (R4q.cell 7).trans rfl
    have r7f : (((((V0.setCell ⟨w0.heap.size, 4, none⟩ (.int .i64 q.a)).setCell ⟨w0.heap.size, 5, none⟩ (.int .i64 q.b)).setCell ⟨w0.heap.size, 6, none⟩ (.int .i64 q.c)).setCell ⟨w0.heap.size, 7, none⟩ (.int .i64 q.d))).frozen? ⟨w.heap.size + 1, 7, none⟩ = false := R4q.free 7
    have e8 : (((((V0.setCell ⟨w0.heap.size, 4, none⟩ (.int .i64 q.a)).setCell ⟨w0.heap.size, 5, none⟩ (.int .i64 q.b)).setCell ⟨w0.heap.size, 6, none⟩ (.int .i64 q.c)).setCell ⟨w0.heap.size, 7, none⟩ (.int .i64 q.d))).cell? ⟨w0.heap.size, 8, none⟩ = some (.string ⟨#[]⟩) := (O4q.cell 8).trans rfl
    have r8 : (((((V0.setCell ⟨w0.heap.size, 4, none⟩ (.int .i64 q.a)).setCell ⟨w0.heap.size, 5, none⟩ (.int .i64 q.b)).setCell ⟨w0.heap.size, 6, none⟩ (.int .i64 q.c)).setCell ⟨w0.heap.size, 7, none⟩ (.int .i64 q.d))).cell? ⟨w.heap.size + 1, 8, none⟩ = some (.string ⟨#[]⟩) := (R4q.cell 8).trans rfl
    have r8f : (((((V0.setCell ⟨w0.heap.size, 4, none⟩ (.int .i64 q.a)).setCell ⟨w0.heap.size, 5, none⟩ (.int .i64 q.b)).setCell ⟨w0.heap.size, 6, none⟩ (.int .i64 q.c)).setCell ⟨w0.heap.size, 7, none⟩ (.int .i64 q.d))).frozen? ⟨w.heap.size + 1, 8, none⟩ = false := R4q.free 8
    have e9 : (((((V0.setCell ⟨w0.heap.size, 4, none⟩ (.int .i64 q.a)).setCell ⟨w0.heap.size, 5, none⟩ (.int .i64 q.b)).setCell ⟨w0.heap.size, 6, none⟩ (.int .i64 q.c)).setCell ⟨w0.heap.size, 7, none⟩ (.int .i64 q.d))).cell? ⟨w0.heap.size, 9, none⟩ = some (.slice none 0 0) := (O4q.cell 9).trans rfl
    have r9 : (((((V0.setCell ⟨w0.heap.size, 4, none⟩ (.int .i64 q.a)).setCell ⟨w0.heap.size, 5, none⟩ (.int .i64 q.b)).setCell ⟨w0.heap.size, 6, none⟩ (.int .i64 q.c)).setCell ⟨w0.heap.size, 7, none⟩ (.int .i64 q.d))).cell? ⟨w.heap.size + 1, 9, none⟩ = some (.slice none 0 0) := (R4q.cell 9).trans rfl
    have r9f : (((((V0.setCell ⟨w0.heap.size, 4, none⟩ (.int .i64 q.a)).setCell ⟨w0.heap.size, 5, none⟩ (.int .i64 q.b)).setCell ⟨w0.heap.size, 6, none⟩ (.int .i64 q.c)).setCell ⟨w0.heap.size, 7, none⟩ (.int .i64 q.d))).frozen? ⟨w.heap.size + 1, 9, none⟩ = false := R4q.free 9
    go_wp2
    have Y := put10_at R4q (.int .i64 11) (.int .i64 (1 + I)) (.int .i64 0) (.int .i64 0) (.int .i64 q.a) (.int .i64 q.b) (.int .i64 q.c) (.int .i64 q.d) (.string ⟨#[]⟩) (.slice none 0 0)
    have GY := put10_bl (b := w.heap.size + 1) G4q (by omega) (.int .i64 11) (.int .i64 (1 + I)) (.int .i64 0) (.int .i64 0) (.int .i64 q.a) (.int .i64 q.b) (.int .i64 q.c) (.int .i64 q.d) (.string ⟨#[]⟩) (.slice none 0 0)
    clear e0 r0 r0f e1 r1 r1f e2 r2 r2f e3 r3 r3f e4 r4 r4f e5 r5 r5f e6 r6 r6f e7 r7 r7f e8 r8 r8f e9 r9 r9f
    generalize ((((((((((((((V0.setCell ⟨w0.heap.size, 4, none⟩ (.int .i64 q.a)).setCell ⟨w0.heap.size, 5, none⟩ (.int .i64 q.b)).setCell ⟨w0.heap.size, 6, none⟩ (.int .i64 q.c)).setCell ⟨w0.heap.size, 7, none⟩ (.int .i64 q.d)).setCell ⟨w.heap.size + 1, 0, none⟩ (.int .i64 11)).setCell ⟨w.heap.size + 1, 1, none⟩ (.int .i64 (1 + I))).setCell ⟨w.heap.size + 1, 2, none⟩ (.int .i64 0)).setCell ⟨w.heap.size + 1, 3, none⟩ (.int .i64 0)).setCell ⟨w.heap.size + 1, 4, none⟩ (.int .i64 q.a)).setCell ⟨w.heap.size + 1, 5, none⟩ (.int .i64 q.b)).setCell ⟨w.heap.size + 1, 6, none⟩ (.int .i64 q.c)).setCell ⟨w.heap.size + 1, 7, none⟩ (.int .i64 q.d)).setCell ⟨w.heap.size + 1, 8, none⟩ (.string ⟨#[]⟩)).setCell ⟨w.heap.size + 1, 9, none⟩ (.slice none 0 0)) = VV at *
    have d0 : VV.cell? ⟨w.heap.size + 1, 0, none⟩ = some (.int .i64 11) := (Y.cell 0).trans rfl
    have d1 : VV.cell? ⟨w.heap.size + 1, 1, none⟩ = some (.int .i64 (1 + I)) := (Y.cell 1).trans rfl
    have d2 : VV.cell? ⟨w.heap.size + 1, 2, none⟩ = some (.int .i64 0) := (Y.cell 2).trans rfl
    have d3 : VV.cell? ⟨w.heap.size + 1, 3, none⟩ = some (.int .i64 0) := (Y.cell 3).trans rfl
    have d4 : VV.cell? ⟨w.heap.size + 1, 4, none⟩ = some (.int .i64 q.a) := (Y.cell 4).trans rfl
    have d5 : VV.cell? ⟨w.heap.size + 1, 5, none⟩ = some (.int .i64 q.b) := (Y.cell 5).trans rfl
    have d6 : VV.cell? ⟨w.heap.size + 1, 6, none⟩ = some (.int .i64 q.c) := (Y.cell 6).trans rfl
    have d7 : VV.cell? ⟨w.heap.size + 1, 7, none⟩ = some (.int .i64 q.d) := (Y.cell 7).trans rfl
    have d8 : VV.cell? ⟨w.heap.size + 1, 8, none⟩ = some (.string ⟨#[]⟩) := (Y.cell 8).trans rfl
    have d9 : VV.cell? ⟨w.heap.size + 1, 9, none⟩ = some (.slice none 0 0) := (Y.cell 9).trans rfl
    exact bodyPost_ret (v := .agg #[.int .i64 11, .int .i64 (1 + I), .int .i64 0, .int .i64 0, .int .i64 q.a, .int .i64 q.b, .int .i64 q.c, .int .i64 q.d, .string ⟨#[]⟩, .slice none 0 0]) (by simp [results, Tryd.results14, go_sem, d0, d1, d2, d3, d4, d5, d6, d7, d8, d9]) rfl ⟨rfl, GY⟩
  have SK : ∀ V, Bl w0 V → V.cell? ⟨w.heap.size, 0, none⟩ = some (.int .i64 op) ∧ V.cell? ⟨w.heap.size, 1, none⟩ = some (.int .i64 id) ∧ Bl w0 V := fun V g => ⟨((X0.bl g).cell 0).trans rfl, ((X0.bl g).cell 1).trans rfl, g⟩
  replace SK := Lib.hid SK
  replace rest := Lib.hid rest
  go_region_held3 (fun V => V.cell? ⟨w.heap.size, 0, none⟩ = some (.int .i64 op) ∧ V.cell? ⟨w.heap.size, 1, none⟩ = some (.int .i64 id) ∧ Bl w0 V) ((refine SK.out _ ?_; repeat (first | with_reducible assumption | with_reducible exact Bl.refl _ | with_reducible exact (And.right (And.right (by assumption))) | with_reducible exact Bl.gr (And.right (And.right (by assumption))) (by assumption) | with_reducible apply Bl.drew | with_reducible apply Bl.alloc))) ((first | (go_at_call_of 15 (Value.int IntKind.i64 op); (refine (ca _).mono ?_); rintro e V1 ⟨rfl, rfl⟩) | (go_at_call_of 15 (Value.int IntKind.i64 id); (refine (ci _).mono ?_); rintro e V2 ⟨rfl, rfl⟩)))
  all_goals exact rest.out _ (X0.alloc _).drew (At.new w0 _ _).drew (X1.alloc _).drew (G0.alloc _).drew
set_option maxRecDepth 100000 in
set_option maxHeartbeats 2000000 in
theorem rgood_18 (op id a b x0 y0 x1 y1 : Int) (s : ByteArray) (A : Option Addr) (n c : Nat) (w : World) (I : Int) (hI : 0 ≤ I ∧ I < 9) (A1 A2 : Int) (hA1 : 0 ≤ A1 ∧ A1 < 40) (hA2 : 0 ≤ A2 ∧ A2 < 40)
    (c1 : ∀ V, Calls Tryd.prog 15 #[.int .i64 a, .int .i64 40] V fun e w' => e = .returned (.int .i64 A1) ∧ V = w')
    (c2 : ∀ V, Calls Tryd.prog 15 #[.int .i64 b, .int .i64 40] V fun e w' => e = .returned (.int .i64 A2) ∧ V = w')
    (ca : ∀ V, Calls Tryd.prog 15 #[.int .i64 op, .int .i64 19] V fun e w' => e = .returned (.int .i64 18) ∧ V = w')
    (ci : ∀ V, Calls Tryd.prog 15 #[.int .i64 id, .int .i64 9] V fun e w' => e = .returned (.int .i64 I) ∧ V = w') :
    Calls Tryd.prog 14 #[.agg #[.int .i64 op, .int .i64 id, .int .i64 a, .int .i64 b, .int .i64 x0, .int .i64 y0, .int .i64 x1, .int .i64 y1, .string s, .slice A n c]] w (fun e w' => e = .returned (.agg #[.int .i64 18, .int .i64 0, .int .i64 (A1 - 10), .int .i64 (A2 - 10), .int .i64 0, .int .i64 0, .int .i64 0, .int .i64 0, .string ⟨#[]⟩, .slice none 0 0]) ∧ Bl w w') := by
  have w1 : IntKind.i64.wrap (A1 - 10) = A1 - 10 := IntWalk.i64_in _ (by omega)
  have w2 : IntKind.i64.wrap (A2 - 10) = A2 - 10 := IntWalk.i64_in _ (by omega)
  replace hA1 := Lib.hid hA1
  replace hA2 := Lib.hid hA2
  have hw1 : IntKind.i64.wrap (1 + I) = 1 + I := IntWalk.i64_in _ (by omega)
  have X0 := (At.new w #[.int .i64 op, .int .i64 id, .int .i64 a, .int .i64 b, .int .i64 x0, .int .i64 y0, .int .i64 x1, .int .i64 y1, .string s, .slice A n c] 28).alloc (.cells #[.int .i64 0, .int .i64 0, .int .i64 0, .int .i64 0, .int .i64 0, .int .i64 0, .int .i64 0, .int .i64 0, .string ⟨#[]⟩, .slice none 0 0] 28)
  have X1 := At.newAt (w := w.alloc (.cells #[.int .i64 op, .int .i64 id, .int .i64 a, .int .i64 b, .int .i64 x0, .int .i64 y0, .int .i64 x1, .int .i64 y1, .string s, .slice A n c] 28)) (n := w.heap.size + 1) (by simp) #[.int .i64 0, .int .i64 0, .int .i64 0, .int .i64 0, .int .i64 0, .int .i64 0, .int .i64 0, .int .i64 0, .string ⟨#[]⟩, .slice none 0 0] 28
  have G0 : Bl w ((w.alloc (.cells #[.int .i64 op, .int .i64 id, .int .i64 a, .int .i64 b, .int .i64 x0, .int .i64 y0, .int .i64 x1, .int .i64 y1, .string s, .slice A n c] 28)).alloc (.cells #[.int .i64 0, .int .i64 0, .int .i64 0, .int .i64 0, .int .i64 0, .int .i64 0, .int .i64 0, .int .i64 0, .string ⟨#[]⟩, .slice none 0 0] 28)) := ((Bl.refl w).alloc _).alloc _
  go_enter Tryd.func14, Tryd.ntmps14
  go_wp2
  rename_i K hK
  generalize hw0 : ((w.alloc (.cells #[.int .i64 op, .int .i64 id, .int .i64 a, .int .i64 b, .int .i64 x0, .int .i64 y0, .int .i64 x1, .int .i64 y1, .string s, .slice A n c] 28)).alloc (.cells #[.int .i64 0, .int .i64 0, .int .i64 0, .int .i64 0, .int .i64 0, .int .i64 0, .int .i64 0, .int .i64 0, .string ⟨#[]⟩, .slice none 0 0] 28)) = w0 at *
  have L0 := X0.lt
  have L1 := X1.lt
  have hsz0 := G0.size
  have rest : ∀ W, At W w.heap.size #[.int .i64 op, .int .i64 id, .int .i64 a, .int .i64 b, .int .i64 x0, .int .i64 y0, .int .i64 x1, .int .i64 y1, .string s, .slice A n c] 28 → At W w0.heap.size #[.int .i64 18, .int .i64 (1 + I), .int .i64 0, .int .i64 0, .int .i64 0, .int .i64 0, .int .i64 0, .int .i64 0, .string ⟨#[]⟩, .slice none 0 0] 28 → At W (w.heap.size + 1) #[.int .i64 0, .int .i64 0, .int .i64 0, .int .i64 0, .int .i64 0, .int .i64 0, .int .i64 0, .int .i64 0, .string ⟨#[]⟩, .slice none 0 0] 28 → Bl w W → K { tmps := #[.agg #[.int .i64 op, .int .i64 id, .int .i64 a, .int .i64 b, .int .i64 x0, .int .i64 y0, .int .i64 x1, .int .i64 y1, .string s, .slice A n c], .pointer (some ⟨w.heap.size, 0, none⟩), .pointer (some ⟨w.heap.size + 1, 0, none⟩), .pointer (some ⟨w0.heap.size, 0, none⟩), undef, undef, .pointer (some ⟨w.heap.size, 0, none⟩), .int .i64 op, .int .i64 18, .pointer (some ⟨w.heap.size, 1, none⟩), .int .i64 id, .int .i64 I, .int .i64 (1 + I), .agg #[.int .i64 18, .int .i64 (1 + I), .int .i64 0, .int .i64 0, .int .i64 0, .int .i64 0, .int .i64 0, .int .i64 0, .string ⟨#[]⟩, .slice none 0 0], undef, undef, undef, undef, undef, undef, undef, undef, undef, undef, undef, undef, undef, undef, undef, undef, undef, undef, undef, undef, undef, undef, undef, undef, undef, undef, undef, undef, undef, undef, undef, undef, undef, undef, undef, undef, undef, undef, undef, undef, undef, undef, undef, undef, undef, undef, undef, undef, undef, undef, undef, undef, undef, undef, undef, undef, undef, undef, undef, undef, undef, undef, undef, undef, undef, undef, undef, undef, undef, undef, undef, undef, undef, undef, undef, undef, undef, undef, undef, undef, undef, undef, undef, undef, undef, undef, undef, undef, undef, undef, undef, undef, undef, undef, undef, undef, undef, undef, undef, undef, undef], defers := [] } W := by
    intro W X O R G
    clear ca ci X0 X1 G0 hw0
    refine hK _ _ ?_
    have o00 : (W).cell? ⟨w0.heap.size, 0, none⟩ = some (.int .i64 18) := (O.cell 0).trans rfl
    have x0_2 : (W).cell? ⟨w.heap.size, 2, none⟩ = some (.int .i64 a) := (X.cell 2).trans rfl
    go_wp2_with fail
    refine (c1 _).mono ?_
    rintro e V0 ⟨rfl, rfl⟩
    have s1 : (W).cell? ⟨w0.heap.size, 2, none⟩ = some (.int .i64 0) := (O.cell 2).trans rfl
    have s1f : (W).frozen? ⟨w0.heap.size, 2, none⟩ = false := O.free 2
    have OO1 := O.put 2 (.int .i64 (A1 - 10))
    have O1q : At (W.setCell ⟨w0.heap.size, 2, none⟩ (.int .i64 (A1 - 10))) w0.heap.size #[.int .i64 18, .int .i64 (1 + I), .int .i64 (A1 - 10), .int .i64 0, .int .i64 0, .int .i64 0, .int .i64 0, .int .i64 0, .string ⟨#[]⟩, .slice none 0 0] 28 := by simpa using OO1
    have X1q : At (W.setCell ⟨w0.heap.size, 2, none⟩ (.int .i64 (A1 - 10))) w.heap.size #[.int .i64 op, .int .i64 id, .int .i64 a, .int .i64 b, .int .i64 x0, .int .i64 y0, .int .i64 x1, .int .i64 y1, .string s, .slice A n c] 28 := X.far (by simp; omega) (.int .i64 (A1 - 10))
    have R1q : At (W.setCell ⟨w0.heap.size, 2, none⟩ (.int .i64 (A1 - 10))) (w.heap.size + 1) #[.int .i64 0, .int .i64 0, .int .i64 0, .int .i64 0, .int .i64 0, .int .i64 0, .int .i64 0, .int .i64 0, .string ⟨#[]⟩, .slice none 0 0] 28 := R.far (by simp; omega) (.int .i64 (A1 - 10))
    have G1q : Bl w (W.setCell ⟨w0.heap.size, 2, none⟩ (.int .i64 (A1 - 10))) := G.setCell (p := ⟨w0.heap.size, 2, none⟩) (by simp; omega) (.int .i64 (A1 - 10))
    clear OO1
    have x1_3 : ((W.setCell ⟨w0.heap.size, 2, none⟩ (.int .i64 (A1 - 10)))).cell? ⟨w.heap.size, 3, none⟩ = some (.int .i64 b) := (X1q.cell 3).trans rfl
    go_wp2_with fail
    refine (c2 _).mono ?_
    rintro e V1 ⟨rfl, rfl⟩
    generalize (W.setCell ⟨w0.heap.size, 2, none⟩ (.int .i64 (A1 - 10))) = U1 at *
    have s2 : (U1).cell? ⟨w0.heap.size, 3, none⟩ = some (.int .i64 0) := (O1q.cell 3).trans rfl
    have s2f : (U1).frozen? ⟨w0.heap.size, 3, none⟩ = false := O1q.free 3
    have OO2 := O1q.put 3 (.int .i64 (A2 - 10))
    have O2q : At (U1.setCell ⟨w0.heap.size, 3, none⟩ (.int .i64 (A2 - 10))) w0.heap.size #[.int .i64 18, .int .i64 (1 + I), .int .i64 (A1 - 10), .int .i64 (A2 - 10), .int .i64 0, .int .i64 0, .int .i64 0, .int .i64 0, .string ⟨#[]⟩, .slice none 0 0] 28 := by simpa using OO2
    have X2q : At (U1.setCell ⟨w0.heap.size, 3, none⟩ (.int .i64 (A2 - 10))) w.heap.size #[.int .i64 op, .int .i64 id, .int .i64 a, .int .i64 b, .int .i64 x0, .int .i64 y0, .int .i64 x1, .int .i64 y1, .string s, .slice A n c] 28 := X1q.far (by simp; omega) (.int .i64 (A2 - 10))
    have R2q : At (U1.setCell ⟨w0.heap.size, 3, none⟩ (.int .i64 (A2 - 10))) (w.heap.size + 1) #[.int .i64 0, .int .i64 0, .int .i64 0, .int .i64 0, .int .i64 0, .int .i64 0, .int .i64 0, .int .i64 0, .string ⟨#[]⟩, .slice none 0 0] 28 := R1q.far (by simp; omega) (.int .i64 (A2 - 10))
    have G2q : Bl w (U1.setCell ⟨w0.heap.size, 3, none⟩ (.int .i64 (A2 - 10))) := G1q.setCell (p := ⟨w0.heap.size, 3, none⟩) (by simp; omega) (.int .i64 (A2 - 10))
    clear OO2
    have o02 : ((U1.setCell ⟨w0.heap.size, 3, none⟩ (.int .i64 (A2 - 10)))).cell? ⟨w0.heap.size, 0, none⟩ = some (.int .i64 18) := (O2q.cell 0).trans rfl
    have s3 : ((U1.setCell ⟨w0.heap.size, 3, none⟩ (.int .i64 (A2 - 10)))).cell? ⟨w0.heap.size, 1, none⟩ = some (.int .i64 (1 + I)) := (O2q.cell 1).trans rfl
    have s3f : ((U1.setCell ⟨w0.heap.size, 3, none⟩ (.int .i64 (A2 - 10)))).frozen? ⟨w0.heap.size, 1, none⟩ = false := O2q.free 1
    have OO3 := O2q.put 1 (.int .i64 0)
    have O3q : At ((U1.setCell ⟨w0.heap.size, 3, none⟩ (.int .i64 (A2 - 10))).setCell ⟨w0.heap.size, 1, none⟩ (.int .i64 0)) w0.heap.size #[.int .i64 18, .int .i64 0, .int .i64 (A1 - 10), .int .i64 (A2 - 10), .int .i64 0, .int .i64 0, .int .i64 0, .int .i64 0, .string ⟨#[]⟩, .slice none 0 0] 28 := by simpa using OO3
    have X3q : At ((U1.setCell ⟨w0.heap.size, 3, none⟩ (.int .i64 (A2 - 10))).setCell ⟨w0.heap.size, 1, none⟩ (.int .i64 0)) w.heap.size #[.int .i64 op, .int .i64 id, .int .i64 a, .int .i64 b, .int .i64 x0, .int .i64 y0, .int .i64 x1, .int .i64 y1, .string s, .slice A n c] 28 := X2q.far (by simp; omega) (.int .i64 0)
    have R3q : At ((U1.setCell ⟨w0.heap.size, 3, none⟩ (.int .i64 (A2 - 10))).setCell ⟨w0.heap.size, 1, none⟩ (.int .i64 0)) (w.heap.size + 1) #[.int .i64 0, .int .i64 0, .int .i64 0, .int .i64 0, .int .i64 0, .int .i64 0, .int .i64 0, .int .i64 0, .string ⟨#[]⟩, .slice none 0 0] 28 := R2q.far (by simp; omega) (.int .i64 0)
    have G3q : Bl w ((U1.setCell ⟨w0.heap.size, 3, none⟩ (.int .i64 (A2 - 10))).setCell ⟨w0.heap.size, 1, none⟩ (.int .i64 0)) := G2q.setCell (p := ⟨w0.heap.size, 1, none⟩) (by simp; omega) (.int .i64 0)
    clear OO3
    have e0 : (((U1.setCell ⟨w0.heap.size, 3, none⟩ (.int .i64 (A2 - 10))).setCell ⟨w0.heap.size, 1, none⟩ (.int .i64 0))).cell? ⟨w0.heap.size, 0, none⟩ = some (.int .i64 18) := (O3q.cell 0).trans rfl
    have r0 : (((U1.setCell ⟨w0.heap.size, 3, none⟩ (.int .i64 (A2 - 10))).setCell ⟨w0.heap.size, 1, none⟩ (.int .i64 0))).cell? ⟨w.heap.size + 1, 0, none⟩ = some (.int .i64 0) := (R3q.cell 0).trans rfl
    have r0f : (((U1.setCell ⟨w0.heap.size, 3, none⟩ (.int .i64 (A2 - 10))).setCell ⟨w0.heap.size, 1, none⟩ (.int .i64 0))).frozen? ⟨w.heap.size + 1, 0, none⟩ = false := R3q.free 0
    have e1 : (((U1.setCell ⟨w0.heap.size, 3, none⟩ (.int .i64 (A2 - 10))).setCell ⟨w0.heap.size, 1, none⟩ (.int .i64 0))).cell? ⟨w0.heap.size, 1, none⟩ = some (.int .i64 0) := (O3q.cell 1).trans rfl
    have r1 : (((U1.setCell ⟨w0.heap.size, 3, none⟩ (.int .i64 (A2 - 10))).setCell ⟨w0.heap.size, 1, none⟩ (.int .i64 0))).cell? ⟨w.heap.size + 1, 1, none⟩ = some (.int .i64 0) := (R3q.cell 1).trans rfl
    have r1f : (((U1.setCell ⟨w0.heap.size, 3, none⟩ (.int .i64 (A2 - 10))).setCell ⟨w0.heap.size, 1, none⟩ (.int .i64 0))).frozen? ⟨w.heap.size + 1, 1, none⟩ = false := R3q.free 1
    have e2 : (((U1.setCell ⟨w0.heap.size, 3, none⟩ (.int .i64 (A2 - 10))).setCell ⟨w0.heap.size, 1, none⟩ (.int .i64 0))).cell? ⟨w0.heap.size, 2, none⟩ = some (.int .i64 (A1 - 10)) := (O3q.cell 2).trans rfl
    have r2 : (((U1.setCell ⟨w0.heap.size, 3, none⟩ (.int .i64 (A2 - 10))).setCell ⟨w0.heap.size, 1, none⟩ (.int .i64 0))).cell? ⟨w.heap.size + 1, 2, none⟩ = some (.int .i64 0) := (R3q.cell 2).trans rfl
    have r2f : (((U1.setCell ⟨w0.heap.size, 3, none⟩ (.int .i64 (A2 - 10))).setCell ⟨w0.heap.size, 1, none⟩ (.int .i64 0))).frozen? ⟨w.heap.size + 1, 2, none⟩ = false := R3q.free 2
    have e3 : (((U1.setCell ⟨w0.heap.size, 3, none⟩ (.int .i64 (A2 - 10))).setCell ⟨w0.heap.size, 1, none⟩ (.int .i64 0))).cell? ⟨w0.heap.size, 3, none⟩ = some (.int .i64 (A2 - 10)) := (O3q.cell 3).trans rfl
    have r3 : (((U1.setCell ⟨w0.heap.size, 3, none⟩ (.int .i64 (A2 - 10))).setCell ⟨w0.heap.size, 1, none⟩ (.int .i64 0))).cell? ⟨w.heap.size + 1, 3, none⟩ = some (.int .i64 0) := (R3q.cell 3).trans rfl
    have r3f : (((U1.setCell ⟨w0.heap.size, 3, none⟩ (.int .i64 (A2 - 10))).setCell ⟨w0.heap.size, 1, none⟩ (.int .i64 0))).frozen? ⟨w.heap.size + 1, 3, none⟩ = false := R3q.free 3
    have e4 : (((U1.setCell ⟨w0.heap.size, 3, none⟩ (.int .i64 (A2 - 10))).setCell ⟨w0.heap.size, 1, none⟩ (.int .i64 0))).cell? ⟨w0.heap.size, 4, none⟩ = some (.int .i64 0) := (O3q.cell 4).trans rfl
    have r4 : (((U1.setCell ⟨w0.heap.size, 3, none⟩ (.int .i64 (A2 - 10))).setCell ⟨w0.heap.size, 1, none⟩ (.int .i64 0))).cell? ⟨w.heap.size + 1, 4, none⟩ = some (.int .i64 0) := (R3q.cell 4).trans rfl
    have r4f : (((U1.setCell ⟨w0.heap.size, 3, none⟩ (.int .i64 (A2 - 10))).setCell ⟨w0.heap.size, 1, none⟩ (.int .i64 0))).frozen? ⟨w.heap.size + 1, 4, none⟩ = false := R3q.free 4
    have e5 : (((U1.setCell ⟨w0.heap.size, 3, none⟩ (.int .i64 (A2 - 10))).setCell ⟨w0.heap.size, 1, none⟩ (.int .i64 0))).cell? ⟨w0.heap.size, 5, none⟩ = some (.int .i64 0) := (O3q.cell 5).trans rfl
    have r5 : (((U1.setCell ⟨w0.heap.size, 3, none⟩ (.int .i64 (A2 - 10))).setCell ⟨w0.heap.size, 1, none⟩ (.int .i64 0))).cell? ⟨w.heap.size + 1, 5, none⟩ = some (.int .i64 0) := (R3q.cell 5).trans rfl
    have r5f : (((U1.setCell ⟨w0.heap.size, 3, none⟩ (.int .i64 (A2 - 10))).setCell ⟨w0.heap.size, 1, none⟩ (.int .i64 0))).frozen? ⟨w.heap.size + 1, 5, none⟩ = false := R3q.free 5
    have e6 : (((U1.setCell ⟨w0.heap.size, 3, none⟩ (.int .i64 (A2 - 10))).setCell ⟨w0.heap.size, 1, none⟩ (.int .i64 0))).cell? ⟨w0.heap.size, 6, none⟩ = some (.int .i64 0) := (O3q.cell 6).trans rfl
    have r6 : (((U1.setCell ⟨w0.heap.size, 3, none⟩ (.int .i64 (A2 - 10))).setCell ⟨w0.heap.size, 1, none⟩ (.int .i64 0))).cell? ⟨w.heap.size + 1, 6, none⟩ = some (.int .i64 0) := (R3q.cell 6).trans rfl
    have r6f : (((U1.setCell ⟨w0.heap.size, 3, none⟩ (.int .i64 (A2 - 10))).setCell ⟨w0.heap.size, 1, none⟩ (.int .i64 0))).frozen? ⟨w.heap.size + 1, 6, none⟩ = false := R3q.free 6
    have e7 : (((U1.setCell ⟨w0.heap.size, 3, none⟩ (.int .i64 (A2 - 10))).setCell ⟨w0.heap.size, 1, none⟩ (.int .i64 0))).cell? ⟨w0.heap.size, 7, none⟩ = some (.int .i64 0) := (O3q.cell 7).trans rfl
    have r7 : (((U1.setCell ⟨w0.heap.size, 3, none⟩ (.int .i64 (A2 - 10))).setCell ⟨w0.heap.size, 1, none⟩ (.int .i64 0))).cell? ⟨w.heap.size + 1, 7, none⟩ = some (.int .i64 0) := (R3q.cell 7).trans rfl
    have r7f : (((U1.setCell ⟨w0.heap.size, 3, none⟩ (.int .i64 (A2 - 10))).setCell ⟨w0.heap.size, 1, none⟩ (.int .i64 0))).frozen? ⟨w.heap.size + 1, 7, none⟩ = false := R3q.free 7
    have e8 : (((U1.setCell ⟨w0.heap.size, 3, none⟩ (.int .i64 (A2 - 10))).setCell ⟨w0.heap.size, 1, none⟩ (.int .i64 0))).cell? ⟨w0.heap.size, 8, none⟩ = some (.string ⟨#[]⟩) := (O3q.cell 8).trans rfl
    have r8 : (((U1.setCell ⟨w0.heap.size, 3, none⟩ (.int .i64 (A2 - 10))).setCell ⟨w0.heap.size, 1, none⟩ (.int .i64 0))).cell? ⟨w.heap.size + 1, 8, none⟩ = some (.string ⟨#[]⟩) := (R3q.cell 8).trans rfl
    have r8f : (((U1.setCell ⟨w0.heap.size, 3, none⟩ (.int .i64 (A2 - 10))).setCell ⟨w0.heap.size, 1, none⟩ (.int .i64 0))).frozen? ⟨w.heap.size + 1, 8, none⟩ = false := R3q.free 8
    have e9 : (((U1.setCell ⟨w0.heap.size, 3, none⟩ (.int .i64 (A2 - 10))).setCell ⟨w0.heap.size, 1, none⟩ (.int .i64 0))).cell? ⟨w0.heap.size, 9, none⟩ = some (.slice none 0 0) := (O3q.cell 9).trans rfl
    have r9 : (((U1.setCell ⟨w0.heap.size, 3, none⟩ (.int .i64 (A2 - 10))).setCell ⟨w0.heap.size, 1, none⟩ (.int .i64 0))).cell? ⟨w.heap.size + 1, 9, none⟩ = some (.slice none 0 0) := (R3q.cell 9).trans rfl
    have r9f : (((U1.setCell ⟨w0.heap.size, 3, none⟩ (.int .i64 (A2 - 10))).setCell ⟨w0.heap.size, 1, none⟩ (.int .i64 0))).frozen? ⟨w.heap.size + 1, 9, none⟩ = false := R3q.free 9
    go_wp2
    have Y := put10_at R3q (.int .i64 18) (.int .i64 0) (.int .i64 (A1 - 10)) (.int .i64 (A2 - 10)) (.int .i64 0) (.int .i64 0) (.int .i64 0) (.int .i64 0) (.string ⟨#[]⟩) (.slice none 0 0)
    have GY := put10_bl (b := w.heap.size + 1) G3q (by omega) (.int .i64 18) (.int .i64 0) (.int .i64 (A1 - 10)) (.int .i64 (A2 - 10)) (.int .i64 0) (.int .i64 0) (.int .i64 0) (.int .i64 0) (.string ⟨#[]⟩) (.slice none 0 0)
    clear e0 r0 r0f e1 r1 r1f e2 r2 r2f e3 r3 r3f e4 r4 r4f e5 r5 r5f e6 r6 r6f e7 r7 r7f e8 r8 r8f e9 r9 r9f
    generalize ((((((((((((U1.setCell ⟨w0.heap.size, 3, none⟩ (.int .i64 (A2 - 10))).setCell ⟨w0.heap.size, 1, none⟩ (.int .i64 0)).setCell ⟨w.heap.size + 1, 0, none⟩ (.int .i64 18)).setCell ⟨w.heap.size + 1, 1, none⟩ (.int .i64 0)).setCell ⟨w.heap.size + 1, 2, none⟩ (.int .i64 (A1 - 10))).setCell ⟨w.heap.size + 1, 3, none⟩ (.int .i64 (A2 - 10))).setCell ⟨w.heap.size + 1, 4, none⟩ (.int .i64 0)).setCell ⟨w.heap.size + 1, 5, none⟩ (.int .i64 0)).setCell ⟨w.heap.size + 1, 6, none⟩ (.int .i64 0)).setCell ⟨w.heap.size + 1, 7, none⟩ (.int .i64 0)).setCell ⟨w.heap.size + 1, 8, none⟩ (.string ⟨#[]⟩)).setCell ⟨w.heap.size + 1, 9, none⟩ (.slice none 0 0)) = VV at *
    have d0 : VV.cell? ⟨w.heap.size + 1, 0, none⟩ = some (.int .i64 18) := (Y.cell 0).trans rfl
    have d1 : VV.cell? ⟨w.heap.size + 1, 1, none⟩ = some (.int .i64 0) := (Y.cell 1).trans rfl
    have d2 : VV.cell? ⟨w.heap.size + 1, 2, none⟩ = some (.int .i64 (A1 - 10)) := (Y.cell 2).trans rfl
    have d3 : VV.cell? ⟨w.heap.size + 1, 3, none⟩ = some (.int .i64 (A2 - 10)) := (Y.cell 3).trans rfl
    have d4 : VV.cell? ⟨w.heap.size + 1, 4, none⟩ = some (.int .i64 0) := (Y.cell 4).trans rfl
    have d5 : VV.cell? ⟨w.heap.size + 1, 5, none⟩ = some (.int .i64 0) := (Y.cell 5).trans rfl
    have d6 : VV.cell? ⟨w.heap.size + 1, 6, none⟩ = some (.int .i64 0) := (Y.cell 6).trans rfl
    have d7 : VV.cell? ⟨w.heap.size + 1, 7, none⟩ = some (.int .i64 0) := (Y.cell 7).trans rfl
    have d8 : VV.cell? ⟨w.heap.size + 1, 8, none⟩ = some (.string ⟨#[]⟩) := (Y.cell 8).trans rfl
    have d9 : VV.cell? ⟨w.heap.size + 1, 9, none⟩ = some (.slice none 0 0) := (Y.cell 9).trans rfl
    exact bodyPost_ret (v := .agg #[.int .i64 18, .int .i64 0, .int .i64 (A1 - 10), .int .i64 (A2 - 10), .int .i64 0, .int .i64 0, .int .i64 0, .int .i64 0, .string ⟨#[]⟩, .slice none 0 0]) (by simp [results, Tryd.results14, go_sem, d0, d1, d2, d3, d4, d5, d6, d7, d8, d9]) rfl ⟨rfl, GY⟩
  have SK : ∀ V, Bl w0 V → V.cell? ⟨w.heap.size, 0, none⟩ = some (.int .i64 op) ∧ V.cell? ⟨w.heap.size, 1, none⟩ = some (.int .i64 id) ∧ Bl w0 V := fun V g => ⟨((X0.bl g).cell 0).trans rfl, ((X0.bl g).cell 1).trans rfl, g⟩
  replace SK := Lib.hid SK
  replace rest := Lib.hid rest
  go_region_held3 (fun V => V.cell? ⟨w.heap.size, 0, none⟩ = some (.int .i64 op) ∧ V.cell? ⟨w.heap.size, 1, none⟩ = some (.int .i64 id) ∧ Bl w0 V) ((refine SK.out _ ?_; repeat (first | with_reducible assumption | with_reducible exact Bl.refl _ | with_reducible exact (And.right (And.right (by assumption))) | with_reducible exact Bl.gr (And.right (And.right (by assumption))) (by assumption) | with_reducible apply Bl.drew | with_reducible apply Bl.alloc))) ((first | (go_at_call_of 15 (Value.int IntKind.i64 op); (refine (ca _).mono ?_); rintro e V1 ⟨rfl, rfl⟩) | (go_at_call_of 15 (Value.int IntKind.i64 id); (refine (ci _).mono ?_); rintro e V2 ⟨rfl, rfl⟩)))
  all_goals exact rest.out _ (X0.alloc _).drew (At.new w0 _ _).drew (X1.alloc _).drew (G0.alloc _).drew

end Go.Proofs.YthkbenhlhldglaaDoor
