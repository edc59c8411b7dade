/-
  What is proved: what Good of the document makes of Op 2. No conditions but bounds.
-/
import Derived.Test.YthkbenhlhldglaaDoorZo
import Derived.Test.YthkbenhlhldglaaDoorMa
import Derived.Deep.RegionHeld3
namespace Go.Proofs.YthkbenhlhldglaaDoor
open Go.RowKit Go.Sort

set_option maxRecDepth 100000 in
set_option maxHeartbeats 2000000 in
theorem rgood_2 (op id a b x0 y0 x1 y1 : Int) (s : ByteArray) (A : Option Addr) (n c : Nat) (w : World) (I : Int) (hI : 0 ≤ I ∧ I < 9) (A1 A2 A3 A4 : Int) (m9 : Nat) (hA1 : 0 ≤ A1 ∧ A1 < 8) (hA2 : 0 ≤ A2 ∧ A2 < 8) (hA3 : 0 ≤ A3 ∧ A3 < 4) (hA4 : 0 ≤ A4 ∧ A4 < 4)
    (c1 : ∀ V, Calls Tryd.prog 15 #[.int .i64 x0, .int .i64 8] V fun e w' => e = .returned (.int .i64 A1) ∧ V = w')
    (c2 : ∀ V, Calls Tryd.prog 15 #[.int .i64 y0, .int .i64 8] V fun e w' => e = .returned (.int .i64 A2) ∧ V = w')
    (c3 : ∀ V, Calls Tryd.prog 15 #[.int .i64 x1, .int .i64 4] V fun e w' => e = .returned (.int .i64 A3) ∧ V = w')
    (c4 : ∀ V, Calls Tryd.prog 15 #[.int .i64 y1, .int .i64 4] V fun e w' => e = .returned (.int .i64 A4) ∧ V = w')
    (c5 : ∀ V, Bl w V → Calls Tryd.prog 12 #[.slice A n c, .int .i64 64] V fun e w' => e = .returned (.slice A m9 c) ∧ V = w')
    (ca : ∀ V, Calls Tryd.prog 15 #[.int .i64 op, .int .i64 19] V fun e w' => e = .returned (.int .i64 2) ∧ V = w')
    (ci : ∀ V, Calls Tryd.prog 15 #[.int .i64 id, .int .i64 9] V fun e w' => e = .returned (.int .i64 I) ∧ V = w') :
    Calls Tryd.prog 14 #[.agg #[.int .i64 op, .int .i64 id, .int .i64 a, .int .i64 b, .int .i64 x0, .int .i64 y0, .int .i64 x1, .int .i64 y1, .string s, .slice A n c]] w (fun e w' => e = .returned (.agg #[.int .i64 2, .int .i64 (1 + I), .int .i64 0, .int .i64 0, .int .i64 A1, .int .i64 A2, .int .i64 (A1 + 1 + A3), .int .i64 (A2 + 1 + A4), .string ⟨#[]⟩, .slice A m9 c]) ∧ Bl w w') := by
  have u1 : IntKind.i64.wrap (A1 + 1) = A1 + 1 := IntWalk.i64_in _ (by omega)
  have u2 : IntKind.i64.wrap (A2 + 1) = A2 + 1 := IntWalk.i64_in _ (by omega)
  have u3 : IntKind.i64.wrap (A1 + 1 + A3) = A1 + 1 + A3 := IntWalk.i64_in _ (by omega)
  have u4 : IntKind.i64.wrap (A2 + 1 + A4) = A2 + 1 + A4 := IntWalk.i64_in _ (by omega)
  replace hA1 := Lib.hid hA1
  replace hA2 := Lib.hid hA2
  replace hA3 := Lib.hid hA3
  replace hA4 := Lib.hid hA4
  have hw1 : IntKind.i64.wrap (1 + I) = 1 + I := IntWalk.i64_in _ (by omega)
  have X0 := (At.new w #[.int .i64 op, .int .i64 id, .int .i64 a, .int .i64 b, .int .i64 x0, .int .i64 y0, .int .i64 x1, .int .i64 y1, .string s, .slice A n c] 28).alloc (.cells #[.int .i64 0, .int .i64 0, .int .i64 0, .int .i64 0, .int .i64 0, .int .i64 0, .int .i64 0, .int .i64 0, .string ⟨#[]⟩, .slice none 0 0] 28)
  have X1 := At.newAt (w := w.alloc (.cells #[.int .i64 op, .int .i64 id, .int .i64 a, .int .i64 b, .int .i64 x0, .int .i64 y0, .int .i64 x1, .int .i64 y1, .string s, .slice A n c] 28)) (n := w.heap.size + 1) (by simp) #[.int .i64 0, .int .i64 0, .int .i64 0, .int .i64 0, .int .i64 0, .int .i64 0, .int .i64 0, .int .i64 0, .string ⟨#[]⟩, .slice none 0 0] 28
  have G0 : Bl w ((w.alloc (.cells #[.int .i64 op, .int .i64 id, .int .i64 a, .int .i64 b, .int .i64 x0, .int .i64 y0, .int .i64 x1, .int .i64 y1, .string s, .slice A n c] 28)).alloc (.cells #[.int .i64 0, .int .i64 0, .int .i64 0, .int .i64 0, .int .i64 0, .int .i64 0, .int .i64 0, .int .i64 0, .string ⟨#[]⟩, .slice none 0 0] 28)) := ((Bl.refl w).alloc _).alloc _
  go_enter Tryd.func14, Tryd.ntmps14
  go_wp2
  rename_i K hK
  generalize hw0 : ((w.alloc (.cells #[.int .i64 op, .int .i64 id, .int .i64 a, .int .i64 b, .int .i64 x0, .int .i64 y0, .int .i64 x1, .int .i64 y1, .string s, .slice A n c] 28)).alloc (.cells #[.int .i64 0, .int .i64 0, .int .i64 0, .int .i64 0, .int .i64 0, .int .i64 0, .int .i64 0, .int .i64 0, .string ⟨#[]⟩, .slice none 0 0] 28)) = w0 at *
  have L0 := X0.lt
  have L1 := X1.lt
  have hsz0 := G0.size
  have rest : ∀ W, At W w.heap.size #[.int .i64 op, .int .i64 id, .int .i64 a, .int .i64 b, .int .i64 x0, .int .i64 y0, .int .i64 x1, .int .i64 y1, .string s, .slice A n c] 28 → At W w0.heap.size #[.int .i64 2, .int .i64 (1 + I), .int .i64 0, .int .i64 0, .int .i64 0, .int .i64 0, .int .i64 0, .int .i64 0, .string ⟨#[]⟩, .slice none 0 0] 28 → At W (w.heap.size + 1) #[.int .i64 0, .int .i64 0, .int .i64 0, .int .i64 0, .int .i64 0, .int .i64 0, .int .i64 0, .int .i64 0, .string ⟨#[]⟩, .slice none 0 0] 28 → Bl w W → K { tmps := #[.agg #[.int .i64 op, .int .i64 id, .int .i64 a, .int .i64 b, .int .i64 x0, .int .i64 y0, .int .i64 x1, .int .i64 y1, .string s, .slice A n c], .pointer (some ⟨w.heap.size, 0, none⟩), .pointer (some ⟨w.heap.size + 1, 0, none⟩), .pointer (some ⟨w0.heap.size, 0, none⟩), undef, undef, .pointer (some ⟨w.heap.size, 0, none⟩), .int .i64 op, .int .i64 2, .pointer (some ⟨w.heap.size, 1, none⟩), .int .i64 id, .int .i64 I, .int .i64 (1 + I), .agg #[.int .i64 2, .int .i64 (1 + I), .int .i64 0, .int .i64 0, .int .i64 0, .int .i64 0, .int .i64 0, .int .i64 0, .string ⟨#[]⟩, .slice none 0 0], undef, undef, undef, undef, undef, undef, undef, undef, undef, undef, undef, undef, undef, undef, undef, undef, undef, undef, undef, undef, undef, undef, undef, undef, undef, undef, undef, undef, undef, undef, undef, undef, undef, undef, undef, undef, undef, undef, undef, undef, undef, undef, undef, undef, undef, undef, undef, undef, undef, undef, undef, undef, undef, undef, undef, undef, undef, undef, undef, undef, undef, undef, undef, undef, undef, undef, undef, undef, undef, undef, undef, undef, undef, undef, undef, undef, undef, undef, undef, undef, undef, undef, undef, undef, undef, undef, undef, undef, undef, undef, undef, undef, undef, undef, undef, undef, undef, undef, undef, undef, undef], defers := [] } W := by
    intro W X O R G
    clear ca ci X0 X1 G0 hw0
    refine hK _ _ ?_
    have o00 : (W).cell? ⟨w0.heap.size, 0, none⟩ = some (.int .i64 2) := (O.cell 0).trans rfl
    have x4 : (W).cell? ⟨w.heap.size, 4, none⟩ = some (.int .i64 x0) := (X.cell 4).trans rfl
    have x5 : (W).cell? ⟨w.heap.size, 5, none⟩ = some (.int .i64 y0) := (X.cell 5).trans rfl
    go_wp2_with fail
    refine (c1 _).mono ?_
    rintro e V1 ⟨rfl, rfl⟩
    go_wp2_with fail
    refine (c2 _).mono ?_
    rintro e V2 ⟨rfl, rfl⟩
    go_wp2
    have t4 : (W).cell? ⟨w0.heap.size, 4, none⟩ = some (.int .i64 0) := (O.cell 4).trans rfl
    have t4f : (W).frozen? ⟨w0.heap.size, 4, none⟩ = false := O.free 4
    have t5 : (W).cell? ⟨w0.heap.size, 5, none⟩ = some (.int .i64 0) := (O.cell 5).trans rfl
    have t5f : (W).frozen? ⟨w0.heap.size, 5, none⟩ = false := O.free 5
    have t6 : (W).cell? ⟨w0.heap.size, 6, none⟩ = some (.int .i64 0) := (O.cell 6).trans rfl
    have t6f : (W).frozen? ⟨w0.heap.size, 6, none⟩ = false := O.free 6
    have t7 : (W).cell? ⟨w0.heap.size, 7, none⟩ = some (.int .i64 0) := (O.cell 7).trans rfl
    have t7f : (W).frozen? ⟨w0.heap.size, 7, none⟩ = false := O.free 7
    have SK : ∀ V, At V w.heap.size #[.int .i64 op, .int .i64 id, .int .i64 a, .int .i64 b, .int .i64 x0, .int .i64 y0, .int .i64 x1, .int .i64 y1, .string s, .slice A n c] 28 → V.cell? ⟨w.heap.size, 6, none⟩ = some (.int .i64 x1) ∧ V.cell? ⟨w.heap.size, 7, none⟩ = some (.int .i64 y1) := fun V g => ⟨(g.cell 6).trans rfl, (g.cell 7).trans rfl⟩
    replace SK := Lib.hid SK
    go_region_held3 (fun V => V.cell? ⟨w.heap.size, 6, none⟩ = some (.int .i64 x1) ∧ V.cell? ⟨w.heap.size, 7, none⟩ = some (.int .i64 y1)) ((refine SK.out _ ?_; repeat (first | with_reducible assumption | with_reducible exact X | with_reducible apply At.drew | (with_reducible refine At.far ?_ ?_ _; rotate_left; (show w.heap.size ≠ w0.heap.size; omega))))) ((first | (go_at_call_of 15 (Value.int IntKind.i64 x1); (refine (c3 _).mono ?_); rintro e V3 ⟨rfl, rfl⟩) | (go_at_call_of 15 (Value.int IntKind.i64 y1); (refine (c4 _).mono ?_); rintro e V4 ⟨rfl, rfl⟩)))
    clear t4 t4f t5 t5f t6 t6f t7 t7f SK
    have OO1 := O.put 4 (.int .i64 A1)
    have O1q : At (W.setCell ⟨w0.heap.size, 4, none⟩ (.int .i64 A1)) w0.heap.size #[.int .i64 2, .int .i64 (1 + I), .int .i64 0, .int .i64 0, .int .i64 A1, .int .i64 0, .int .i64 0, .int .i64 0, .string ⟨#[]⟩, .slice none 0 0] 28 := by simpa using OO1
    have X1q : At (W.setCell ⟨w0.heap.size, 4, none⟩ (.int .i64 A1)) w.heap.size #[.int .i64 op, .int .i64 id, .int .i64 a, .int .i64 b, .int .i64 x0, .int .i64 y0, .int .i64 x1, .int .i64 y1, .string s, .slice A n c] 28 := X.far (by simp; omega) (.int .i64 A1)
    have R1q : At (W.setCell ⟨w0.heap.size, 4, none⟩ (.int .i64 A1)) (w.heap.size + 1) #[.int .i64 0, .int .i64 0, .int .i64 0, .int .i64 0, .int .i64 0, .int .i64 0, .int .i64 0, .int .i64 0, .string ⟨#[]⟩, .slice none 0 0] 28 := R.far (by simp; omega) (.int .i64 A1)
    have G1q : Bl w (W.setCell ⟨w0.heap.size, 4, none⟩ (.int .i64 A1)) := G.setCell (p := ⟨w0.heap.size, 4, none⟩) (by simp; omega) (.int .i64 A1)
    clear OO1
    have OO2 := O1q.put 5 (.int .i64 A2)
    have O2q : At ((W.setCell ⟨w0.heap.size, 4, none⟩ (.int .i64 A1)).setCell ⟨w0.heap.size, 5, none⟩ (.int .i64 A2)) w0.heap.size #[.int .i64 2, .int .i64 (1 + I), .int .i64 0, .int .i64 0, .int .i64 A1, .int .i64 A2, .int .i64 0, .int .i64 0, .string ⟨#[]⟩, .slice none 0 0] 28 := by simpa using OO2
    have X2q : At ((W.setCell ⟨w0.heap.size, 4, none⟩ (.int .i64 A1)).setCell ⟨w0.heap.size, 5, none⟩ (.int .i64 A2)) w.heap.size #[.int .i64 op, .int .i64 id, .int .i64 a, .int .i64 b, .int .i64 x0, .int .i64 y0, .int .i64 x1, .int .i64 y1, .string s, .slice A n c] 28 := X1q.far (by simp; omega) (.int .i64 A2)
    have R2q : At ((W.setCell ⟨w0.heap.size, 4, none⟩ (.int .i64 A1)).setCell ⟨w0.heap.size, 5, none⟩ (.int .i64 A2)) (w.heap.size + 1) #[.int .i64 0, .int .i64 0, .int .i64 0, .int .i64 0, .int .i64 0, .int .i64 0, .int .i64 0, .int .i64 0, .string ⟨#[]⟩, .slice none 0 0] 28 := R1q.far (by simp; omega) (.int .i64 A2)
    have G2q : Bl w ((W.setCell ⟨w0.heap.size, 4, none⟩ (.int .i64 A1)).setCell ⟨w0.heap.size, 5, none⟩ (.int .i64 A2)) := G1q.setCell (p := ⟨w0.heap.size, 5, none⟩) (by simp; omega) (.int .i64 A2)
    clear OO2
    have OO3 := O2q.put 6 (.int .i64 (A1 + 1 + A3))
    have O3q : At (((W.setCell ⟨w0.heap.size, 4, none⟩ (.int .i64 A1)).setCell ⟨w0.heap.size, 5, none⟩ (.int .i64 A2)).setCell ⟨w0.heap.size, 6, none⟩ (.int .i64 (A1 + 1 + A3))) w0.heap.size #[.int .i64 2, .int .i64 (1 + I), .int .i64 0, .int .i64 0, .int .i64 A1, .int .i64 A2, .int .i64 (A1 + 1 + A3), .int .i64 0, .string ⟨#[]⟩, .slice none 0 0] 28 := by simpa using OO3
    have X3q : At (((W.setCell ⟨w0.heap.size, 4, none⟩ (.int .i64 A1)).setCell ⟨w0.heap.size, 5, none⟩ (.int .i64 A2)).setCell ⟨w0.heap.size, 6, none⟩ (.int .i64 (A1 + 1 + A3))) w.heap.size #[.int .i64 op, .int .i64 id, .int .i64 a, .int .i64 b, .int .i64 x0, .int .i64 y0, .int .i64 x1, .int .i64 y1, .string s, .slice A n c] 28 := X2q.far (by simp; omega) (.int .i64 (A1 + 1 + A3))
    have R3q : At (((W.setCell ⟨w0.heap.size, 4, none⟩ (.int .i64 A1)).setCell ⟨w0.heap.size, 5, none⟩ (.int .i64 A2)).setCell ⟨w0.heap.size, 6, none⟩ (.int .i64 (A1 + 1 + A3))) (w.heap.size + 1) #[.int .i64 0, .int .i64 0, .int .i64 0, .int .i64 0, .int .i64 0, .int .i64 0, .int .i64 0, .int .i64 0, .string ⟨#[]⟩, .slice none 0 0] 28 := R2q.far (by simp; omega) (.int .i64 (A1 + 1 + A3))
    have G3q : Bl w (((W.setCell ⟨w0.heap.size, 4, none⟩ (.int .i64 A1)).setCell ⟨w0.heap.size, 5, none⟩ (.int .i64 A2)).setCell ⟨w0.heap.size, 6, none⟩ (.int .i64 (A1 + 1 + A3))) := G2q.setCell (p := ⟨w0.heap.size, 6, none⟩) (by simp; omega) (.int .i64 (A1 + 1 + A3))
    clear OO3
    have OO4 := O3q.put 7 (.int .i64 (A2 + 1 + A4))
    have O4q : At ((((W.setCell ⟨w0.heap.size, 4, none⟩ (.int .i64 A1)).setCell ⟨w0.heap.size, 5, none⟩ (.int .i64 A2)).setCell ⟨w0.heap.size, 6, none⟩ (.int .i64 (A1 + 1 + A3))).setCell ⟨w0.heap.size, 7, none⟩ (.int .i64 (A2 + 1 + A4))) w0.heap.size #[.int .i64 2, .int .i64 (1 + I), .int .i64 0, .int .i64 0, .int .i64 A1, .int .i64 A2, .int .i64 (A1 + 1 + A3), .int .i64 (A2 + 1 + A4), .string ⟨#[]⟩, .slice none 0 0] 28 := by simpa using OO4
    have X4q : At ((((W.setCell ⟨w0.heap.size, 4, none⟩ (.int .i64 A1)).setCell ⟨w0.heap.size, 5, none⟩ (.int .i64 A2)).setCell ⟨w0.heap.size, 6, none⟩ (.int .i64 (A1 + 1 + A3))).setCell ⟨w0.heap.size, 7, none⟩ (.int .i64 (A2 + 1 + A4))) w.heap.size #[.int .i64 op, .int .i64 id, .int .i64 a, .int .i64 b, .int .i64 x0, .int .i64 y0, .int .i64 x1, .int .i64 y1, .string s, .slice A n c] 28 := X3q.far (by simp; omega) (.int .i64 (A2 + 1 + A4))
    have R4q : At ((((W.setCell ⟨w0.heap.size, 4, none⟩ (.int .i64 A1)).setCell ⟨w0.heap.size, 5, none⟩ (.int .i64 A2)).setCell ⟨w0.heap.size, 6, none⟩ (.int .i64 (A1 + 1 + A3))).setCell ⟨w0.heap.size, 7, none⟩ (.int .i64 (A2 + 1 + A4))) (w.heap.size + 1) #[.int .i64 0, .int .i64 0, .int .i64 0, .int .i64 0, .int .i64 0, .int .i64 0, .int .i64 0, .int .i64 0, .string ⟨#[]⟩, .slice none 0 0] 28 := R3q.far (by simp; omega) (.int .i64 (A2 + 1 + A4))
    have G4q : Bl w ((((W.setCell ⟨w0.heap.size, 4, none⟩ (.int .i64 A1)).setCell ⟨w0.heap.size, 5, none⟩ (.int .i64 A2)).setCell ⟨w0.heap.size, 6, none⟩ (.int .i64 (A1 + 1 + A3))).setCell ⟨w0.heap.size, 7, none⟩ (.int .i64 (A2 + 1 + A4))) := G3q.setCell (p := ⟨w0.heap.size, 7, none⟩) (by simp; omega) (.int .i64 (A2 + 1 + A4))
    clear OO4
    have X9 := X4q.drew
    have O9 := O4q.drew
    have R9 := R4q.drew
    have G9 := G4q.drew
    generalize ((((W.setCell ⟨w0.heap.size, 4, none⟩ (.int .i64 A1)).setCell ⟨w0.heap.size, 5, none⟩ (.int .i64 A2)).setCell ⟨w0.heap.size, 6, none⟩ (.int .i64 (A1 + 1 + A3))).setCell ⟨w0.heap.size, 7, none⟩ (.int .i64 (A2 + 1 + A4))).drew = UU at *
    have x9 : (UU).cell? ⟨w.heap.size, 9, none⟩ = some (.slice A n c) := (X9.cell 9).trans rfl
    go_wp2_with fail
    refine (c5 _ G9).mono ?_
    rintro e V5 ⟨rfl, rfl⟩
    have s9 : (UU).cell? ⟨w0.heap.size, 9, none⟩ = some (.slice none 0 0) := (O9.cell 9).trans rfl
    have s9f : (UU).frozen? ⟨w0.heap.size, 9, none⟩ = false := O9.free 9
    have OO5 := O9.put 9 (.slice A m9 c)
    have O5q : At (UU.setCell ⟨w0.heap.size, 9, none⟩ (.slice A m9 c)) w0.heap.size #[.int .i64 2, .int .i64 (1 + I), .int .i64 0, .int .i64 0, .int .i64 A1, .int .i64 A2, .int .i64 (A1 + 1 + A3), .int .i64 (A2 + 1 + A4), .string ⟨#[]⟩, .slice A m9 c] 28 := by simpa using OO5
    have X5q : At (UU.setCell ⟨w0.heap.size, 9, none⟩ (.slice A m9 c)) w.heap.size #[.int .i64 op, .int .i64 id, .int .i64 a, .int .i64 b, .int .i64 x0, .int .i64 y0, .int .i64 x1, .int .i64 y1, .string s, .slice A n c] 28 := X9.far (by simp; omega) (.slice A m9 c)
    have R5q : At (UU.setCell ⟨w0.heap.size, 9, none⟩ (.slice A m9 c)) (w.heap.size + 1) #[.int .i64 0, .int .i64 0, .int .i64 0, .int .i64 0, .int .i64 0, .int .i64 0, .int .i64 0, .int .i64 0, .string ⟨#[]⟩, .slice none 0 0] 28 := R9.far (by simp; omega) (.slice A m9 c)
    have G5q : Bl w (UU.setCell ⟨w0.heap.size, 9, none⟩ (.slice A m9 c)) := G9.setCell (p := ⟨w0.heap.size, 9, none⟩) (by simp; omega) (.slice A m9 c)
    clear OO5
    have e0 : ((UU.setCell ⟨w0.heap.size, 9, none⟩ (.slice A m9 c))).cell? ⟨w0.heap.size, 0, none⟩ = some (.int .i64 2) := (O5q.cell 0).trans rfl
    have r0 : ((UU.setCell ⟨w0.heap.size, 9, none⟩ (.slice A m9 c))).cell? ⟨w.heap.size + 1, 0, none⟩ = some (.int .i64 0) := (R5q.cell 0).trans rfl
    have r0f : ((UU.setCell ⟨w0.heap.size, 9, none⟩ (.slice A m9 c))).frozen? ⟨w.heap.size + 1, 0, none⟩ = false := R5q.free 0
    have e1 : ((UU.setCell ⟨w0.heap.size, 9, none⟩ (.slice A m9 c))).cell? ⟨w0.heap.size, 1, none⟩ = some (.int .i64 (1 + I)) := (O5q.cell 1).trans rfl
    have r1 : ((UU.setCell ⟨w0.heap.size, 9, none⟩ (.slice A m9 c))).cell? ⟨w.heap.size + 1, 1, none⟩ = some (.int .i64 0) := (R5q.cell 1).trans rfl
    have r1f : ((UU.setCell ⟨w0.heap.size, 9, none⟩ (.slice A m9 c))).frozen? ⟨w.heap.size + 1, 1, none⟩ = false := R5q.free 1
    have e2 : ((UU.setCell ⟨w0.heap.size, 9, none⟩ (.slice A m9 c))).cell? ⟨w0.heap.size, 2, none⟩ = some (.int .i64 0) := (O5q.cell 2).trans rfl
    have r2 : ((UU.setCell ⟨w0.heap.size, 9, none⟩ (.slice A m9 c))).cell? ⟨w.heap.size + 1, 2, none⟩ = some (.int .i64 0) := (R5q.cell 2).trans rfl
    have r2f : ((UU.setCell ⟨w0.heap.size, 9, none⟩ (.slice A m9 c))).frozen? ⟨w.heap.size + 1, 2, none⟩ = false := R5q.free 2
    have e3 : ((UU.setCell ⟨w0.heap.size, 9, none⟩ (.slice A m9 c))).cell? ⟨w0.heap.size, 3, none⟩ = some (.int .i64 0) := (O5q.cell 3).trans rfl
    have r3 : ((UU.setCell ⟨w0.heap.size, 9, none⟩ (.slice A m9 c))).cell? ⟨w.heap.size + 1, 3, none⟩ = some (.int .i64 0) := (R5q.cell 3).trans rfl
    have r3f : ((UU.setCell ⟨w0.heap.size, 9, none⟩ (.slice A m9 c))).frozen? ⟨w.heap.size + 1, 3, none⟩ = false := R5q.free 3
    have e4 : ((UU.setCell ⟨w0.heap.size, 9, none⟩ (.slice A m9 c))).cell? ⟨w0.heap.size, 4, none⟩ = some (.int .i64 A1) := (O5q.cell 4).trans rfl
    have r4 : ((UU.setCell ⟨w0.heap.size, 9, none⟩ (.slice A m9 c))).cell? ⟨w.heap.size + 1, 4, none⟩ = some (.int .i64 0) := (R5q.cell 4).trans rfl
    have r4f : ((UU.setCell ⟨w0.heap.size, 9, none⟩ (.slice A m9 c))).frozen? ⟨w.heap.size + 1, 4, none⟩ = false := R5q.free 4
    have e5 : ((UU.setCell ⟨w0.heap.size, 9, none⟩ (.slice A m9 c))).cell? ⟨w0.heap.size, 5, none⟩ = some (.int .i64 A2) := (O5q.cell 5).trans rfl
    have r5 : ((UU.setCell ⟨w0.heap.size, 9, none⟩ (.slice A m9 c))).cell? ⟨w.heap.size + 1, 5, none⟩ = some (.int .i64 0) := (R5q.cell 5).trans rfl
    have r5f : ((UU.setCell ⟨w0.heap.size, 9, none⟩ (.slice A m9 c))).frozen? ⟨w.heap.size + 1, 5, none⟩ = false := R5q.free 5
    have e6 : ((UU.setCell ⟨w0.heap.size, 9, none⟩ (.slice A m9 c))).cell? ⟨w0.heap.size, 6, none⟩ = some (.int .i64 (A1 + 1 + A3)) := (O5q.cell 6).trans rfl
    have r6 : ((UU.setCell ⟨w0.heap.size, 9, none⟩ (.slice A m9 c))).cell? ⟨w.heap.size + 1, 6, none⟩ = some (.int .i64 0) := (R5q.cell 6).trans rfl
    have r6f : ((UU.setCell ⟨w0.heap.size, 9, none⟩ (.slice A m9 c))).frozen? ⟨w.heap.size + 1, 6, none⟩ = false := R5q.free 6
    have e7 : ((UU.setCell ⟨w0.heap.size, 9, none⟩ (.slice A m9 c))).cell? ⟨w0.heap.size, 7, none⟩ = some (.int .i64 (A2 + 1 + A4)) := (O5q.cell 7).trans rfl
    have r7 : ((UU.setCell ⟨w0.heap.size, 9, none⟩ (.slice A m9 c))).cell? ⟨w.heap.size + 1, 7, none⟩ = some (.int .i64 0) := (R5q.cell 7).trans rfl
    have r7f : ((UU.setCell ⟨w0.heap.size, 9, none⟩ (.slice A m9 c))).frozen? ⟨w.heap.size + 1, 7, none⟩ = false := R5q.free 7
    have e8 : ((UU.setCell ⟨w0.heap.size, 9, none⟩ (.slice A m9 c))).cell? ⟨w0.heap.size, 8, none⟩ = some (.string ⟨#[]⟩) := (O5q.cell 8).trans rfl
    have r8 : ((UU.setCell ⟨w0.heap.size, 9, none⟩ (.slice A m9 c))).cell? ⟨w.heap.size + 1, 8, none⟩ = some (.string ⟨#[]⟩) := (R5q.cell 8).trans rfl
    have r8f : ((UU.setCell ⟨w0.heap.size, 9, none⟩ (.slice A m9 c))).frozen? ⟨w.heap.size + 1, 8, none⟩ = false := R5q.free 8
    have e9 : ((UU.setCell ⟨w0.heap.size, 9, none⟩ (.slice A m9 c))).cell? ⟨w0.heap.size, 9, none⟩ = some (.slice A m9 c) := (O5q.cell 9).trans rfl
    have r9 : ((UU.setCell ⟨w0.heap.size, 9, none⟩ (.slice A m9 c))).cell? ⟨w.heap.size + 1, 9, none⟩ = some (.slice none 0 0) := (R5q.cell 9).trans rfl
    have r9f : ((UU.setCell ⟨w0.heap.size, 9, none⟩ (.slice A m9 c))).frozen? ⟨w.heap.size + 1, 9, none⟩ = false := R5q.free 9
    go_wp2
    have Y := put10_at R5q (.int .i64 2) (.int .i64 (1 + I)) (.int .i64 0) (.int .i64 0) (.int .i64 A1) (.int .i64 A2) (.int .i64 (A1 + 1 + A3)) (.int .i64 (A2 + 1 + A4)) (.string ⟨#[]⟩) (.slice A m9 c)
    have GY := put10_bl (b := w.heap.size + 1) G5q (by omega) (.int .i64 2) (.int .i64 (1 + I)) (.int .i64 0) (.int .i64 0) (.int .i64 A1) (.int .i64 A2) (.int .i64 (A1 + 1 + A3)) (.int .i64 (A2 + 1 + A4)) (.string ⟨#[]⟩) (.slice A m9 c)
    clear e0 r0 r0f e1 r1 r1f e2 r2 r2f e3 r3 r3f e4 r4 r4f e5 r5 r5f e6 r6 r6f e7 r7 r7f e8 r8 r8f e9 r9 r9f
    generalize (((((((((((UU.setCell ⟨w0.heap.size, 9, none⟩ (.slice A m9 c)).setCell ⟨w.heap.size + 1, 0, none⟩ (.int .i64 2)).setCell ⟨w.heap.size + 1, 1, none⟩ (.int .i64 (1 + I))).setCell ⟨w.heap.size + 1, 2, none⟩ (.int .i64 0)).setCell ⟨w.heap.size + 1, 3, none⟩ (.int .i64 0)).setCell ⟨w.heap.size + 1, 4, none⟩ (.int .i64 A1)).setCell ⟨w.heap.size + 1, 5, none⟩ (.int .i64 A2)).setCell ⟨w.heap.size + 1, 6, none⟩ (.int .i64 (A1 + 1 + A3))).setCell ⟨w.heap.size + 1, 7, none⟩ (.int .i64 (A2 + 1 + A4))).setCell ⟨w.heap.size + 1, 8, none⟩ (.string ⟨#[]⟩)).setCell ⟨w.heap.size + 1, 9, none⟩ (.slice A m9 c)) = VV at *
    have d0 : VV.cell? ⟨w.heap.size + 1, 0, none⟩ = some (.int .i64 2) := (Y.cell 0).trans rfl
    have d1 : VV.cell? ⟨w.heap.size + 1, 1, none⟩ = some (.int .i64 (1 + I)) := (Y.cell 1).trans rfl
    have d2 : VV.cell? ⟨w.heap.size + 1, 2, none⟩ = some (.int .i64 0) := (Y.cell 2).trans rfl
    have d3 : VV.cell? ⟨w.heap.size + 1, 3, none⟩ = some (.int .i64 0) := (Y.cell 3).trans rfl
    have d4 : VV.cell? ⟨w.heap.size + 1, 4, none⟩ = some (.int .i64 A1) := (Y.cell 4).trans rfl
    have d5 : VV.cell? ⟨w.heap.size + 1, 5, none⟩ = some (.int .i64 A2) := (Y.cell 5).trans rfl
    have d6 : VV.cell? ⟨w.heap.size + 1, 6, none⟩ = some (.int .i64 (A1 + 1 + A3)) := (Y.cell 6).trans rfl
    have d7 : VV.cell? ⟨w.heap.size + 1, 7, none⟩ = some (.int .i64 (A2 + 1 + A4)) := (Y.cell 7).trans rfl
    have d8 : VV.cell? ⟨w.heap.size + 1, 8, none⟩ = some (.string ⟨#[]⟩) := (Y.cell 8).trans rfl
    have d9 : VV.cell? ⟨w.heap.size + 1, 9, none⟩ = some (.slice A m9 c) := (Y.cell 9).trans rfl
    exact bodyPost_ret (v := .agg #[.int .i64 2, .int .i64 (1 + I), .int .i64 0, .int .i64 0, .int .i64 A1, .int .i64 A2, .int .i64 (A1 + 1 + A3), .int .i64 (A2 + 1 + A4), .string ⟨#[]⟩, .slice A m9 c]) (by simp [results, Tryd.results14, go_sem, d0, d1, d2, d3, d4, d5, d6, d7, d8, d9]) rfl ⟨rfl, GY⟩
  have SK : ∀ V, Bl w0 V → V.cell? ⟨w.heap.size, 0, none⟩ = some (.int .i64 op) ∧ V.cell? ⟨w.heap.size, 1, none⟩ = some (.int .i64 id) ∧ Bl w0 V := fun V g => ⟨((X0.bl g).cell 0).trans rfl, ((X0.bl g).cell 1).trans rfl, g⟩
  replace SK := Lib.hid SK
  replace rest := Lib.hid rest
  go_region_held3 (fun V => V.cell? ⟨w.heap.size, 0, none⟩ = some (.int .i64 op) ∧ V.cell? ⟨w.heap.size, 1, none⟩ = some (.int .i64 id) ∧ Bl w0 V) ((refine SK.out _ ?_; repeat (first | with_reducible assumption | with_reducible exact Bl.refl _ | with_reducible exact (And.right (And.right (by assumption))) | with_reducible exact Bl.gr (And.right (And.right (by assumption))) (by assumption) | with_reducible apply Bl.drew | with_reducible apply Bl.alloc))) ((first | (go_at_call_of 15 (Value.int IntKind.i64 op); (refine (ca _).mono ?_); rintro e V1 ⟨rfl, rfl⟩) | (go_at_call_of 15 (Value.int IntKind.i64 id); (refine (ci _).mono ?_); rintro e V2 ⟨rfl, rfl⟩)))
  all_goals exact rest.out _ (X0.alloc _).drew (At.new w0 _ _).drew (X1.alloc _).drew (G0.alloc _).drew

end Go.Proofs.YthkbenhlhldglaaDoor
