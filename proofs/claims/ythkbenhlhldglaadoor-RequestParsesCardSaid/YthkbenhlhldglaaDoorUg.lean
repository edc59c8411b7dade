/-
  What is proved: what put of the document's package hands back of an argument of every kind and a letter. No conditions but bounds.
-/
import Derived.Test.YthkbenhlhldglaaDoorUf
namespace Go.Proofs.YthkbenhlhldglaaDoor
open Go.RowKit Go.Sort

/-- Bytes are handed back. -/
def PutQ (w : World) (M : List Int) (e : Ending) (w' : World) : Prop := ∃ A' c', e = .returned (.tuple #[.slice A' M.length c', .bool true]) ∧ Sv w' (.slice A' M.length c') M ∧ Bl w w'

set_option maxRecDepth 100000 in
set_option maxHeartbeats 4000000 in
theorem putNoI1 (k n : Int) (s : ByteArray) (x0 y0 x1 y1 : Int) (v : Value) (w : World) (h : ¬ k = 0) :
    Calls Tryd.prog 67 #[.int .u8 105, .agg #[.int .i64 k, .int .i64 n, .string s, .int .i64 x0, .int .i64 y0, .int .i64 x1, .int .i64 y1, v]] w (NoQ w) := by
  have a0 := At.new w #[.int .i64 k, .int .i64 n, .string s, .int .i64 x0, .int .i64 y0, .int .i64 x1, .int .i64 y1, v] 88
  have G0 : Bl w (w.alloc (.cells #[.int .i64 k, .int .i64 n, .string s, .int .i64 x0, .int .i64 y0, .int .i64 x1, .int .i64 y1, v] 88)) := (Bl.refl w).alloc _
  replace a0 := Lib.hid a0
  replace G0 := Lib.hid G0
  go_enter Tryd.func67, Tryd.ntmps67
  go_wp2
  go_ret2
  exact ⟨rfl, G0.out⟩

set_option maxRecDepth 100000 in
set_option maxHeartbeats 4000000 in
theorem putNoU1 (k n : Int) (s : ByteArray) (x0 y0 x1 y1 : Int) (v : Value) (w : World) (h : ¬ k = 0) :
    Calls Tryd.prog 67 #[.int .u8 117, .agg #[.int .i64 k, .int .i64 n, .string s, .int .i64 x0, .int .i64 y0, .int .i64 x1, .int .i64 y1, v]] w (NoQ w) := by
  have a0 := At.new w #[.int .i64 k, .int .i64 n, .string s, .int .i64 x0, .int .i64 y0, .int .i64 x1, .int .i64 y1, v] 88
  have G0 : Bl w (w.alloc (.cells #[.int .i64 k, .int .i64 n, .string s, .int .i64 x0, .int .i64 y0, .int .i64 x1, .int .i64 y1, v] 88)) := (Bl.refl w).alloc _
  replace a0 := Lib.hid a0
  replace G0 := Lib.hid G0
  go_enter Tryd.func67, Tryd.ntmps67
  go_wp2
  go_ret2
  exact ⟨rfl, G0.out⟩

set_option maxRecDepth 100000 in
set_option maxHeartbeats 4000000 in
theorem putNoS1 (k n : Int) (s : ByteArray) (x0 y0 x1 y1 : Int) (v : Value) (w : World) (h : ¬ k = 1) :
    Calls Tryd.prog 67 #[.int .u8 115, .agg #[.int .i64 k, .int .i64 n, .string s, .int .i64 x0, .int .i64 y0, .int .i64 x1, .int .i64 y1, v]] w (NoQ w) := by
  have a0 := At.new w #[.int .i64 k, .int .i64 n, .string s, .int .i64 x0, .int .i64 y0, .int .i64 x1, .int .i64 y1, v] 88
  have G0 : Bl w (w.alloc (.cells #[.int .i64 k, .int .i64 n, .string s, .int .i64 x0, .int .i64 y0, .int .i64 x1, .int .i64 y1, v] 88)) := (Bl.refl w).alloc _
  replace a0 := Lib.hid a0
  replace G0 := Lib.hid G0
  go_enter Tryd.func67, Tryd.ntmps67
  go_wp2
  go_ret2
  exact ⟨rfl, G0.out⟩

set_option maxRecDepth 100000 in
set_option maxHeartbeats 4000000 in
theorem putNoR1 (k n : Int) (s : ByteArray) (x0 y0 x1 y1 : Int) (v : Value) (w : World) (h : ¬ k = 2) :
    Calls Tryd.prog 67 #[.int .u8 114, .agg #[.int .i64 k, .int .i64 n, .string s, .int .i64 x0, .int .i64 y0, .int .i64 x1, .int .i64 y1, v]] w (NoQ w) := by
  have a0 := At.new w #[.int .i64 k, .int .i64 n, .string s, .int .i64 x0, .int .i64 y0, .int .i64 x1, .int .i64 y1, v] 88
  have G0 : Bl w (w.alloc (.cells #[.int .i64 k, .int .i64 n, .string s, .int .i64 x0, .int .i64 y0, .int .i64 x1, .int .i64 y1, v] 88)) := (Bl.refl w).alloc _
  replace a0 := Lib.hid a0
  replace G0 := Lib.hid G0
  go_enter Tryd.func67, Tryd.ntmps67
  go_wp2
  go_ret2
  exact ⟨rfl, G0.out⟩

set_option maxRecDepth 100000 in
set_option maxHeartbeats 4000000 in
theorem putNoB1 (k n : Int) (s : ByteArray) (x0 y0 x1 y1 : Int) (v : Value) (w : World) (h : ¬ k = 3) :
    Calls Tryd.prog 67 #[.int .u8 98, .agg #[.int .i64 k, .int .i64 n, .string s, .int .i64 x0, .int .i64 y0, .int .i64 x1, .int .i64 y1, v]] w (NoQ w) := by
  have a0 := At.new w #[.int .i64 k, .int .i64 n, .string s, .int .i64 x0, .int .i64 y0, .int .i64 x1, .int .i64 y1, v] 88
  have G0 : Bl w (w.alloc (.cells #[.int .i64 k, .int .i64 n, .string s, .int .i64 x0, .int .i64 y0, .int .i64 x1, .int .i64 y1, v] 88)) := (Bl.refl w).alloc _
  replace a0 := Lib.hid a0
  replace G0 := Lib.hid G0
  go_enter Tryd.func67, Tryd.ntmps67
  go_wp2
  go_ret2
  exact ⟨rfl, G0.out⟩

set_option maxRecDepth 100000 in
set_option maxHeartbeats 4000000 in
theorem putNo (k n : Int) (s : ByteArray) (x0 y0 x1 y1 : Int) (v : Value) (x : Nat) (w : World) (h1 : ¬ (x : Int) = 105) (h2 : ¬ (x : Int) = 117) (h3 : ¬ (x : Int) = 115) (h4 : ¬ (x : Int) = 114) (h5 : ¬ (x : Int) = 98) :
    Calls Tryd.prog 67 #[.int .u8 x, .agg #[.int .i64 k, .int .i64 n, .string s, .int .i64 x0, .int .i64 y0, .int .i64 x1, .int .i64 y1, v]] w (NoQ w) := by
  have a0 := At.new w #[.int .i64 k, .int .i64 n, .string s, .int .i64 x0, .int .i64 y0, .int .i64 x1, .int .i64 y1, v] 88
  have G0 : Bl w (w.alloc (.cells #[.int .i64 k, .int .i64 n, .string s, .int .i64 x0, .int .i64 y0, .int .i64 x1, .int .i64 y1, v] 88)) := (Bl.refl w).alloc _
  replace a0 := Lib.hid a0
  replace G0 := Lib.hid G0
  go_enter Tryd.func67, Tryd.ntmps67
  go_wp2
  go_ret2
  exact ⟨rfl, G0.out⟩

set_option maxRecDepth 100000 in
set_option maxHeartbeats 4000000 in
theorem putNoI2 (n : Int) (s : ByteArray) (x0 y0 x1 y1 : Int) (v : Value) (w : World) (h : smallB n = false) :
    Calls Tryd.prog 67 #[.int .u8 105, .agg #[.int .i64 0, .int .i64 n, .string s, .int .i64 x0, .int .i64 y0, .int .i64 x1, .int .i64 y1, v]] w (NoQ w) := by
  have a0 := At.new w #[.int .i64 0, .int .i64 n, .string s, .int .i64 x0, .int .i64 y0, .int .i64 x1, .int .i64 y1, v] 88
  have G0 : Bl w (w.alloc (.cells #[.int .i64 0, .int .i64 n, .string s, .int .i64 x0, .int .i64 y0, .int .i64 x1, .int .i64 y1, v] 88)) := (Bl.refl w).alloc _
  replace a0 := Lib.hid a0
  replace G0 := Lib.hid G0
  have c1 := fun V => smallV1 n V
  rw [h] at c1
  replace h := Lib.hid h
  go_enter Tryd.func67, Tryd.ntmps67
  go_wp2_with fail
  refine (c1 _).mono ?_
  rintro e w2 ⟨rfl, g2⟩
  go_wp2
  go_ret2
  exact ⟨rfl, G0.out.gr g2⟩

set_option maxRecDepth 100000 in
set_option maxHeartbeats 4000000 in
theorem putNoU2 (n : Int) (s : ByteArray) (x0 y0 x1 y1 : Int) (v : Value) (w : World) (h : ¬ (0 ≤ n ∧ n ≤ 4294967295)) :
    Calls Tryd.prog 67 #[.int .u8 117, .agg #[.int .i64 0, .int .i64 n, .string s, .int .i64 x0, .int .i64 y0, .int .i64 x1, .int .i64 y1, v]] w (NoQ w) := by
  have a0 := At.new w #[.int .i64 0, .int .i64 n, .string s, .int .i64 x0, .int .i64 y0, .int .i64 x1, .int .i64 y1, v] 88
  have G0 : Bl w (w.alloc (.cells #[.int .i64 0, .int .i64 n, .string s, .int .i64 x0, .int .i64 y0, .int .i64 x1, .int .i64 y1, v] 88)) := (Bl.refl w).alloc _
  replace a0 := Lib.hid a0
  replace G0 := Lib.hid G0
  go_enter Tryd.func67, Tryd.ntmps67
  by_cases h0 : 0 ≤ n
  · have h1 : ¬ n ≤ 4294967295 := fun h' => h ⟨h0, h'⟩
    clear h
    go_wp2
    go_ret2
    exact ⟨rfl, G0.out⟩
  · clear h
    go_wp2
    go_ret2
    exact ⟨rfl, G0.out⟩

set_option maxRecDepth 100000 in
set_option maxHeartbeats 4000000 in
theorem putNoS2 (n : Int) (s : ByteArray) (x0 y0 x1 y1 : Int) (v : Value) (w : World) (h : ¬ s.size ≤ 255) :
    Calls Tryd.prog 67 #[.int .u8 115, .agg #[.int .i64 1, .int .i64 n, .string s, .int .i64 x0, .int .i64 y0, .int .i64 x1, .int .i64 y1, v]] w (NoQ w) := by
  have a0 := At.new w #[.int .i64 1, .int .i64 n, .string s, .int .i64 x0, .int .i64 y0, .int .i64 x1, .int .i64 y1, v] 88
  have G0 : Bl w (w.alloc (.cells #[.int .i64 1, .int .i64 n, .string s, .int .i64 x0, .int .i64 y0, .int .i64 x1, .int .i64 y1, v] 88)) := (Bl.refl w).alloc _
  replace a0 := Lib.hid a0
  replace G0 := Lib.hid G0
  have h' : ¬ (s.size : Int) ≤ 255 := by omega
  go_enter Tryd.func67, Tryd.ntmps67
  go_wp2
  go_ret2
  exact ⟨rfl, G0.out⟩

set_option maxRecDepth 100000 in
set_option maxHeartbeats 4000000 in
theorem putNoB2 (n : Int) (s : ByteArray) (x0 y0 x1 y1 : Int) (A : Option Addr) (m c : Nat) (w : World) (h : ¬ (m : Int) ≤ 4096) :
    Calls Tryd.prog 67 #[.int .u8 98, .agg #[.int .i64 3, .int .i64 n, .string s, .int .i64 x0, .int .i64 y0, .int .i64 x1, .int .i64 y1, .slice A m c]] w (NoQ w) := by
  have a0 := At.new w #[.int .i64 3, .int .i64 n, .string s, .int .i64 x0, .int .i64 y0, .int .i64 x1, .int .i64 y1, .slice A m c] 88
  have G0 : Bl w (w.alloc (.cells #[.int .i64 3, .int .i64 n, .string s, .int .i64 x0, .int .i64 y0, .int .i64 x1, .int .i64 y1, .slice A m c] 88)) := (Bl.refl w).alloc _
  replace a0 := Lib.hid a0
  replace G0 := Lib.hid G0
  go_enter Tryd.func67, Tryd.ntmps67
  go_wp2
  go_ret2
  exact ⟨rfl, G0.out⟩

set_option maxRecDepth 100000 in
set_option maxHeartbeats 4000000 in
theorem putNoR20 (n : Int) (s : ByteArray) (x0 y0 x1 y1 : Int) (v : Value) (w : World) (h0 : smallB x0 = false) :
    Calls Tryd.prog 67 #[.int .u8 114, .agg #[.int .i64 2, .int .i64 n, .string s, .int .i64 x0, .int .i64 y0, .int .i64 x1, .int .i64 y1, v]] w (NoQ w) := by
  have a0 := At.new w #[.int .i64 2, .int .i64 n, .string s, .int .i64 x0, .int .i64 y0, .int .i64 x1, .int .i64 y1, v] 88
  have G0 : Bl w (w.alloc (.cells #[.int .i64 2, .int .i64 n, .string s, .int .i64 x0, .int .i64 y0, .int .i64 x1, .int .i64 y1, v] 88)) := (Bl.refl w).alloc _
  replace a0 := Lib.hid a0
  replace G0 := Lib.hid G0
  have c0 := fun V => smallV1 x0 V
  rw [h0] at c0
  replace h0 := Lib.hid h0
  go_enter Tryd.func67, Tryd.ntmps67
  go_wp2_with fail
  refine (c0 _).mono ?_
  rintro e w1 ⟨rfl, g1⟩
  have G1 := G0.out.gr g1
  have a1 := a0.out.gr g1
  obtain ⟨-, -, -, q3, q4, q5, q6, -⟩ := get8 a1
  go_wp2_with fail
  go_ret2
  exact ⟨rfl, G1⟩

set_option maxRecDepth 100000 in
set_option maxHeartbeats 4000000 in
theorem putNoR21 (n : Int) (s : ByteArray) (x0 y0 x1 y1 : Int) (v : Value) (w : World) (h0 : smallB x0 = true) (h1 : smallB y0 = false) :
    Calls Tryd.prog 67 #[.int .u8 114, .agg #[.int .i64 2, .int .i64 n, .string s, .int .i64 x0, .int .i64 y0, .int .i64 x1, .int .i64 y1, v]] w (NoQ w) := by
  have a0 := At.new w #[.int .i64 2, .int .i64 n, .string s, .int .i64 x0, .int .i64 y0, .int .i64 x1, .int .i64 y1, v] 88
  have G0 : Bl w (w.alloc (.cells #[.int .i64 2, .int .i64 n, .string s, .int .i64 x0, .int .i64 y0, .int .i64 x1, .int .i64 y1, v] 88)) := (Bl.refl w).alloc _
  replace a0 := Lib.hid a0
  replace G0 := Lib.hid G0
  have c0 := fun V => smallV1 x0 V
  rw [h0] at c0
  replace h0 := Lib.hid h0
  have c1 := fun V => smallV1 y0 V
  rw [h1] at c1
  replace h1 := Lib.hid h1
  go_enter Tryd.func67, Tryd.ntmps67
  go_wp2_with fail
  refine (c0 _).mono ?_
  rintro e w1 ⟨rfl, g1⟩
  have G1 := G0.out.gr g1
  have a1 := a0.out.gr g1
  obtain ⟨-, -, -, q3, q4, q5, q6, -⟩ := get8 a1
  go_wp2_with fail
  clear q3 q4 q5 q6
  refine (c1 _).mono ?_
  rintro e w2 ⟨rfl, g2⟩
  have G2 := G1.gr g2
  have a2 := a1.gr g2
  obtain ⟨-, -, -, q3, q4, q5, q6, -⟩ := get8 a2
  go_wp2_with fail
  go_ret2
  exact ⟨rfl, G2⟩

set_option maxRecDepth 100000 in
set_option maxHeartbeats 4000000 in
theorem putNoR22 (n : Int) (s : ByteArray) (x0 y0 x1 y1 : Int) (v : Value) (w : World) (h0 : smallB x0 = true) (h1 : smallB y0 = true) (h2 : smallB x1 = false) :
    Calls Tryd.prog 67 #[.int .u8 114, .agg #[.int .i64 2, .int .i64 n, .string s, .int .i64 x0, .int .i64 y0, .int .i64 x1, .int .i64 y1, v]] w (NoQ w) := by
  have a0 := At.new w #[.int .i64 2, .int .i64 n, .string s, .int .i64 x0, .int .i64 y0, .int .i64 x1, .int .i64 y1, v] 88
  have G0 : Bl w (w.alloc (.cells #[.int .i64 2, .int .i64 n, .string s, .int .i64 x0, .int .i64 y0, .int .i64 x1, .int .i64 y1, v] 88)) := (Bl.refl w).alloc _
  replace a0 := Lib.hid a0
  replace G0 := Lib.hid G0
  have c0 := fun V => smallV1 x0 V
  rw [h0] at c0
  replace h0 := Lib.hid h0
  have c1 := fun V => smallV1 y0 V
  rw [h1] at c1
  replace h1 := Lib.hid h1
  have c2 := fun V => smallV1 x1 V
  rw [h2] at c2
  replace h2 := Lib.hid h2
  go_enter Tryd.func67, Tryd.ntmps67
  go_wp2_with fail
  refine (c0 _).mono ?_
  rintro e w1 ⟨rfl, g1⟩
  have G1 := G0.out.gr g1
  have a1 := a0.out.gr g1
  obtain ⟨-, -, -, q3, q4, q5, q6, -⟩ := get8 a1
  go_wp2_with fail
  clear q3 q4 q5 q6
  refine (c1 _).mono ?_
  rintro e w2 ⟨rfl, g2⟩
  have G2 := G1.gr g2
  have a2 := a1.gr g2
  obtain ⟨-, -, -, q3, q4, q5, q6, -⟩ := get8 a2
  go_wp2_with fail
  clear q3 q4 q5 q6
  refine (c2 _).mono ?_
  rintro e w3 ⟨rfl, g3⟩
  have G3 := G2.gr g3
  have a3 := a2.gr g3
  obtain ⟨-, -, -, q3, q4, q5, q6, -⟩ := get8 a3
  go_wp2_with fail
  go_ret2
  exact ⟨rfl, G3⟩

set_option maxRecDepth 100000 in
set_option maxHeartbeats 4000000 in
theorem putNoR23 (n : Int) (s : ByteArray) (x0 y0 x1 y1 : Int) (v : Value) (w : World) (h0 : smallB x0 = true) (h1 : smallB y0 = true) (h2 : smallB x1 = true) (h3 : smallB y1 = false) :
    Calls Tryd.prog 67 #[.int .u8 114, .agg #[.int .i64 2, .int .i64 n, .string s, .int .i64 x0, .int .i64 y0, .int .i64 x1, .int .i64 y1, v]] w (NoQ w) := by
  have a0 := At.new w #[.int .i64 2, .int .i64 n, .string s, .int .i64 x0, .int .i64 y0, .int .i64 x1, .int .i64 y1, v] 88
  have G0 : Bl w (w.alloc (.cells #[.int .i64 2, .int .i64 n, .string s, .int .i64 x0, .int .i64 y0, .int .i64 x1, .int .i64 y1, v] 88)) := (Bl.refl w).alloc _
  replace a0 := Lib.hid a0
  replace G0 := Lib.hid G0
  have c0 := fun V => smallV1 x0 V
  rw [h0] at c0
  replace h0 := Lib.hid h0
  have c1 := fun V => smallV1 y0 V
  rw [h1] at c1
  replace h1 := Lib.hid h1
  have c2 := fun V => smallV1 x1 V
  rw [h2] at c2
  replace h2 := Lib.hid h2
  have c3 := fun V => smallV1 y1 V
  rw [h3] at c3
  replace h3 := Lib.hid h3
  go_enter Tryd.func67, Tryd.ntmps67
  go_wp2_with fail
  refine (c0 _).mono ?_
  rintro e w1 ⟨rfl, g1⟩
  have G1 := G0.out.gr g1
  have a1 := a0.out.gr g1
  obtain ⟨-, -, -, q3, q4, q5, q6, -⟩ := get8 a1
  go_wp2_with fail
  clear q3 q4 q5 q6
  refine (c1 _).mono ?_
  rintro e w2 ⟨rfl, g2⟩
  have G2 := G1.gr g2
  have a2 := a1.gr g2
  obtain ⟨-, -, -, q3, q4, q5, q6, -⟩ := get8 a2
  go_wp2_with fail
  clear q3 q4 q5 q6
  refine (c2 _).mono ?_
  rintro e w3 ⟨rfl, g3⟩
  have G3 := G2.gr g3
  have a3 := a2.gr g3
  obtain ⟨-, -, -, q3, q4, q5, q6, -⟩ := get8 a3
  go_wp2_with fail
  clear q3 q4 q5 q6
  refine (c3 _).mono ?_
  rintro e w4 ⟨rfl, g4⟩
  have G4 := G3.gr g4
  have a4 := a3.gr g4
  obtain ⟨-, -, -, q3, q4, q5, q6, -⟩ := get8 a4
  go_wp2_with fail
  go_ret2
  exact ⟨rfl, G4⟩

set_option maxRecDepth 100000 in
set_option maxHeartbeats 4000000 in
theorem putI (n : Int) (s : ByteArray) (x0 y0 x1 y1 : Int) (v : Value) (w : World) (h : smallB n = true) :
    Calls Tryd.prog 67 #[.int .u8 105, .agg #[.int .i64 0, .int .i64 n, .string s, .int .i64 x0, .int .i64 y0, .int .i64 x1, .int .i64 y1, v]] w (PutQ w (d4 n)) := by
  have a0 := At.new w #[.int .i64 0, .int .i64 n, .string s, .int .i64 x0, .int .i64 y0, .int .i64 x1, .int .i64 y1, v] 88
  have G0 : Bl w (w.alloc (.cells #[.int .i64 0, .int .i64 n, .string s, .int .i64 x0, .int .i64 y0, .int .i64 x1, .int .i64 y1, v] 88)) := (Bl.refl w).alloc _
  replace a0 := Lib.hid a0
  replace G0 := Lib.hid G0
  have hs := (smallB_iff n).1 h
  have c1 := fun V => smallV1 n V
  rw [h] at c1
  have c2 := fun V => digits1 n (by have := hs.1; omega) (by have := hs.2; omega) V
  clear h hs
  go_enter Tryd.func67, Tryd.ntmps67
  go_wp2_with fail
  refine (c1 _).mono ?_
  rintro e w2 ⟨rfl, g2⟩
  have G2 := G0.out.gr g2
  obtain ⟨-, q1, -⟩ := get8 (a0.out.gr g2)
  go_wp2_with fail
  refine (c2 _).mono ?_
  rintro e w3 ⟨rfl, rfl⟩
  go_wp2
  go_ret2
  exact ⟨_, _, rfl, (builtB (d4 n) w.heap.size w2 (by rw [d4_len]; omega) G2.size).sv, G2.alloc _⟩

set_option maxRecDepth 100000 in
set_option maxHeartbeats 4000000 in
theorem putU (n : Int) (s : ByteArray) (x0 y0 x1 y1 : Int) (v : Value) (w : World) (h0 : 0 ≤ n) (h1 : n ≤ 4294967295) :
    Calls Tryd.prog 67 #[.int .u8 117, .agg #[.int .i64 0, .int .i64 n, .string s, .int .i64 x0, .int .i64 y0, .int .i64 x1, .int .i64 y1, v]] w (PutQ w (d4 n)) := by
  have a0 := At.new w #[.int .i64 0, .int .i64 n, .string s, .int .i64 x0, .int .i64 y0, .int .i64 x1, .int .i64 y1, v] 88
  have G0 : Bl w (w.alloc (.cells #[.int .i64 0, .int .i64 n, .string s, .int .i64 x0, .int .i64 y0, .int .i64 x1, .int .i64 y1, v] 88)) := (Bl.refl w).alloc _
  replace a0 := Lib.hid a0
  replace G0 := Lib.hid G0
  have c2 := fun V => digits1 n (by omega) h1 V
  go_enter Tryd.func67, Tryd.ntmps67
  go_wp2_with fail
  refine (c2 _).mono ?_
  rintro e w3 ⟨rfl, rfl⟩
  go_wp2
  go_ret2
  have q := (builtB (d4 n) w.heap.size _ (by rw [d4_len]; omega) G0.out.size).sv
  exact ⟨_, _, rfl, by simpa [d4_len] using q, G0.out.alloc _⟩

set_option maxRecDepth 100000 in
set_option maxHeartbeats 4000000 in
theorem putS (n : Int) (s : ByteArray) (x0 y0 x1 y1 : Int) (v : Value) (w : World) (h : s.size ≤ 255) :
    Calls Tryd.prog 67 #[.int .u8 115, .agg #[.int .i64 1, .int .i64 n, .string s, .int .i64 x0, .int .i64 y0, .int .i64 x1, .int .i64 y1, v]] w (PutQ w ((s.size : Int) :: tb s)) := by
  have a0 := At.new w #[.int .i64 1, .int .i64 n, .string s, .int .i64 x0, .int .i64 y0, .int .i64 x1, .int .i64 y1, v] 88
  have G0 : Bl w (w.alloc (.cells #[.int .i64 1, .int .i64 n, .string s, .int .i64 x0, .int .i64 y0, .int .i64 x1, .int .i64 y1, v] 88)) := (Bl.refl w).alloc _
  replace a0 := Lib.hid a0
  replace G0 := Lib.hid G0
  have hm : (s.size : Int) % 256 = s.size := by omega
  have hle : (s.size : Int) ≤ 255 := by omega
  have o0 : OwB ((w.alloc (.cells #[.int .i64 1, .int .i64 n, .string s, .int .i64 x0, .int .i64 y0, .int .i64 x1, .int .i64 y1, v] 88)).alloc (.cells #[.int .u8 (s.size : Int)] 5)) w.heap.size (some ⟨w.heap.size + 1, 0, none⟩) 1 [(s.size : Int)] := by
    have q := builtB [(s.size : Int)] w.heap.size _ (by simp) G0.out.size
    simpa [cB] using q
  have hz : w.heap.size ≤ ((w.alloc (.cells #[.int .i64 1, .int .i64 n, .string s, .int .i64 x0, .int .i64 y0, .int .i64 x1, .int .i64 y1, v] 88)).alloc (.cells #[.int .u8 (s.size : Int)] 5)).heap.size := by simp; omega
  go_enter Tryd.func67, Tryd.ntmps67
  go_wp2_with (at_builtin; refine wp_app_s rfl (.tmp 61) (.tmp 63) rfl (some ⟨w.heap.size + 1, 0, none⟩) 1 [(s.size : Int)] rfl w.heap.size o0 s rfl (by simp; omega) hz ?_; intro A2 c2 w2 own2 by2)
  go_ret2
  exact ⟨A2, c2, by simp [tb_len]; omega, by simpa [tb_len, Nat.add_comm] using own2.sv, app_bl by2 (G0.out.alloc _) (.inr ⟨w.heap.size + 1, rfl, by omega, by simp⟩) (Nat.le_refl _)⟩

set_option maxRecDepth 100000 in
set_option maxHeartbeats 4000000 in
theorem putB (n : Int) (s : ByteArray) (x0 y0 x1 y1 : Int) (A : Option Addr) (M : List Int) (c : Nat) (w : World) (h : (M.length : Int) ≤ 4096) (hs : Sv w (.slice A M.length c) M) :
    Calls Tryd.prog 67 #[.int .u8 98, .agg #[.int .i64 3, .int .i64 n, .string s, .int .i64 x0, .int .i64 y0, .int .i64 x1, .int .i64 y1, .slice A M.length c]] w (PutQ w M) := by
  have a0 := At.new w #[.int .i64 3, .int .i64 n, .string s, .int .i64 x0, .int .i64 y0, .int .i64 x1, .int .i64 y1, .slice A M.length c] 88
  have G0 : Bl w (w.alloc (.cells #[.int .i64 3, .int .i64 n, .string s, .int .i64 x0, .int .i64 y0, .int .i64 x1, .int .i64 y1, .slice A M.length c] 88)) := (Bl.refl w).alloc _
  replace a0 := Lib.hid a0
  replace G0 := Lib.hid G0
  have hs' := hs.bl G0.out
  replace hs := Lib.hid hs
  replace hs' := Lib.hid hs'
  go_enter Tryd.func67, Tryd.ntmps67
  go_wp2
  go_ret2
  exact ⟨A, c, rfl, hs'.out, G0.out⟩

theorem digits2 (n : Int) (hn : -2147483648 ≤ n) (kn : n ≤ 4294967295) (B : Nat) (w : World) (hB : B ≤ w.heap.size) : Calls Tryd.prog 89 #[.int .i64 n] w fun e w' => ∃ A' c', e = .returned (.slice A' (d4 n).length c') ∧ OwB w' B A' c' (d4 n) ∧ Gr w w' := by
  refine (digits1 n hn kn w).mono ?_
  rintro e w' ⟨rfl, rfl⟩
  exact ⟨_, _, rfl, builtB (d4 n) B w (by rw [d4_len]; omega) hB, (Gr.refl w).alloc _⟩

set_option maxRecDepth 100000 in
set_option maxHeartbeats 8000000 in
theorem putR (n : Int) (s : ByteArray) (x0 y0 x1 y1 : Int) (v : Value) (w : World) (h0 : smallB x0 = true) (h1 : smallB y0 = true) (h2 : smallB x1 = true) (h3 : smallB y1 = true) :
    Calls Tryd.prog 67 #[.int .u8 114, .agg #[.int .i64 2, .int .i64 n, .string s, .int .i64 x0, .int .i64 y0, .int .i64 x1, .int .i64 y1, v]] w (PutQ w (d4 x0 ++ d4 y0 ++ d4 x1 ++ d4 y1)) := by
  have s0 := (smallB_iff _).1 h0
  have c0 := fun V => smallV1 x0 V
  rw [h0] at c0
  have l0 : -2147483648 ≤ x0 := s0.1
  have m0 : x0 ≤ 4294967295 := by have := s0.2; omega
  clear h0 s0
  have s1 := (smallB_iff _).1 h1
  have c1 := fun V => smallV1 y0 V
  rw [h1] at c1
  have l1 : -2147483648 ≤ y0 := s1.1
  have m1 : y0 ≤ 4294967295 := by have := s1.2; omega
  clear h1 s1
  have s2 := (smallB_iff _).1 h2
  have c2 := fun V => smallV1 x1 V
  rw [h2] at c2
  have l2 : -2147483648 ≤ x1 := s2.1
  have m2 : x1 ≤ 4294967295 := by have := s2.2; omega
  clear h2 s2
  have s3 := (smallB_iff _).1 h3
  have c3 := fun V => smallV1 y1 V
  rw [h3] at c3
  have l3 : -2147483648 ≤ y1 := s3.1
  have m3 : y1 ≤ 4294967295 := by have := s3.2; omega
  clear h3 s3
  obtain ⟨W, hW⟩ : ∃ W, W = w.alloc (.cells #[.int .i64 2, .int .i64 n, .string s, .int .i64 x0, .int .i64 y0, .int .i64 x1, .int .i64 y1, v] 88) := ⟨_, rfl⟩
  have a0 : At W w.heap.size #[.int .i64 2, .int .i64 n, .string s, .int .i64 x0, .int .i64 y0, .int .i64 x1, .int .i64 y1, v] 88 := by rw [hW]; exact At.new _ _ _
  have G0 : Bl w W := by rw [hW]; exact (Bl.refl w).alloc _
  have hpx : W.heap.size ≤ w.heap.size + 1 := by rw [hW]; simp
  obtain ⟨p, hp⟩ : ∃ p, p = w.heap.size := ⟨_, rfl⟩
  rw [← hp] at a0 hpx
  replace hp := Lib.hid hp
  obtain ⟨-, -, -, q3, q4, q5, q6, -⟩ := get8 a0
  have K0 : Gr W W := Gr.refl W
  have hpw : p + 1 ≤ W.heap.size := a0.lt
  replace l0 := Lib.hid l0
  replace l1 := Lib.hid l1
  replace l2 := Lib.hid l2
  replace l3 := Lib.hid l3
  replace m0 := Lib.hid m0
  replace m1 := Lib.hid m1
  replace m2 := Lib.hid m2
  replace m3 := Lib.hid m3
  go_enter Tryd.func67, Tryd.ntmps67
  go_wp2_with fail
  rw [← hW, ← hp.out]
  clear hW
  refine (c0 _).mono ?_
  rintro e w1 ⟨rfl, g1⟩
  have K1 := K0.trans g1
  clear q3 q4 q5 q6 g1
  obtain ⟨-, -, -, q3, q4, q5, q6, -⟩ := get8 (a0.gr K1)
  go_wp2_with fail
  refine (c1 _).mono ?_
  rintro e w2 ⟨rfl, g2⟩
  have K2 := K1.trans g2
  clear q3 q4 q5 q6 g2
  obtain ⟨-, -, -, q3, q4, q5, q6, -⟩ := get8 (a0.gr K2)
  go_wp2_with fail
  refine (c2 _).mono ?_
  rintro e w3 ⟨rfl, g3⟩
  have K3 := K2.trans g3
  clear q3 q4 q5 q6 g3
  obtain ⟨-, -, -, q3, q4, q5, q6, -⟩ := get8 (a0.gr K3)
  go_wp2_with fail
  refine (c3 _).mono ?_
  rintro e w4 ⟨rfl, g4⟩
  have K4 := K3.trans g4
  clear q3 q4 q5 q6 g4
  obtain ⟨-, -, -, q3, q4, q5, q6, -⟩ := get8 (a0.gr K4)
  go_wp2_with fail
  refine (digits2 x0 l0.out m0.out (p + 1) _ (Nat.le_trans hpw K4.size)).mono ?_
  rintro e v0 ⟨A1, f1, rfl, own1, k0⟩
  have G1 := K4.bl.gr k0
  clear k0 q3 q4 q5 q6
  obtain ⟨-, -, -, q3, q4, q5, q6, -⟩ := get8 (a0.bl G1)
  go_wp2_with fail
  refine (digits2 y0 l1.out m1.out (p + 1) _ (Nat.le_trans hpw G1.size)).mono ?_
  rintro e v1 ⟨B1, e1, rfl, o1, k1⟩
  have ow1 := own1.bl k1.bl
  have H1 := G1.gr k1
  clear q3 q4 q5 q6
  obtain ⟨-, -, -, q3, q4, q5, q6, -⟩ := get8 (a0.bl H1)
  go_wp2_with (at_builtin; refine wp_app_b rfl (.tmp 100) (.tmp 104) rfl A1 f1 (d4 x0) (by first | rfl | (simp only [List.length_append]; rfl)) (p + 1) ow1 B1 (d4 y0) e1 rfl (own_caps o1).2.2 o1.rwb (by simp [d4_len]) (Nat.le_trans hpw H1.size) ?_; intro A2 f2 V2 own2 by2 _; have G2 := app_bl by2 H1 ow1.lies hpx; clear q3 q4 q5 q6; obtain ⟨-, -, -, q3, q4, q5, q6, -⟩ := get8 (a0.bl G2))
  refine (digits2 x1 l2.out m2.out (p + 1) _ (Nat.le_trans hpw G2.size)).mono ?_
  rintro e v2 ⟨B2, e2, rfl, o2, k2⟩
  have ow2 := own2.bl k2.bl
  have H2 := G2.gr k2
  clear q3 q4 q5 q6
  obtain ⟨-, -, -, q3, q4, q5, q6, -⟩ := get8 (a0.bl H2)
  go_wp2_with (at_builtin; refine wp_app_b rfl (.tmp 106) (.tmp 110) rfl A2 f2 (d4 x0 ++ d4 y0) (by first | rfl | (simp only [List.length_append]; rfl)) (p + 1) ow2 B2 (d4 x1) e2 rfl (own_caps o2).2.2 o2.rwb (by simp [d4_len]) (Nat.le_trans hpw H2.size) ?_; intro A3 f3 V3 own3 by3 _; have G3 := app_bl by3 H2 ow2.lies hpx; clear q3 q4 q5 q6; obtain ⟨-, -, -, q3, q4, q5, q6, -⟩ := get8 (a0.bl G3))
  refine (digits2 y1 l3.out m3.out (p + 1) _ (Nat.le_trans hpw G3.size)).mono ?_
  rintro e v3 ⟨B3, e3, rfl, o3, k3⟩
  have ow3 := own3.bl k3.bl
  have H3 := G3.gr k3
  clear q3 q4 q5 q6
  obtain ⟨-, -, -, q3, q4, q5, q6, -⟩ := get8 (a0.bl H3)
  go_wp2_with (at_builtin; refine wp_app_b rfl (.tmp 112) (.tmp 116) rfl A3 f3 (d4 x0 ++ d4 y0 ++ d4 x1) (by first | rfl | (simp only [List.length_append]; rfl)) (p + 1) ow3 B3 (d4 y1) e3 rfl (own_caps o3).2.2 o3.rwb (by simp [d4_len]) (Nat.le_trans hpw H3.size) ?_; intro A4 f4 V4 own4 by4 _; have G4 := app_bl by4 H3 ow3.lies hpx; clear q3 q4 q5 q6; obtain ⟨-, -, -, q3, q4, q5, q6, -⟩ := get8 (a0.bl G4))
  go_ret2
  exact ⟨A4, f4, by simp [d4_len], own4.sv, G0.trans G4⟩

theorem put1 (p : Av × Value) (c : UInt8) (bs : List Int) (w : World) (hs : Sv w p.2 p.1.b) (hp : put c p.1 = some bs) :
    Calls Tryd.prog 67 #[.int .u8 c.toNat, g8 p] w (PutQ w bs) := by
  obtain ⟨⟨k, n, s, x0, y0, x1, y1, b⟩, v⟩ := p
  unfold put at hp
  unfold g8
  dsimp only at *
  by_cases h1 : c = 105
  · subst h1
    rw [if_pos rfl] at hp
    split at hp
    · rename_i h
      obtain ⟨rfl, h⟩ := h
      cases hp
      exact putI n s x0 y0 x1 y1 v w h
    · cases hp
  · rw [if_neg h1] at hp
    by_cases h2 : c = 117
    · subst h2
      rw [if_pos rfl] at hp
      split at hp
      · rename_i h
        obtain ⟨rfl, h, h'⟩ := h
        cases hp
        exact putU n s x0 y0 x1 y1 v w h h'
      · cases hp
    · rw [if_neg h2] at hp
      by_cases h3 : c = 115
      · subst h3
        rw [if_pos rfl] at hp
        split at hp
        · rename_i h
          obtain ⟨rfl, h⟩ := h
          cases hp
          exact putS n s x0 y0 x1 y1 v w h
        · cases hp
      · rw [if_neg h3] at hp
        by_cases h4 : c = 114
        · subst h4
          rw [if_pos rfl] at hp
          split at hp
          · rename_i h
            obtain ⟨rfl, a0, a1, a2, a3⟩ := h
            cases hp
            exact putR n s x0 y0 x1 y1 v w a0 a1 a2 a3
          · cases hp
        · rw [if_neg h4] at hp
          by_cases h5 : c = 98
          · subst h5
            rw [if_pos rfl] at hp
            split at hp
            · rename_i h
              obtain ⟨rfl, h⟩ := h
              cases hp
              have hs' := hs
              obtain ⟨A, c', rfl, _⟩ := hs
              exact putB n s x0 y0 x1 y1 A _ c' w (by omega) hs'
            · cases hp
          · rw [if_neg h5] at hp
            cases hp
theorem put0 (p : Av × Value) (c : UInt8) (w : World) (hs : Sv w p.2 p.1.b) (hp : put c p.1 = none) :
    Calls Tryd.prog 67 #[.int .u8 c.toNat, g8 p] w (NoQ w) := by
  obtain ⟨⟨k, n, s, x0, y0, x1, y1, b⟩, v⟩ := p
  unfold put at hp
  unfold g8
  dsimp only at *
  by_cases h1 : c = 105
  · subst h1
    rw [if_pos rfl] at hp
    by_cases hk : k = 0
    · subst hk
      refine putNoI2 n s x0 y0 x1 y1 v w ?_
      cases hn : smallB n with
      | false => rfl
      | true => rw [if_pos ⟨rfl, hn⟩] at hp; cases hp
    · exact putNoI1 k n s x0 y0 x1 y1 v w hk
  · rw [if_neg h1] at hp
    by_cases h2 : c = 117
    · subst h2
      rw [if_pos rfl] at hp
      by_cases hk : k = 0
      · subst hk
        refine putNoU2 n s x0 y0 x1 y1 v w fun hn => ?_
        rw [if_pos ⟨rfl, hn⟩] at hp; cases hp
      · exact putNoU1 k n s x0 y0 x1 y1 v w hk
    · rw [if_neg h2] at hp
      by_cases h3 : c = 115
      · subst h3
        rw [if_pos rfl] at hp
        by_cases hk : k = 1
        · subst hk
          refine putNoS2 n s x0 y0 x1 y1 v w fun hn => ?_
          rw [if_pos ⟨rfl, hn⟩] at hp; cases hp
        · exact putNoS1 k n s x0 y0 x1 y1 v w hk
      · rw [if_neg h3] at hp
        by_cases h4 : c = 114
        · subst h4
          rw [if_pos rfl] at hp
          by_cases hk : k = 2
          · subst hk
            cases e0 : smallB x0 with
            | false => exact putNoR20 n s x0 y0 x1 y1 v w e0
            | true =>
              cases e1 : smallB y0 with
              | false => exact putNoR21 n s x0 y0 x1 y1 v w e0 e1
              | true =>
                cases e2 : smallB x1 with
                | false => exact putNoR22 n s x0 y0 x1 y1 v w e0 e1 e2
                | true =>
                  cases e3 : smallB y1 with
                  | false => exact putNoR23 n s x0 y0 x1 y1 v w e0 e1 e2 e3
                  | true => rw [if_pos ⟨rfl, e0, e1, e2, e3⟩] at hp; cases hp
          · exact putNoR1 k n s x0 y0 x1 y1 v w hk
        · rw [if_neg h4] at hp
          by_cases h5 : c = 98
          · subst h5
            rw [if_pos rfl] at hp
            by_cases hk : k = 3
            · subst hk
              obtain ⟨A, c', rfl, _⟩ := hs
              refine putNoB2 n s x0 y0 x1 y1 A b.length c' w fun hn => ?_
              rw [if_pos ⟨rfl, by omega⟩] at hp; cases hp
            · exact putNoB1 k n s x0 y0 x1 y1 v w hk
          · exact putNo k n s x0 y0 x1 y1 v c.toNat w (ne_of h1) (ne_of h2) (ne_of h3) (ne_of h4) (ne_of h5)

end Go.Proofs.YthkbenhlhldglaaDoor
