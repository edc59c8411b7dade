/-
  What is proved: which requests may be, as each Op of package request tells it, and as the document does. No conditions but bounds.
-/
import Derived.Test.YthkbenhlhldglaaDoorMb
import Derived.Test.YthkbenhlhldglaaDoorMj
import Derived.Test.YthkbenhlhldglaaDoorMa
import Derived.Test.YthkbenhlhldglaaDoorMh
import Derived.Test.YthkbenhlhldglaaDoorMi
namespace Go.Proofs.YthkbenhlhldglaaDoor
open Go.RowKit Go.Sort

theorem Rt.bt {w w' : World} {v : Value} {e : Ending} (h : Rt w v e w') : Bt w v e w' := ⟨h.1, h.2.bl⟩
set_option maxRecDepth 100000 in
set_option maxHeartbeats 1000000 in
theorem qbetween1 (l t n : Int) (w : World) : Calls Tryd.prog 113 #[.int .i64 l, .int .i64 t, .int .i64 n] w (Rt w (.bool (btw l t n))) := by
  unfold btw
  go_enter Tryd.func113, Tryd.ntmps113
  go_wp2
  all_goals
    go_ret
    refine Rt.bool ?_ ?_
    · simp [*]; try omega
    · repeat (first | with_reducible exact Gr.refl _ | with_reducible assumption | with_reducible apply Gr.drew | with_reducible apply Gr.drewN | with_reducible apply Gr.grow | with_reducible apply Gr.alloc)
set_option maxRecDepth 100000 in
set_option maxHeartbeats 1000000 in
theorem rin1 (n l t : Int) (w : World) : Calls Tryd.prog 77 #[.int .i64 n, .int .i64 l, .int .i64 t] w (Rt w (.bool (btw l t n))) := by
  unfold btw
  go_enter Tryd.func77, Tryd.ntmps77
  go_wp2
  all_goals
    go_ret
    refine Rt.bool ?_ ?_
    · simp [*]; try omega
    · repeat (first | with_reducible exact Gr.refl _ | with_reducible assumption | with_reducible apply Gr.drew | with_reducible apply Gr.drewN | with_reducible apply Gr.grow | with_reducible apply Gr.alloc)
set_option maxRecDepth 100000 in
set_option maxHeartbeats 2000000 in
theorem mayAll1 (op id a b x0 y0 x1 y1 : Int) (s : ByteArray) (A : Option Addr) (n c : Nat) (w : World) : Calls Tryd.prog 92 #[.agg #[.int .i64 op, .int .i64 id, .int .i64 a, .int .i64 b, .int .i64 x0, .int .i64 y0, .int .i64 x1, .int .i64 y1, .string s, .slice A n c]] w (Rt w (.bool true)) := by
  go_enter Tryd.func92, Tryd.ntmps92
  go_wp2
  go_ret
  exact ⟨rfl, by repeat (first | with_reducible exact Gr.refl _ | with_reducible assumption | with_reducible apply Gr.drew | with_reducible apply Gr.drewN | with_reducible apply Gr.grow | with_reducible apply Gr.alloc)⟩
set_option maxRecDepth 100000 in
set_option maxHeartbeats 2000000 in
theorem mayRect1 (op id a b x0 y0 x1 y1 : Int) (s : ByteArray) (A : Option Addr) (n c : Nat) (w : World) : Calls Tryd.prog 94 #[.agg #[.int .i64 op, .int .i64 id, .int .i64 a, .int .i64 b, .int .i64 x0, .int .i64 y0, .int .i64 x1, .int .i64 y1, .string s, .slice A n c]] w (Rt w (.bool (mayB x0 y0 x1 y1))) := by
  have c1 := fun V => may1 x0 y0 x1 y1 V
  generalize mayB x0 y0 x1 y1 = m at *
  go_enter Tryd.func94, Tryd.ntmps94
  go_wp2_with (refine (c1 _).mono ?_; rintro e w1 ⟨rfl, g1⟩)
  go_ret
  exact ⟨rfl, Gr.trans (by repeat (first | with_reducible exact Gr.refl _ | with_reducible assumption | with_reducible apply Gr.drew | with_reducible apply Gr.drewN | with_reducible apply Gr.grow | with_reducible apply Gr.alloc)) g1⟩
set_option maxRecDepth 100000 in
set_option maxHeartbeats 2000000 in
theorem mayScale1 (op id a b x0 y0 x1 y1 : Int) (s : ByteArray) (A : Option Addr) (n c : Nat) (w : World) : Calls Tryd.prog 96 #[.agg #[.int .i64 op, .int .i64 id, .int .i64 a, .int .i64 b, .int .i64 x0, .int .i64 y0, .int .i64 x1, .int .i64 y1, .string s, .slice A n c]] w (Rt w (.bool (btw 1 8 a))) := by
  have c1 := fun V => qbetween1 1 8 a V
  generalize btw 1 8 a = m at *
  go_enter Tryd.func96, Tryd.ntmps96
  go_wp2_with (refine (c1 _).mono ?_; rintro e w1 ⟨rfl, g1⟩)
  go_ret
  exact ⟨rfl, Gr.trans (by repeat (first | with_reducible exact Gr.refl _ | with_reducible assumption | with_reducible apply Gr.drew | with_reducible apply Gr.drewN | with_reducible apply Gr.grow | with_reducible apply Gr.alloc)) g1⟩
set_option maxRecDepth 100000 in
set_option maxHeartbeats 2000000 in
theorem mayFade1 (op id a b x0 y0 x1 y1 : Int) (s : ByteArray) (A : Option Addr) (n c : Nat) (w : World) : Calls Tryd.prog 97 #[.agg #[.int .i64 op, .int .i64 id, .int .i64 a, .int .i64 b, .int .i64 x0, .int .i64 y0, .int .i64 x1, .int .i64 y1, .string s, .slice A n c]] w (Rt w (.bool (btw 0 255 a))) := by
  have c1 := fun V => qbetween1 0 255 a V
  generalize btw 0 255 a = m at *
  go_enter Tryd.func97, Tryd.ntmps97
  go_wp2_with (refine (c1 _).mono ?_; rintro e w1 ⟨rfl, g1⟩)
  go_ret
  exact ⟨rfl, Gr.trans (by repeat (first | with_reducible exact Gr.refl _ | with_reducible assumption | with_reducible apply Gr.drew | with_reducible apply Gr.drewN | with_reducible apply Gr.grow | with_reducible apply Gr.alloc)) g1⟩
set_option maxRecDepth 100000 in
set_option maxHeartbeats 2000000 in
theorem maySides1 (op id a b x0 y0 x1 y1 : Int) (s : ByteArray) (A : Option Addr) (n c : Nat) (w : World) : Calls Tryd.prog 91 #[.agg #[.int .i64 op, .int .i64 id, .int .i64 a, .int .i64 b, .int .i64 x0, .int .i64 y0, .int .i64 x1, .int .i64 y1, .string s, .slice A n c]] w (Rt w (.bool (btw 1 256 a && btw 1 256 b))) := by
  have c1 := fun V => qbetween1 1 256 a V
  have c2 := fun V => qbetween1 1 256 b V
  generalize btw 1 256 a = m1 at *
  generalize btw 1 256 b = m2 at *
  cases m1
  · go_enter Tryd.func91, Tryd.ntmps91
    go_wp2_with fail
    refine (c1 _).mono ?_
    rintro e w1 ⟨rfl, g1⟩
    have G1 : Gr w w1 := Gr.trans (by repeat (first | with_reducible exact Gr.refl _ | with_reducible assumption | with_reducible apply Gr.drew | with_reducible apply Gr.drewN | with_reducible apply Gr.grow | with_reducible apply Gr.alloc)) g1
    go_wp2
    go_ret
    exact ⟨rfl, by repeat (first | with_reducible exact Gr.refl _ | with_reducible assumption | with_reducible apply Gr.drew | with_reducible apply Gr.drewN | with_reducible apply Gr.grow | with_reducible apply Gr.alloc)⟩
  · go_enter Tryd.func91, Tryd.ntmps91
    go_wp2_with fail
    refine (c1 _).mono ?_
    rintro e w1 ⟨rfl, g1⟩
    have G1 : Gr w w1 := Gr.trans (by repeat (first | with_reducible exact Gr.refl _ | with_reducible assumption | with_reducible apply Gr.drew | with_reducible apply Gr.drewN | with_reducible apply Gr.grow | with_reducible apply Gr.alloc)) g1
    have X1 := At.gr (At.new w #[.int .i64 op, .int .i64 id, .int .i64 a, .int .i64 b, .int .i64 x0, .int .i64 y0, .int .i64 x1, .int .i64 y1, .string s, .slice A n c] 36) g1
    have k3 : w1.cell? ⟨w.heap.size, 3, none⟩ = some (.int .i64 b) := (X1.cell 3).trans rfl
    have k4 : w1.cell? ⟨w.heap.size, 4, none⟩ = some (.int .i64 x0) := (X1.cell 4).trans rfl
    have k5 : w1.cell? ⟨w.heap.size, 5, none⟩ = some (.int .i64 y0) := (X1.cell 5).trans rfl
    have k6 : w1.cell? ⟨w.heap.size, 6, none⟩ = some (.int .i64 x1) := (X1.cell 6).trans rfl
    have k7 : w1.cell? ⟨w.heap.size, 7, none⟩ = some (.int .i64 y1) := (X1.cell 7).trans rfl
    go_wp2_with fail
    refine (c2 _).mono ?_
    rintro e w2 ⟨rfl, g2⟩
    have G2 : Gr w w2 := Gr.trans (by repeat (first | with_reducible exact Gr.refl _ | with_reducible assumption | with_reducible apply Gr.drew | with_reducible apply Gr.drewN | with_reducible apply Gr.grow | with_reducible apply Gr.alloc)) g2
    go_wp2
    go_ret
    exact ⟨rfl, by repeat (first | with_reducible exact Gr.refl _ | with_reducible assumption | with_reducible apply Gr.drew | with_reducible apply Gr.drewN | with_reducible apply Gr.grow | with_reducible apply Gr.alloc)⟩
set_option maxRecDepth 100000 in
set_option maxHeartbeats 2000000 in
theorem mayPlace1 (op id a b x0 y0 x1 y1 : Int) (s : ByteArray) (A : Option Addr) (n c : Nat) (w : World) : Calls Tryd.prog 95 #[.agg #[.int .i64 op, .int .i64 id, .int .i64 a, .int .i64 b, .int .i64 x0, .int .i64 y0, .int .i64 x1, .int .i64 y1, .string s, .slice A n c]] w (Rt w (.bool (btw (-1048576) 1048576 a && btw (-1048576) 1048576 b))) := by
  have c1 := fun V => qbetween1 (-1048576) 1048576 a V
  have c2 := fun V => qbetween1 (-1048576) 1048576 b V
  generalize btw (-1048576) 1048576 a = m1 at *
  generalize btw (-1048576) 1048576 b = m2 at *
  cases m1
  · go_enter Tryd.func95, Tryd.ntmps95
    go_wp2_with fail
    refine (c1 _).mono ?_
    rintro e w1 ⟨rfl, g1⟩
    have G1 : Gr w w1 := Gr.trans (by repeat (first | with_reducible exact Gr.refl _ | with_reducible assumption | with_reducible apply Gr.drew | with_reducible apply Gr.drewN | with_reducible apply Gr.grow | with_reducible apply Gr.alloc)) g1
    go_wp2
    go_ret
    exact ⟨rfl, by repeat (first | with_reducible exact Gr.refl _ | with_reducible assumption | with_reducible apply Gr.drew | with_reducible apply Gr.drewN | with_reducible apply Gr.grow | with_reducible apply Gr.alloc)⟩
  · go_enter Tryd.func95, Tryd.ntmps95
    go_wp2_with fail
    refine (c1 _).mono ?_
    rintro e w1 ⟨rfl, g1⟩
    have G1 : Gr w w1 := Gr.trans (by repeat (first | with_reducible exact Gr.refl _ | with_reducible assumption | with_reducible apply Gr.drew | with_reducible apply Gr.drewN | with_reducible apply Gr.grow | with_reducible apply Gr.alloc)) g1
    have X1 := At.gr (At.new w #[.int .i64 op, .int .i64 id, .int .i64 a, .int .i64 b, .int .i64 x0, .int .i64 y0, .int .i64 x1, .int .i64 y1, .string s, .slice A n c] 36) g1
    have k3 : w1.cell? ⟨w.heap.size, 3, none⟩ = some (.int .i64 b) := (X1.cell 3).trans rfl
    have k4 : w1.cell? ⟨w.heap.size, 4, none⟩ = some (.int .i64 x0) := (X1.cell 4).trans rfl
    have k5 : w1.cell? ⟨w.heap.size, 5, none⟩ = some (.int .i64 y0) := (X1.cell 5).trans rfl
    have k6 : w1.cell? ⟨w.heap.size, 6, none⟩ = some (.int .i64 x1) := (X1.cell 6).trans rfl
    have k7 : w1.cell? ⟨w.heap.size, 7, none⟩ = some (.int .i64 y1) := (X1.cell 7).trans rfl
    go_wp2_with fail
    refine (c2 _).mono ?_
    rintro e w2 ⟨rfl, g2⟩
    have G2 : Gr w w2 := Gr.trans (by repeat (first | with_reducible exact Gr.refl _ | with_reducible assumption | with_reducible apply Gr.drew | with_reducible apply Gr.drewN | with_reducible apply Gr.grow | with_reducible apply Gr.alloc)) g2
    go_wp2
    go_ret
    exact ⟨rfl, by repeat (first | with_reducible exact Gr.refl _ | with_reducible assumption | with_reducible apply Gr.drew | with_reducible apply Gr.drewN | with_reducible apply Gr.grow | with_reducible apply Gr.alloc)⟩
set_option maxRecDepth 100000 in
set_option maxHeartbeats 2000000 in
theorem mayPart1 (op id a b x0 y0 x1 y1 : Int) (s : ByteArray) (A : Option Addr) (n c : Nat) (w : World) : Calls Tryd.prog 93 #[.agg #[.int .i64 op, .int .i64 id, .int .i64 a, .int .i64 b, .int .i64 x0, .int .i64 y0, .int .i64 x1, .int .i64 y1, .string s, .slice A n c]] w (Rt w (.bool (mayB x0 y0 x1 y1 && !emptyB x0 y0 x1 y1))) := by
  have c1 := fun V => mayRect1 op id a b x0 y0 x1 y1 s A n c V
  have c2 := fun V => empty1 x0 y0 x1 y1 V
  generalize mayB x0 y0 x1 y1 = m1 at *
  generalize emptyB x0 y0 x1 y1 = m2 at *
  cases m1
  · go_enter Tryd.func93, Tryd.ntmps93
    go_wp2_with fail
    refine (c1 _).mono ?_
    rintro e w1 ⟨rfl, g1⟩
    have G1 : Gr w w1 := Gr.trans (by repeat (first | with_reducible exact Gr.refl _ | with_reducible assumption | with_reducible apply Gr.drew | with_reducible apply Gr.drewN | with_reducible apply Gr.grow | with_reducible apply Gr.alloc)) g1
    go_wp2
    go_ret
    exact ⟨rfl, by repeat (first | with_reducible exact Gr.refl _ | with_reducible assumption | with_reducible apply Gr.drew | with_reducible apply Gr.drewN | with_reducible apply Gr.grow | with_reducible apply Gr.alloc)⟩
  · go_enter Tryd.func93, Tryd.ntmps93
    go_wp2_with fail
    refine (c1 _).mono ?_
    rintro e w1 ⟨rfl, g1⟩
    have G1 : Gr w w1 := Gr.trans (by repeat (first | with_reducible exact Gr.refl _ | with_reducible assumption | with_reducible apply Gr.drew | with_reducible apply Gr.drewN | with_reducible apply Gr.grow | with_reducible apply Gr.alloc)) g1
    have X1 := At.gr (At.new w #[.int .i64 op, .int .i64 id, .int .i64 a, .int .i64 b, .int .i64 x0, .int .i64 y0, .int .i64 x1, .int .i64 y1, .string s, .slice A n c] 36) g1
    have k3 : w1.cell? ⟨w.heap.size, 3, none⟩ = some (.int .i64 b) := (X1.cell 3).trans rfl
    have k4 : w1.cell? ⟨w.heap.size, 4, none⟩ = some (.int .i64 x0) := (X1.cell 4).trans rfl
    have k5 : w1.cell? ⟨w.heap.size, 5, none⟩ = some (.int .i64 y0) := (X1.cell 5).trans rfl
    have k6 : w1.cell? ⟨w.heap.size, 6, none⟩ = some (.int .i64 x1) := (X1.cell 6).trans rfl
    have k7 : w1.cell? ⟨w.heap.size, 7, none⟩ = some (.int .i64 y1) := (X1.cell 7).trans rfl
    go_wp2_with fail
    refine (c2 _).mono ?_
    rintro e w2 ⟨rfl, g2⟩
    have G2 : Gr w w2 := Gr.trans (by repeat (first | with_reducible exact Gr.refl _ | with_reducible assumption | with_reducible apply Gr.drew | with_reducible apply Gr.drewN | with_reducible apply Gr.grow | with_reducible apply Gr.alloc)) g2
    go_wp2
    go_ret
    exact ⟨rfl, by repeat (first | with_reducible exact Gr.refl _ | with_reducible assumption | with_reducible apply Gr.drew | with_reducible apply Gr.drewN | with_reducible apply Gr.grow | with_reducible apply Gr.alloc)⟩
set_option maxRecDepth 100000 in
set_option maxHeartbeats 2000000 in
theorem mayTitle1 (op id a b x0 y0 x1 y1 : Int) (s : ByteArray) (A : Option Addr) (n c : Nat) (hs : s.size ≤ 1000000) (w : World) : Calls Tryd.prog 98 #[.agg #[.int .i64 op, .int .i64 id, .int .i64 a, .int .i64 b, .int .i64 x0, .int .i64 y0, .int .i64 x1, .int .i64 y1, .string s, .slice A n c]] w (Bt w (.bool (mayX (sgs s.data.toList)))) := by
  have c1 := fun V => tmay1 s hs V
  generalize mayX (sgs s.data.toList) = m at *
  go_enter Tryd.func98, Tryd.ntmps98
  go_wp2_with fail
  refine (c1 _).mono ?_
  rintro e w1 ⟨rfl, g1⟩
  go_wp2
  go_ret
  exact ⟨rfl, Bl.trans (Gr.bl (by repeat (first | with_reducible exact Gr.refl _ | with_reducible assumption | with_reducible apply Gr.drew | with_reducible apply Gr.drewN | with_reducible apply Gr.grow | with_reducible apply Gr.alloc))) g1⟩
set_option maxRecDepth 100000 in
set_option maxHeartbeats 2000000 in
theorem mayId1 (op id : Int) (w : World) : Calls Tryd.prog 51 #[.int .i64 op, .int .i64 id] w (Rt w (.bool (idB op id))) := by
  have c1 := fun V => fmay1 none 0 ⟨op, id, []⟩ V
  unfold idB
  generalize mayM ⟨op, id, []⟩ = m at *
  dsimp only [List.length_nil] at c1
  cases m
  all_goals
    go_enter Tryd.func51, Tryd.ntmps51
    go_wp2_with fail
    refine (c1 _).mono ?_
    rintro e w1 ⟨rfl, g1⟩
    go_wp2
    go_ret
    exact ⟨rfl, g1⟩

end Go.Proofs.YthkbenhlhldglaaDoor
