/-
  What is proved: which requests may be, as the document tells it. No conditions but bounds.
-/
import Derived.Test.YthkbenhlhldglaaDoorZc
namespace Go.Proofs.YthkbenhlhldglaaDoor
open Go.RowKit Go.Sort

theorem idB_eq {op id : Int} (ho : 0 ≤ op ∧ op ≤ 18) : idB op id = ((decide (id = 0) == decide (op = 18)) && btw 0 4294967295 id) := by
  have e : mayM ⟨op, id, []⟩ = btw 0 4294967295 id := by
    unfold mayM btw
    dsimp only
    rw [decide_eq_true (show 0 ≤ op by omega), decide_eq_true (show op ≤ 255 by omega)]
    simp
  unfold idB
  rw [e, Bool.and_comm]
set_option maxRecDepth 100000 in
set_option maxHeartbeats 2000000 in
theorem rmay_bad (op id a b x0 y0 x1 y1 : Int) (s : ByteArray) (A : Option Addr) (n c : Nat) (ho : 0 ≤ op ∧ op ≤ 18) (h : idB op id = false) (w : World) : Calls Tryd.prog 53 #[.agg #[.int .i64 op, .int .i64 id, .int .i64 a, .int .i64 b, .int .i64 x0, .int .i64 y0, .int .i64 x1, .int .i64 y1, .string s, .slice A n c]] w (Bt w (.bool false)) := by
  rw [idB_eq ho] at h
  have c1 := fun V => rin1 id 0 4294967295 V
  have walk : (id = 0 ∧ ¬ op = 18) ∨ (¬ id = 0 ∧ op = 18) ∨ (¬ id = 0 ∧ ¬ op = 18 ∧ btw 0 4294967295 id = false) := by
    by_cases h0 : id = 0
    · by_cases h1 : op = 18
      · rw [h0, h1] at h; simp [btw] at h
      · exact .inl ⟨h0, h1⟩
    · by_cases h1 : op = 18
      · exact .inr (.inl ⟨h0, h1⟩)
      · rw [decide_eq_false h0, decide_eq_false h1] at h
        exact .inr (.inr ⟨h0, h1, by simpa using h⟩)
  clear h ho
  rcases walk with ⟨h0, h1⟩ | ⟨h0, h1⟩ | ⟨h0, h1, h2⟩
  · subst h0
    clear c1
    go_enter Tryd.func53, Tryd.ntmps53
    go_wp2
    go_ret
    exact ⟨rfl, Gr.bl (by repeat (first | with_reducible exact Gr.refl _ | with_reducible assumption | with_reducible apply Gr.drew | with_reducible apply Gr.drewN | with_reducible apply Gr.grow | with_reducible apply Gr.alloc))⟩
  · subst h1
    clear c1
    go_enter Tryd.func53, Tryd.ntmps53
    go_wp2
    go_ret
    exact ⟨rfl, Gr.bl (by repeat (first | with_reducible exact Gr.refl _ | with_reducible assumption | with_reducible apply Gr.drew | with_reducible apply Gr.drewN | with_reducible apply Gr.grow | with_reducible apply Gr.alloc))⟩
  · rw [h2] at c1
    have e1 : (op == 18) = false := by simpa using h1
    have e2 : (id == 0) = false := by simpa using h0
    go_enter Tryd.func53, Tryd.ntmps53
    go_wp2_with fail
    refine (c1 _).mono ?_
    rintro e w1 ⟨rfl, g1⟩
    go_wp2
    go_ret
    exact ⟨rfl, Gr.bl (Gr.trans (by repeat (first | with_reducible exact Gr.refl _ | with_reducible assumption | with_reducible apply Gr.drew | with_reducible apply Gr.drewN | with_reducible apply Gr.grow | with_reducible apply Gr.alloc)) g1)⟩
set_option maxRecDepth 100000 in
set_option maxHeartbeats 2000000 in
theorem rmay_0 (id a b x0 y0 x1 y1 : Int) (s : ByteArray) (A : Option Addr) (n c : Nat) (h0 : ¬ id = 0) (h1 : btw 0 4294967295 id = true) (_hs : s.size ≤ 1000000) (w : World) : Calls Tryd.prog 53 #[.agg #[.int .i64 0, .int .i64 id, .int .i64 a, .int .i64 b, .int .i64 x0, .int .i64 y0, .int .i64 x1, .int .i64 y1, .string s, .slice A n c]] w (Bt w (.bool (btw 1 256 a && btw 1 256 b))) := by
  have c0 := fun V => rin1 id 0 4294967295 V
  rw [h1] at c0
  have c1 := fun V => rin1 a 1 256 V
  have c2 := fun V => rin1 b 1 256 V
  generalize btw 1 256 a = m1 at *
  generalize btw 1 256 b = m2 at *
  cases m1
  · go_enter Tryd.func53, Tryd.ntmps53
    go_wp2_with fail
    refine (c0 _).mono ?_
    rintro e w10 ⟨rfl, g10⟩
    have G10 : Bl w w10 := Bl.trans (by repeat (first | with_reducible exact Bl.refl _ | with_reducible assumption | with_reducible apply Bl.drew | with_reducible apply Bl.drewN | with_reducible apply Bl.grow | with_reducible apply Bl.alloc)) (Gr.bl g10)
    have X10 := At.gr (At.new w #[.int .i64 0, .int .i64 id, .int .i64 a, .int .i64 b, .int .i64 x0, .int .i64 y0, .int .i64 x1, .int .i64 y1, .string s, .slice A n c] 28) g10
    have k10_0 : w10.cell? ⟨w.heap.size, 0, none⟩ = some (.int .i64 0) := (X10.cell 0).trans rfl
    have k10_1 : w10.cell? ⟨w.heap.size, 1, none⟩ = some (.int .i64 id) := (X10.cell 1).trans rfl
    have k10_2 : w10.cell? ⟨w.heap.size, 2, none⟩ = some (.int .i64 a) := (X10.cell 2).trans rfl
    have k10_3 : w10.cell? ⟨w.heap.size, 3, none⟩ = some (.int .i64 b) := (X10.cell 3).trans rfl
    have k10_4 : w10.cell? ⟨w.heap.size, 4, none⟩ = some (.int .i64 x0) := (X10.cell 4).trans rfl
    have k10_5 : w10.cell? ⟨w.heap.size, 5, none⟩ = some (.int .i64 y0) := (X10.cell 5).trans rfl
    have k10_6 : w10.cell? ⟨w.heap.size, 6, none⟩ = some (.int .i64 x1) := (X10.cell 6).trans rfl
    have k10_7 : w10.cell? ⟨w.heap.size, 7, none⟩ = some (.int .i64 y1) := (X10.cell 7).trans rfl
    have k10_8 : w10.cell? ⟨w.heap.size, 8, none⟩ = some (.string s) := (X10.cell 8).trans rfl
    go_wp2_with fail
    refine (c1 _).mono ?_
    rintro e w11 ⟨rfl, g11⟩
    have G11 : Bl w w11 := Bl.trans (by repeat (first | with_reducible exact Bl.refl _ | with_reducible assumption | with_reducible apply Bl.drew | with_reducible apply Bl.drewN | with_reducible apply Bl.grow | with_reducible apply Bl.alloc)) (Gr.bl g11)
    go_wp2
    go_ret
    exact ⟨rfl, by repeat (first | with_reducible exact Bl.refl _ | with_reducible assumption | with_reducible apply Bl.drew | with_reducible apply Bl.drewN | with_reducible apply Bl.grow | with_reducible apply Bl.alloc)⟩
  · go_enter Tryd.func53, Tryd.ntmps53
    go_wp2_with fail
    refine (c0 _).mono ?_
    rintro e w10 ⟨rfl, g10⟩
    have G10 : Bl w w10 := Bl.trans (by repeat (first | with_reducible exact Bl.refl _ | with_reducible assumption | with_reducible apply Bl.drew | with_reducible apply Bl.drewN | with_reducible apply Bl.grow | with_reducible apply Bl.alloc)) (Gr.bl g10)
    have X10 := At.gr (At.new w #[.int .i64 0, .int .i64 id, .int .i64 a, .int .i64 b, .int .i64 x0, .int .i64 y0, .int .i64 x1, .int .i64 y1, .string s, .slice A n c] 28) g10
    have k10_0 : w10.cell? ⟨w.heap.size, 0, none⟩ = some (.int .i64 0) := (X10.cell 0).trans rfl
    have k10_1 : w10.cell? ⟨w.heap.size, 1, none⟩ = some (.int .i64 id) := (X10.cell 1).trans rfl
    have k10_2 : w10.cell? ⟨w.heap.size, 2, none⟩ = some (.int .i64 a) := (X10.cell 2).trans rfl
    have k10_3 : w10.cell? ⟨w.heap.size, 3, none⟩ = some (.int .i64 b) := (X10.cell 3).trans rfl
    have k10_4 : w10.cell? ⟨w.heap.size, 4, none⟩ = some (.int .i64 x0) := (X10.cell 4).trans rfl
    have k10_5 : w10.cell? ⟨w.heap.size, 5, none⟩ = some (.int .i64 y0) := (X10.cell 5).trans rfl
    have k10_6 : w10.cell? ⟨w.heap.size, 6, none⟩ = some (.int .i64 x1) := (X10.cell 6).trans rfl
    have k10_7 : w10.cell? ⟨w.heap.size, 7, none⟩ = some (.int .i64 y1) := (X10.cell 7).trans rfl
    have k10_8 : w10.cell? ⟨w.heap.size, 8, none⟩ = some (.string s) := (X10.cell 8).trans rfl
    go_wp2_with fail
    refine (c1 _).mono ?_
    rintro e w11 ⟨rfl, g11⟩
    have G11 : Bl w w11 := Bl.trans (by repeat (first | with_reducible exact Bl.refl _ | with_reducible assumption | with_reducible apply Bl.drew | with_reducible apply Bl.drewN | with_reducible apply Bl.grow | with_reducible apply Bl.alloc)) (Gr.bl g11)
    have X11 := At.gr (X10) g11
    have k11_0 : w11.cell? ⟨w.heap.size, 0, none⟩ = some (.int .i64 0) := (X11.cell 0).trans rfl
    have k11_1 : w11.cell? ⟨w.heap.size, 1, none⟩ = some (.int .i64 id) := (X11.cell 1).trans rfl
    have k11_2 : w11.cell? ⟨w.heap.size, 2, none⟩ = some (.int .i64 a) := (X11.cell 2).trans rfl
    have k11_3 : w11.cell? ⟨w.heap.size, 3, none⟩ = some (.int .i64 b) := (X11.cell 3).trans rfl
    have k11_4 : w11.cell? ⟨w.heap.size, 4, none⟩ = some (.int .i64 x0) := (X11.cell 4).trans rfl
    have k11_5 : w11.cell? ⟨w.heap.size, 5, none⟩ = some (.int .i64 y0) := (X11.cell 5).trans rfl
    have k11_6 : w11.cell? ⟨w.heap.size, 6, none⟩ = some (.int .i64 x1) := (X11.cell 6).trans rfl
    have k11_7 : w11.cell? ⟨w.heap.size, 7, none⟩ = some (.int .i64 y1) := (X11.cell 7).trans rfl
    have k11_8 : w11.cell? ⟨w.heap.size, 8, none⟩ = some (.string s) := (X11.cell 8).trans rfl
    go_wp2_with fail
    refine (c2 _).mono ?_
    rintro e w12 ⟨rfl, g12⟩
    have G12 : Bl w w12 := Bl.trans (by repeat (first | with_reducible exact Bl.refl _ | with_reducible assumption | with_reducible apply Bl.drew | with_reducible apply Bl.drewN | with_reducible apply Bl.grow | with_reducible apply Bl.alloc)) (Gr.bl g12)
    go_wp2
    go_ret
    exact ⟨rfl, by repeat (first | with_reducible exact Bl.refl _ | with_reducible assumption | with_reducible apply Bl.drew | with_reducible apply Bl.drewN | with_reducible apply Bl.grow | with_reducible apply Bl.alloc)⟩
set_option maxRecDepth 100000 in
set_option maxHeartbeats 2000000 in
theorem rmay_1 (id a b x0 y0 x1 y1 : Int) (s : ByteArray) (A : Option Addr) (n c : Nat) (h0 : ¬ id = 0) (h1 : btw 0 4294967295 id = true) (_hs : s.size ≤ 1000000) (w : World) : Calls Tryd.prog 53 #[.agg #[.int .i64 1, .int .i64 id, .int .i64 a, .int .i64 b, .int .i64 x0, .int .i64 y0, .int .i64 x1, .int .i64 y1, .string s, .slice A n c]] w (Bt w (.bool (true))) := by
  have c0 := fun V => rin1 id 0 4294967295 V
  rw [h1] at c0
  go_enter Tryd.func53, Tryd.ntmps53
  go_wp2_with fail
  refine (c0 _).mono ?_
  rintro e w10 ⟨rfl, g10⟩
  have G10 : Bl w w10 := Bl.trans (by repeat (first | with_reducible exact Bl.refl _ | with_reducible assumption | with_reducible apply Bl.drew | with_reducible apply Bl.drewN | with_reducible apply Bl.grow | with_reducible apply Bl.alloc)) (Gr.bl g10)
  have X10 := At.gr (At.new w #[.int .i64 1, .int .i64 id, .int .i64 a, .int .i64 b, .int .i64 x0, .int .i64 y0, .int .i64 x1, .int .i64 y1, .string s, .slice A n c] 28) g10
  have k10_0 : w10.cell? ⟨w.heap.size, 0, none⟩ = some (.int .i64 1) := (X10.cell 0).trans rfl
  have k10_1 : w10.cell? ⟨w.heap.size, 1, none⟩ = some (.int .i64 id) := (X10.cell 1).trans rfl
  have k10_2 : w10.cell? ⟨w.heap.size, 2, none⟩ = some (.int .i64 a) := (X10.cell 2).trans rfl
  have k10_3 : w10.cell? ⟨w.heap.size, 3, none⟩ = some (.int .i64 b) := (X10.cell 3).trans rfl
  have k10_4 : w10.cell? ⟨w.heap.size, 4, none⟩ = some (.int .i64 x0) := (X10.cell 4).trans rfl
  have k10_5 : w10.cell? ⟨w.heap.size, 5, none⟩ = some (.int .i64 y0) := (X10.cell 5).trans rfl
  have k10_6 : w10.cell? ⟨w.heap.size, 6, none⟩ = some (.int .i64 x1) := (X10.cell 6).trans rfl
  have k10_7 : w10.cell? ⟨w.heap.size, 7, none⟩ = some (.int .i64 y1) := (X10.cell 7).trans rfl
  have k10_8 : w10.cell? ⟨w.heap.size, 8, none⟩ = some (.string s) := (X10.cell 8).trans rfl
  go_wp2
  go_ret
  exact ⟨rfl, by repeat (first | with_reducible exact Bl.refl _ | with_reducible assumption | with_reducible apply Bl.drew | with_reducible apply Bl.drewN | with_reducible apply Bl.grow | with_reducible apply Bl.alloc)⟩
set_option maxRecDepth 100000 in
set_option maxHeartbeats 2000000 in
theorem rmay_2 (id a b x0 y0 x1 y1 : Int) (s : ByteArray) (A : Option Addr) (n c : Nat) (h0 : ¬ id = 0) (h1 : btw 0 4294967295 id = true) (_hs : s.size ≤ 1000000) (w : World) : Calls Tryd.prog 53 #[.agg #[.int .i64 2, .int .i64 id, .int .i64 a, .int .i64 b, .int .i64 x0, .int .i64 y0, .int .i64 x1, .int .i64 y1, .string s, .slice A n c]] w (Bt w (.bool (mayB x0 y0 x1 y1 && !emptyB x0 y0 x1 y1))) := by
  have c0 := fun V => rin1 id 0 4294967295 V
  rw [h1] at c0
  have c1 := fun V => refmay1 x0 y0 x1 y1 V
  have c2 := fun V => refempty1 x0 y0 x1 y1 V
  generalize mayB x0 y0 x1 y1 = m1 at *
  generalize emptyB x0 y0 x1 y1 = m2 at *
  cases m1
  · go_enter Tryd.func53, Tryd.ntmps53
    go_wp2_with fail
    refine (c0 _).mono ?_
    rintro e w10 ⟨rfl, g10⟩
    have G10 : Bl w w10 := Bl.trans (by repeat (first | with_reducible exact Bl.refl _ | with_reducible assumption | with_reducible apply Bl.drew | with_reducible apply Bl.drewN | with_reducible apply Bl.grow | with_reducible apply Bl.alloc)) (Gr.bl g10)
    have X10 := At.gr (At.new w #[.int .i64 2, .int .i64 id, .int .i64 a, .int .i64 b, .int .i64 x0, .int .i64 y0, .int .i64 x1, .int .i64 y1, .string s, .slice A n c] 28) g10
    have k10_0 : w10.cell? ⟨w.heap.size, 0, none⟩ = some (.int .i64 2) := (X10.cell 0).trans rfl
    have k10_1 : w10.cell? ⟨w.heap.size, 1, none⟩ = some (.int .i64 id) := (X10.cell 1).trans rfl
    have k10_2 : w10.cell? ⟨w.heap.size, 2, none⟩ = some (.int .i64 a) := (X10.cell 2).trans rfl
    have k10_3 : w10.cell? ⟨w.heap.size, 3, none⟩ = some (.int .i64 b) := (X10.cell 3).trans rfl
    have k10_4 : w10.cell? ⟨w.heap.size, 4, none⟩ = some (.int .i64 x0) := (X10.cell 4).trans rfl
    have k10_5 : w10.cell? ⟨w.heap.size, 5, none⟩ = some (.int .i64 y0) := (X10.cell 5).trans rfl
    have k10_6 : w10.cell? ⟨w.heap.size, 6, none⟩ = some (.int .i64 x1) := (X10.cell 6).trans rfl
    have k10_7 : w10.cell? ⟨w.heap.size, 7, none⟩ = some (.int .i64 y1) := (X10.cell 7).trans rfl
    have k10_8 : w10.cell? ⟨w.heap.size, 8, none⟩ = some (.string s) := (X10.cell 8).trans rfl
    go_wp2_with fail
    refine (c1 _).mono ?_
    rintro e w11 ⟨rfl, g11⟩
    have G11 : Bl w w11 := Bl.trans (by repeat (first | with_reducible exact Bl.refl _ | with_reducible assumption | with_reducible apply Bl.drew | with_reducible apply Bl.drewN | with_reducible apply Bl.grow | with_reducible apply Bl.alloc)) (Gr.bl g11)
    go_wp2
    go_ret
    exact ⟨rfl, by repeat (first | with_reducible exact Bl.refl _ | with_reducible assumption | with_reducible apply Bl.drew | with_reducible apply Bl.drewN | with_reducible apply Bl.grow | with_reducible apply Bl.alloc)⟩
  · go_enter Tryd.func53, Tryd.ntmps53
    go_wp2_with fail
    refine (c0 _).mono ?_
    rintro e w10 ⟨rfl, g10⟩
    have G10 : Bl w w10 := Bl.trans (by repeat (first | with_reducible exact Bl.refl _ | with_reducible assumption | with_reducible apply Bl.drew | with_reducible apply Bl.drewN | with_reducible apply Bl.grow | with_reducible apply Bl.alloc)) (Gr.bl g10)
    have X10 := At.gr (At.new w #[.int .i64 2, .int .i64 id, .int .i64 a, .int .i64 b, .int .i64 x0, .int .i64 y0, .int .i64 x1, .int .i64 y1, .string s, .slice A n c] 28) g10
    have k10_0 : w10.cell? ⟨w.heap.size, 0, none⟩ = some (.int .i64 2) := (X10.cell 0).trans rfl
    have k10_1 : w10.cell? ⟨w.heap.size, 1, none⟩ = some (.int .i64 id) := (X10.cell 1).trans rfl
    have k10_2 : w10.cell? ⟨w.heap.size, 2, none⟩ = some (.int .i64 a) := (X10.cell 2).trans rfl
    have k10_3 : w10.cell? ⟨w.heap.size, 3, none⟩ = some (.int .i64 b) := (X10.cell 3).trans rfl
    have k10_4 : w10.cell? ⟨w.heap.size, 4, none⟩ = some (.int .i64 x0) := (X10.cell 4).trans rfl
    have k10_5 : w10.cell? ⟨w.heap.size, 5, none⟩ = some (.int .i64 y0) := (X10.cell 5).trans rfl
    have k10_6 : w10.cell? ⟨w.heap.size, 6, none⟩ = some (.int .i64 x1) := (X10.cell 6).trans rfl
    have k10_7 : w10.cell? ⟨w.heap.size, 7, none⟩ = some (.int .i64 y1) := (X10.cell 7).trans rfl
    have k10_8 : w10.cell? ⟨w.heap.size, 8, none⟩ = some (.string s) := (X10.cell 8).trans rfl
    go_wp2_with fail
    refine (c1 _).mono ?_
    rintro e w11 ⟨rfl, g11⟩
    have G11 : Bl w w11 := Bl.trans (by repeat (first | with_reducible exact Bl.refl _ | with_reducible assumption | with_reducible apply Bl.drew | with_reducible apply Bl.drewN | with_reducible apply Bl.grow | with_reducible apply Bl.alloc)) (Gr.bl g11)
    have X11 := At.gr (X10) g11
    have k11_0 : w11.cell? ⟨w.heap.size, 0, none⟩ = some (.int .i64 2) := (X11.cell 0).trans rfl
    have k11_1 : w11.cell? ⟨w.heap.size, 1, none⟩ = some (.int .i64 id) := (X11.cell 1).trans rfl
    have k11_2 : w11.cell? ⟨w.heap.size, 2, none⟩ = some (.int .i64 a) := (X11.cell 2).trans rfl
    have k11_3 : w11.cell? ⟨w.heap.size, 3, none⟩ = some (.int .i64 b) := (X11.cell 3).trans rfl
    have k11_4 : w11.cell? ⟨w.heap.size, 4, none⟩ = some (.int .i64 x0) := (X11.cell 4).trans rfl
    have k11_5 : w11.cell? ⟨w.heap.size, 5, none⟩ = some (.int .i64 y0) := (X11.cell 5).trans rfl
    have k11_6 : w11.cell? ⟨w.heap.size, 6, none⟩ = some (.int .i64 x1) := (X11.cell 6).trans rfl
    have k11_7 : w11.cell? ⟨w.heap.size, 7, none⟩ = some (.int .i64 y1) := (X11.cell 7).trans rfl
    have k11_8 : w11.cell? ⟨w.heap.size, 8, none⟩ = some (.string s) := (X11.cell 8).trans rfl
    go_wp2_with fail
    refine (c2 _).mono ?_
    rintro e w12 ⟨rfl, g12⟩
    have G12 : Bl w w12 := Bl.trans (by repeat (first | with_reducible exact Bl.refl _ | with_reducible assumption | with_reducible apply Bl.drew | with_reducible apply Bl.drewN | with_reducible apply Bl.grow | with_reducible apply Bl.alloc)) (Gr.bl g12)
    go_wp2
    go_ret
    exact ⟨rfl, by repeat (first | with_reducible exact Bl.refl _ | with_reducible assumption | with_reducible apply Bl.drew | with_reducible apply Bl.drewN | with_reducible apply Bl.grow | with_reducible apply Bl.alloc)⟩
set_option maxRecDepth 100000 in
set_option maxHeartbeats 2000000 in
theorem rmay_3 (id a b x0 y0 x1 y1 : Int) (s : ByteArray) (A : Option Addr) (n c : Nat) (h0 : ¬ id = 0) (h1 : btw 0 4294967295 id = true) (_hs : s.size ≤ 1000000) (w : World) : Calls Tryd.prog 53 #[.agg #[.int .i64 3, .int .i64 id, .int .i64 a, .int .i64 b, .int .i64 x0, .int .i64 y0, .int .i64 x1, .int .i64 y1, .string s, .slice A n c]] w (Bt w (.bool (true))) := by
  have c0 := fun V => rin1 id 0 4294967295 V
  rw [h1] at c0
  go_enter Tryd.func53, Tryd.ntmps53
  go_wp2_with fail
  refine (c0 _).mono ?_
  rintro e w10 ⟨rfl, g10⟩
  have G10 : Bl w w10 := Bl.trans (by repeat (first | with_reducible exact Bl.refl _ | with_reducible assumption | with_reducible apply Bl.drew | with_reducible apply Bl.drewN | with_reducible apply Bl.grow | with_reducible apply Bl.alloc)) (Gr.bl g10)
  have X10 := At.gr (At.new w #[.int .i64 3, .int .i64 id, .int .i64 a, .int .i64 b, .int .i64 x0, .int .i64 y0, .int .i64 x1, .int .i64 y1, .string s, .slice A n c] 28) g10
  have k10_0 : w10.cell? ⟨w.heap.size, 0, none⟩ = some (.int .i64 3) := (X10.cell 0).trans rfl
  have k10_1 : w10.cell? ⟨w.heap.size, 1, none⟩ = some (.int .i64 id) := (X10.cell 1).trans rfl
  have k10_2 : w10.cell? ⟨w.heap.size, 2, none⟩ = some (.int .i64 a) := (X10.cell 2).trans rfl
  have k10_3 : w10.cell? ⟨w.heap.size, 3, none⟩ = some (.int .i64 b) := (X10.cell 3).trans rfl
  have k10_4 : w10.cell? ⟨w.heap.size, 4, none⟩ = some (.int .i64 x0) := (X10.cell 4).trans rfl
  have k10_5 : w10.cell? ⟨w.heap.size, 5, none⟩ = some (.int .i64 y0) := (X10.cell 5).trans rfl
  have k10_6 : w10.cell? ⟨w.heap.size, 6, none⟩ = some (.int .i64 x1) := (X10.cell 6).trans rfl
  have k10_7 : w10.cell? ⟨w.heap.size, 7, none⟩ = some (.int .i64 y1) := (X10.cell 7).trans rfl
  have k10_8 : w10.cell? ⟨w.heap.size, 8, none⟩ = some (.string s) := (X10.cell 8).trans rfl
  go_wp2
  go_ret
  exact ⟨rfl, by repeat (first | with_reducible exact Bl.refl _ | with_reducible assumption | with_reducible apply Bl.drew | with_reducible apply Bl.drewN | with_reducible apply Bl.grow | with_reducible apply Bl.alloc)⟩
set_option maxRecDepth 100000 in
set_option maxHeartbeats 2000000 in
theorem rmay_4 (id a b x0 y0 x1 y1 : Int) (s : ByteArray) (A : Option Addr) (n c : Nat) (h0 : ¬ id = 0) (h1 : btw 0 4294967295 id = true) (_hs : s.size ≤ 1000000) (w : World) : Calls Tryd.prog 53 #[.agg #[.int .i64 4, .int .i64 id, .int .i64 a, .int .i64 b, .int .i64 x0, .int .i64 y0, .int .i64 x1, .int .i64 y1, .string s, .slice A n c]] w (Bt w (.bool (true))) := by
  have c0 := fun V => rin1 id 0 4294967295 V
  rw [h1] at c0
  go_enter Tryd.func53, Tryd.ntmps53
  go_wp2_with fail
  refine (c0 _).mono ?_
  rintro e w10 ⟨rfl, g10⟩
  have G10 : Bl w w10 := Bl.trans (by repeat (first | with_reducible exact Bl.refl _ | with_reducible assumption | with_reducible apply Bl.drew | with_reducible apply Bl.drewN | with_reducible apply Bl.grow | with_reducible apply Bl.alloc)) (Gr.bl g10)
  have X10 := At.gr (At.new w #[.int .i64 4, .int .i64 id, .int .i64 a, .int .i64 b, .int .i64 x0, .int .i64 y0, .int .i64 x1, .int .i64 y1, .string s, .slice A n c] 28) g10
  have k10_0 : w10.cell? ⟨w.heap.size, 0, none⟩ = some (.int .i64 4) := (X10.cell 0).trans rfl
  have k10_1 : w10.cell? ⟨w.heap.size, 1, none⟩ = some (.int .i64 id) := (X10.cell 1).trans rfl
  have k10_2 : w10.cell? ⟨w.heap.size, 2, none⟩ = some (.int .i64 a) := (X10.cell 2).trans rfl
  have k10_3 : w10.cell? ⟨w.heap.size, 3, none⟩ = some (.int .i64 b) := (X10.cell 3).trans rfl
  have k10_4 : w10.cell? ⟨w.heap.size, 4, none⟩ = some (.int .i64 x0) := (X10.cell 4).trans rfl
  have k10_5 : w10.cell? ⟨w.heap.size, 5, none⟩ = some (.int .i64 y0) := (X10.cell 5).trans rfl
  have k10_6 : w10.cell? ⟨w.heap.size, 6, none⟩ = some (.int .i64 x1) := (X10.cell 6).trans rfl
  have k10_7 : w10.cell? ⟨w.heap.size, 7, none⟩ = some (.int .i64 y1) := (X10.cell 7).trans rfl
  have k10_8 : w10.cell? ⟨w.heap.size, 8, none⟩ = some (.string s) := (X10.cell 8).trans rfl
  go_wp2
  go_ret
  exact ⟨rfl, by repeat (first | with_reducible exact Bl.refl _ | with_reducible assumption | with_reducible apply Bl.drew | with_reducible apply Bl.drewN | with_reducible apply Bl.grow | with_reducible apply Bl.alloc)⟩
set_option maxRecDepth 100000 in
set_option maxHeartbeats 2000000 in
theorem rmay_5 (id a b x0 y0 x1 y1 : Int) (s : ByteArray) (A : Option Addr) (n c : Nat) (h0 : ¬ id = 0) (h1 : btw 0 4294967295 id = true) (_hs : s.size ≤ 1000000) (w : World) : Calls Tryd.prog 53 #[.agg #[.int .i64 5, .int .i64 id, .int .i64 a, .int .i64 b, .int .i64 x0, .int .i64 y0, .int .i64 x1, .int .i64 y1, .string s, .slice A n c]] w (Bt w (.bool (true))) := by
  have c0 := fun V => rin1 id 0 4294967295 V
  rw [h1] at c0
  go_enter Tryd.func53, Tryd.ntmps53
  go_wp2_with fail
  refine (c0 _).mono ?_
  rintro e w10 ⟨rfl, g10⟩
  have G10 : Bl w w10 := Bl.trans (by repeat (first | with_reducible exact Bl.refl _ | with_reducible assumption | with_reducible apply Bl.drew | with_reducible apply Bl.drewN | with_reducible apply Bl.grow | with_reducible apply Bl.alloc)) (Gr.bl g10)
  have X10 := At.gr (At.new w #[.int .i64 5, .int .i64 id, .int .i64 a, .int .i64 b, .int .i64 x0, .int .i64 y0, .int .i64 x1, .int .i64 y1, .string s, .slice A n c] 28) g10
  have k10_0 : w10.cell? ⟨w.heap.size, 0, none⟩ = some (.int .i64 5) := (X10.cell 0).trans rfl
  have k10_1 : w10.cell? ⟨w.heap.size, 1, none⟩ = some (.int .i64 id) := (X10.cell 1).trans rfl
  have k10_2 : w10.cell? ⟨w.heap.size, 2, none⟩ = some (.int .i64 a) := (X10.cell 2).trans rfl
  have k10_3 : w10.cell? ⟨w.heap.size, 3, none⟩ = some (.int .i64 b) := (X10.cell 3).trans rfl
  have k10_4 : w10.cell? ⟨w.heap.size, 4, none⟩ = some (.int .i64 x0) := (X10.cell 4).trans rfl
  have k10_5 : w10.cell? ⟨w.heap.size, 5, none⟩ = some (.int .i64 y0) := (X10.cell 5).trans rfl
  have k10_6 : w10.cell? ⟨w.heap.size, 6, none⟩ = some (.int .i64 x1) := (X10.cell 6).trans rfl
  have k10_7 : w10.cell? ⟨w.heap.size, 7, none⟩ = some (.int .i64 y1) := (X10.cell 7).trans rfl
  have k10_8 : w10.cell? ⟨w.heap.size, 8, none⟩ = some (.string s) := (X10.cell 8).trans rfl
  go_wp2
  go_ret
  exact ⟨rfl, by repeat (first | with_reducible exact Bl.refl _ | with_reducible assumption | with_reducible apply Bl.drew | with_reducible apply Bl.drewN | with_reducible apply Bl.grow | with_reducible apply Bl.alloc)⟩
set_option maxRecDepth 100000 in
set_option maxHeartbeats 2000000 in
theorem rmay_6 (id a b x0 y0 x1 y1 : Int) (s : ByteArray) (A : Option Addr) (n c : Nat) (h0 : ¬ id = 0) (h1 : btw 0 4294967295 id = true) (_hs : s.size ≤ 1000000) (w : World) : Calls Tryd.prog 53 #[.agg #[.int .i64 6, .int .i64 id, .int .i64 a, .int .i64 b, .int .i64 x0, .int .i64 y0, .int .i64 x1, .int .i64 y1, .string s, .slice A n c]] w (Bt w (.bool (mayB x0 y0 x1 y1))) := by
  have c0 := fun V => rin1 id 0 4294967295 V
  rw [h1] at c0
  have c1 := fun V => refmay1 x0 y0 x1 y1 V
  generalize mayB x0 y0 x1 y1 = m1 at *
  go_enter Tryd.func53, Tryd.ntmps53
  go_wp2_with fail
  refine (c0 _).mono ?_
  rintro e w10 ⟨rfl, g10⟩
  have G10 : Bl w w10 := Bl.trans (by repeat (first | with_reducible exact Bl.refl _ | with_reducible assumption | with_reducible apply Bl.drew | with_reducible apply Bl.drewN | with_reducible apply Bl.grow | with_reducible apply Bl.alloc)) (Gr.bl g10)
  have X10 := At.gr (At.new w #[.int .i64 6, .int .i64 id, .int .i64 a, .int .i64 b, .int .i64 x0, .int .i64 y0, .int .i64 x1, .int .i64 y1, .string s, .slice A n c] 28) g10
  have k10_0 : w10.cell? ⟨w.heap.size, 0, none⟩ = some (.int .i64 6) := (X10.cell 0).trans rfl
  have k10_1 : w10.cell? ⟨w.heap.size, 1, none⟩ = some (.int .i64 id) := (X10.cell 1).trans rfl
  have k10_2 : w10.cell? ⟨w.heap.size, 2, none⟩ = some (.int .i64 a) := (X10.cell 2).trans rfl
  have k10_3 : w10.cell? ⟨w.heap.size, 3, none⟩ = some (.int .i64 b) := (X10.cell 3).trans rfl
  have k10_4 : w10.cell? ⟨w.heap.size, 4, none⟩ = some (.int .i64 x0) := (X10.cell 4).trans rfl
  have k10_5 : w10.cell? ⟨w.heap.size, 5, none⟩ = some (.int .i64 y0) := (X10.cell 5).trans rfl
  have k10_6 : w10.cell? ⟨w.heap.size, 6, none⟩ = some (.int .i64 x1) := (X10.cell 6).trans rfl
  have k10_7 : w10.cell? ⟨w.heap.size, 7, none⟩ = some (.int .i64 y1) := (X10.cell 7).trans rfl
  have k10_8 : w10.cell? ⟨w.heap.size, 8, none⟩ = some (.string s) := (X10.cell 8).trans rfl
  go_wp2_with fail
  refine (c1 _).mono ?_
  rintro e w11 ⟨rfl, g11⟩
  have G11 : Bl w w11 := Bl.trans (by repeat (first | with_reducible exact Bl.refl _ | with_reducible assumption | with_reducible apply Bl.drew | with_reducible apply Bl.drewN | with_reducible apply Bl.grow | with_reducible apply Bl.alloc)) (Gr.bl g11)
  go_wp2
  go_ret
  exact ⟨rfl, by repeat (first | with_reducible exact Bl.refl _ | with_reducible assumption | with_reducible apply Bl.drew | with_reducible apply Bl.drewN | with_reducible apply Bl.grow | with_reducible apply Bl.alloc)⟩
set_option maxRecDepth 100000 in
set_option maxHeartbeats 2000000 in
theorem rmay_7 (id a b x0 y0 x1 y1 : Int) (s : ByteArray) (A : Option Addr) (n c : Nat) (h0 : ¬ id = 0) (h1 : btw 0 4294967295 id = true) (_hs : s.size ≤ 1000000) (w : World) : Calls Tryd.prog 53 #[.agg #[.int .i64 7, .int .i64 id, .int .i64 a, .int .i64 b, .int .i64 x0, .int .i64 y0, .int .i64 x1, .int .i64 y1, .string s, .slice A n c]] w (Bt w (.bool (btw (-1048576) 1048576 a && btw (-1048576) 1048576 b))) := by
  have c0 := fun V => rin1 id 0 4294967295 V
  rw [h1] at c0
  have c1 := fun V => rin1 a (-1048576) 1048576 V
  have c2 := fun V => rin1 b (-1048576) 1048576 V
  generalize btw (-1048576) 1048576 a = m1 at *
  generalize btw (-1048576) 1048576 b = m2 at *
  cases m1
  · go_enter Tryd.func53, Tryd.ntmps53
    go_wp2_with fail
    refine (c0 _).mono ?_
    rintro e w10 ⟨rfl, g10⟩
    have G10 : Bl w w10 := Bl.trans (by repeat (first | with_reducible exact Bl.refl _ | with_reducible assumption | with_reducible apply Bl.drew | with_reducible apply Bl.drewN | with_reducible apply Bl.grow | with_reducible apply Bl.alloc)) (Gr.bl g10)
    have X10 := At.gr (At.new w #[.int .i64 7, .int .i64 id, .int .i64 a, .int .i64 b, .int .i64 x0, .int .i64 y0, .int .i64 x1, .int .i64 y1, .string s, .slice A n c] 28) g10
    have k10_0 : w10.cell? ⟨w.heap.size, 0, none⟩ = some (.int .i64 7) := (X10.cell 0).trans rfl
    have k10_1 : w10.cell? ⟨w.heap.size, 1, none⟩ = some (.int .i64 id) := (X10.cell 1).trans rfl
    have k10_2 : w10.cell? ⟨w.heap.size, 2, none⟩ = some (.int .i64 a) := (X10.cell 2).trans rfl
    have k10_3 : w10.cell? ⟨w.heap.size, 3, none⟩ = some (.int .i64 b) := (X10.cell 3).trans rfl
    have k10_4 : w10.cell? ⟨w.heap.size, 4, none⟩ = some (.int .i64 x0) := (X10.cell 4).trans rfl
    have k10_5 : w10.cell? ⟨w.heap.size, 5, none⟩ = some (.int .i64 y0) := (X10.cell 5).trans rfl
    have k10_6 : w10.cell? ⟨w.heap.size, 6, none⟩ = some (.int .i64 x1) := (X10.cell 6).trans rfl
    have k10_7 : w10.cell? ⟨w.heap.size, 7, none⟩ = some (.int .i64 y1) := (X10.cell 7).trans rfl
    have k10_8 : w10.cell? ⟨w.heap.size, 8, none⟩ = some (.string s) := (X10.cell 8).trans rfl
    go_wp2_with fail
    refine (c1 _).mono ?_
    rintro e w11 ⟨rfl, g11⟩
    have G11 : Bl w w11 := Bl.trans (by repeat (first | with_reducible exact Bl.refl _ | with_reducible assumption | with_reducible apply Bl.drew | with_reducible apply Bl.drewN | with_reducible apply Bl.grow | with_reducible apply Bl.alloc)) (Gr.bl g11)
    go_wp2
    go_ret
    exact ⟨rfl, by repeat (first | with_reducible exact Bl.refl _ | with_reducible assumption | with_reducible apply Bl.drew | with_reducible apply Bl.drewN | with_reducible apply Bl.grow | with_reducible apply Bl.alloc)⟩
  · go_enter Tryd.func53, Tryd.ntmps53
    go_wp2_with fail
    refine (c0 _).mono ?_
    rintro e w10 ⟨rfl, g10⟩
    have G10 : Bl w w10 := Bl.trans (by repeat (first | with_reducible exact Bl.refl _ | with_reducible assumption | with_reducible apply Bl.drew | with_reducible apply Bl.drewN | with_reducible apply Bl.grow | with_reducible apply Bl.alloc)) (Gr.bl g10)
    have X10 := At.gr (At.new w #[.int .i64 7, .int .i64 id, .int .i64 a, .int .i64 b, .int .i64 x0, .int .i64 y0, .int .i64 x1, .int .i64 y1, .string s, .slice A n c] 28) g10
    have k10_0 : w10.cell? ⟨w.heap.size, 0, none⟩ = some (.int .i64 7) := (X10.cell 0).trans rfl
    have k10_1 : w10.cell? ⟨w.heap.size, 1, none⟩ = some (.int .i64 id) := (X10.cell 1).trans rfl
    have k10_2 : w10.cell? ⟨w.heap.size, 2, none⟩ = some (.int .i64 a) := (X10.cell 2).trans rfl
    have k10_3 : w10.cell? ⟨w.heap.size, 3, none⟩ = some (.int .i64 b) := (X10.cell 3).trans rfl
    have k10_4 : w10.cell? ⟨w.heap.size, 4, none⟩ = some (.int .i64 x0) := (X10.cell 4).trans rfl
    have k10_5 : w10.cell? ⟨w.heap.size, 5, none⟩ = some (.int .i64 y0) := (X10.cell 5).trans rfl
    have k10_6 : w10.cell? ⟨w.heap.size, 6, none⟩ = some (.int .i64 x1) := (X10.cell 6).trans rfl
    have k10_7 : w10.cell? ⟨w.heap.size, 7, none⟩ = some (.int .i64 y1) := (X10.cell 7).trans rfl
    have k10_8 : w10.cell? ⟨w.heap.size, 8, none⟩ = some (.string s) := (X10.cell 8).trans rfl
    go_wp2_with fail
    refine (c1 _).mono ?_
    rintro e w11 ⟨rfl, g11⟩
    have G11 : Bl w w11 := Bl.trans (by repeat (first | with_reducible exact Bl.refl _ | with_reducible assumption | with_reducible apply Bl.drew | with_reducible apply Bl.drewN | with_reducible apply Bl.grow | with_reducible apply Bl.alloc)) (Gr.bl g11)
    have X11 := At.gr (X10) g11
    have k11_0 : w11.cell? ⟨w.heap.size, 0, none⟩ = some (.int .i64 7) := (X11.cell 0).trans rfl
    have k11_1 : w11.cell? ⟨w.heap.size, 1, none⟩ = some (.int .i64 id) := (X11.cell 1).trans rfl
    have k11_2 : w11.cell? ⟨w.heap.size, 2, none⟩ = some (.int .i64 a) := (X11.cell 2).trans rfl
    have k11_3 : w11.cell? ⟨w.heap.size, 3, none⟩ = some (.int .i64 b) := (X11.cell 3).trans rfl
    have k11_4 : w11.cell? ⟨w.heap.size, 4, none⟩ = some (.int .i64 x0) := (X11.cell 4).trans rfl
    have k11_5 : w11.cell? ⟨w.heap.size, 5, none⟩ = some (.int .i64 y0) := (X11.cell 5).trans rfl
    have k11_6 : w11.cell? ⟨w.heap.size, 6, none⟩ = some (.int .i64 x1) := (X11.cell 6).trans rfl
    have k11_7 : w11.cell? ⟨w.heap.size, 7, none⟩ = some (.int .i64 y1) := (X11.cell 7).trans rfl
    have k11_8 : w11.cell? ⟨w.heap.size, 8, none⟩ = some (.string s) := (X11.cell 8).trans rfl
    go_wp2_with fail
    refine (c2 _).mono ?_
    rintro e w12 ⟨rfl, g12⟩
    have G12 : Bl w w12 := Bl.trans (by repeat (first | with_reducible exact Bl.refl _ | with_reducible assumption | with_reducible apply Bl.drew | with_reducible apply Bl.drewN | with_reducible apply Bl.grow | with_reducible apply Bl.alloc)) (Gr.bl g12)
    go_wp2
    go_ret
    exact ⟨rfl, by repeat (first | with_reducible exact Bl.refl _ | with_reducible assumption | with_reducible apply Bl.drew | with_reducible apply Bl.drewN | with_reducible apply Bl.grow | with_reducible apply Bl.alloc)⟩
set_option maxRecDepth 100000 in
set_option maxHeartbeats 2000000 in
theorem rmay_8 (id a b x0 y0 x1 y1 : Int) (s : ByteArray) (A : Option Addr) (n c : Nat) (h0 : ¬ id = 0) (h1 : btw 0 4294967295 id = true) (_hs : s.size ≤ 1000000) (w : World) : Calls Tryd.prog 53 #[.agg #[.int .i64 8, .int .i64 id, .int .i64 a, .int .i64 b, .int .i64 x0, .int .i64 y0, .int .i64 x1, .int .i64 y1, .string s, .slice A n c]] w (Bt w (.bool (true))) := by
  have c0 := fun V => rin1 id 0 4294967295 V
  rw [h1] at c0
  go_enter Tryd.func53, Tryd.ntmps53
  go_wp2_with fail
  refine (c0 _).mono ?_
  rintro e w10 ⟨rfl, g10⟩
  have G10 : Bl w w10 := Bl.trans (by repeat (first | with_reducible exact Bl.refl _ | with_reducible assumption | with_reducible apply Bl.drew | with_reducible apply Bl.drewN | with_reducible apply Bl.grow | with_reducible apply Bl.alloc)) (Gr.bl g10)
  have X10 := At.gr (At.new w #[.int .i64 8, .int .i64 id, .int .i64 a, .int .i64 b, .int .i64 x0, .int .i64 y0, .int .i64 x1, .int .i64 y1, .string s, .slice A n c] 28) g10
  have k10_0 : w10.cell? ⟨w.heap.size, 0, none⟩ = some (.int .i64 8) := (X10.cell 0).trans rfl
  have k10_1 : w10.cell? ⟨w.heap.size, 1, none⟩ = some (.int .i64 id) := (X10.cell 1).trans rfl
  have k10_2 : w10.cell? ⟨w.heap.size, 2, none⟩ = some (.int .i64 a) := (X10.cell 2).trans rfl
  have k10_3 : w10.cell? ⟨w.heap.size, 3, none⟩ = some (.int .i64 b) := (X10.cell 3).trans rfl
  have k10_4 : w10.cell? ⟨w.heap.size, 4, none⟩ = some (.int .i64 x0) := (X10.cell 4).trans rfl
  have k10_5 : w10.cell? ⟨w.heap.size, 5, none⟩ = some (.int .i64 y0) := (X10.cell 5).trans rfl
  have k10_6 : w10.cell? ⟨w.heap.size, 6, none⟩ = some (.int .i64 x1) := (X10.cell 6).trans rfl
  have k10_7 : w10.cell? ⟨w.heap.size, 7, none⟩ = some (.int .i64 y1) := (X10.cell 7).trans rfl
  have k10_8 : w10.cell? ⟨w.heap.size, 8, none⟩ = some (.string s) := (X10.cell 8).trans rfl
  go_wp2
  go_ret
  exact ⟨rfl, by repeat (first | with_reducible exact Bl.refl _ | with_reducible assumption | with_reducible apply Bl.drew | with_reducible apply Bl.drewN | with_reducible apply Bl.grow | with_reducible apply Bl.alloc)⟩
set_option maxRecDepth 100000 in
set_option maxHeartbeats 2000000 in
theorem rmay_9 (id a b x0 y0 x1 y1 : Int) (s : ByteArray) (A : Option Addr) (n c : Nat) (h0 : ¬ id = 0) (h1 : btw 0 4294967295 id = true) (_hs : s.size ≤ 1000000) (w : World) : Calls Tryd.prog 53 #[.agg #[.int .i64 9, .int .i64 id, .int .i64 a, .int .i64 b, .int .i64 x0, .int .i64 y0, .int .i64 x1, .int .i64 y1, .string s, .slice A n c]] w (Bt w (.bool (true))) := by
  have c0 := fun V => rin1 id 0 4294967295 V
  rw [h1] at c0
  go_enter Tryd.func53, Tryd.ntmps53
  go_wp2_with fail
  refine (c0 _).mono ?_
  rintro e w10 ⟨rfl, g10⟩
  have G10 : Bl w w10 := Bl.trans (by repeat (first | with_reducible exact Bl.refl _ | with_reducible assumption | with_reducible apply Bl.drew | with_reducible apply Bl.drewN | with_reducible apply Bl.grow | with_reducible apply Bl.alloc)) (Gr.bl g10)
  have X10 := At.gr (At.new w #[.int .i64 9, .int .i64 id, .int .i64 a, .int .i64 b, .int .i64 x0, .int .i64 y0, .int .i64 x1, .int .i64 y1, .string s, .slice A n c] 28) g10
  have k10_0 : w10.cell? ⟨w.heap.size, 0, none⟩ = some (.int .i64 9) := (X10.cell 0).trans rfl
  have k10_1 : w10.cell? ⟨w.heap.size, 1, none⟩ = some (.int .i64 id) := (X10.cell 1).trans rfl
  have k10_2 : w10.cell? ⟨w.heap.size, 2, none⟩ = some (.int .i64 a) := (X10.cell 2).trans rfl
  have k10_3 : w10.cell? ⟨w.heap.size, 3, none⟩ = some (.int .i64 b) := (X10.cell 3).trans rfl
  have k10_4 : w10.cell? ⟨w.heap.size, 4, none⟩ = some (.int .i64 x0) := (X10.cell 4).trans rfl
  have k10_5 : w10.cell? ⟨w.heap.size, 5, none⟩ = some (.int .i64 y0) := (X10.cell 5).trans rfl
  have k10_6 : w10.cell? ⟨w.heap.size, 6, none⟩ = some (.int .i64 x1) := (X10.cell 6).trans rfl
  have k10_7 : w10.cell? ⟨w.heap.size, 7, none⟩ = some (.int .i64 y1) := (X10.cell 7).trans rfl
  have k10_8 : w10.cell? ⟨w.heap.size, 8, none⟩ = some (.string s) := (X10.cell 8).trans rfl
  go_wp2
  go_ret
  exact ⟨rfl, by repeat (first | with_reducible exact Bl.refl _ | with_reducible assumption | with_reducible apply Bl.drew | with_reducible apply Bl.drewN | with_reducible apply Bl.grow | with_reducible apply Bl.alloc)⟩
set_option maxRecDepth 100000 in
set_option maxHeartbeats 2000000 in
theorem rmay_10 (id a b x0 y0 x1 y1 : Int) (s : ByteArray) (A : Option Addr) (n c : Nat) (h0 : ¬ id = 0) (h1 : btw 0 4294967295 id = true) (_hs : s.size ≤ 1000000) (w : World) : Calls Tryd.prog 53 #[.agg #[.int .i64 10, .int .i64 id, .int .i64 a, .int .i64 b, .int .i64 x0, .int .i64 y0, .int .i64 x1, .int .i64 y1, .string s, .slice A n c]] w (Bt w (.bool (btw 1 8 a))) := by
  have c0 := fun V => rin1 id 0 4294967295 V
  rw [h1] at c0
  have c1 := fun V => rin1 a 1 8 V
  generalize btw 1 8 a = m1 at *
  go_enter Tryd.func53, Tryd.ntmps53
  go_wp2_with fail
  refine (c0 _).mono ?_
  rintro e w10 ⟨rfl, g10⟩
  have G10 : Bl w w10 := Bl.trans (by repeat (first | with_reducible exact Bl.refl _ | with_reducible assumption | with_reducible apply Bl.drew | with_reducible apply Bl.drewN | with_reducible apply Bl.grow | with_reducible apply Bl.alloc)) (Gr.bl g10)
  have X10 := At.gr (At.new w #[.int .i64 10, .int .i64 id, .int .i64 a, .int .i64 b, .int .i64 x0, .int .i64 y0, .int .i64 x1, .int .i64 y1, .string s, .slice A n c] 28) g10
  have k10_0 : w10.cell? ⟨w.heap.size, 0, none⟩ = some (.int .i64 10) := (X10.cell 0).trans rfl
  have k10_1 : w10.cell? ⟨w.heap.size, 1, none⟩ = some (.int .i64 id) := (X10.cell 1).trans rfl
  have k10_2 : w10.cell? ⟨w.heap.size, 2, none⟩ = some (.int .i64 a) := (X10.cell 2).trans rfl
  have k10_3 : w10.cell? ⟨w.heap.size, 3, none⟩ = some (.int .i64 b) := (X10.cell 3).trans rfl
  have k10_4 : w10.cell? ⟨w.heap.size, 4, none⟩ = some (.int .i64 x0) := (X10.cell 4).trans rfl
  have k10_5 : w10.cell? ⟨w.heap.size, 5, none⟩ = some (.int .i64 y0) := (X10.cell 5).trans rfl
  have k10_6 : w10.cell? ⟨w.heap.size, 6, none⟩ = some (.int .i64 x1) := (X10.cell 6).trans rfl
  have k10_7 : w10.cell? ⟨w.heap.size, 7, none⟩ = some (.int .i64 y1) := (X10.cell 7).trans rfl
  have k10_8 : w10.cell? ⟨w.heap.size, 8, none⟩ = some (.string s) := (X10.cell 8).trans rfl
  go_wp2_with fail
  refine (c1 _).mono ?_
  rintro e w11 ⟨rfl, g11⟩
  have G11 : Bl w w11 := Bl.trans (by repeat (first | with_reducible exact Bl.refl _ | with_reducible assumption | with_reducible apply Bl.drew | with_reducible apply Bl.drewN | with_reducible apply Bl.grow | with_reducible apply Bl.alloc)) (Gr.bl g11)
  go_wp2
  go_ret
  exact ⟨rfl, by repeat (first | with_reducible exact Bl.refl _ | with_reducible assumption | with_reducible apply Bl.drew | with_reducible apply Bl.drewN | with_reducible apply Bl.grow | with_reducible apply Bl.alloc)⟩
set_option maxRecDepth 100000 in
set_option maxHeartbeats 2000000 in
theorem rmay_11 (id a b x0 y0 x1 y1 : Int) (s : ByteArray) (A : Option Addr) (n c : Nat) (h0 : ¬ id = 0) (h1 : btw 0 4294967295 id = true) (_hs : s.size ≤ 1000000) (w : World) : Calls Tryd.prog 53 #[.agg #[.int .i64 11, .int .i64 id, .int .i64 a, .int .i64 b, .int .i64 x0, .int .i64 y0, .int .i64 x1, .int .i64 y1, .string s, .slice A n c]] w (Bt w (.bool (mayB x0 y0 x1 y1))) := by
  have c0 := fun V => rin1 id 0 4294967295 V
  rw [h1] at c0
  have c1 := fun V => refmay1 x0 y0 x1 y1 V
  generalize mayB x0 y0 x1 y1 = m1 at *
  go_enter Tryd.func53, Tryd.ntmps53
  go_wp2_with fail
  refine (c0 _).mono ?_
  rintro e w10 ⟨rfl, g10⟩
  have G10 : Bl w w10 := Bl.trans (by repeat (first | with_reducible exact Bl.refl _ | with_reducible assumption | with_reducible apply Bl.drew | with_reducible apply Bl.drewN | with_reducible apply Bl.grow | with_reducible apply Bl.alloc)) (Gr.bl g10)
  have X10 := At.gr (At.new w #[.int .i64 11, .int .i64 id, .int .i64 a, .int .i64 b, .int .i64 x0, .int .i64 y0, .int .i64 x1, .int .i64 y1, .string s, .slice A n c] 28) g10
  have k10_0 : w10.cell? ⟨w.heap.size, 0, none⟩ = some (.int .i64 11) := (X10.cell 0).trans rfl
  have k10_1 : w10.cell? ⟨w.heap.size, 1, none⟩ = some (.int .i64 id) := (X10.cell 1).trans rfl
  have k10_2 : w10.cell? ⟨w.heap.size, 2, none⟩ = some (.int .i64 a) := (X10.cell 2).trans rfl
  have k10_3 : w10.cell? ⟨w.heap.size, 3, none⟩ = some (.int .i64 b) := (X10.cell 3).trans rfl
  have k10_4 : w10.cell? ⟨w.heap.size, 4, none⟩ = some (.int .i64 x0) := (X10.cell 4).trans rfl
  have k10_5 : w10.cell? ⟨w.heap.size, 5, none⟩ = some (.int .i64 y0) := (X10.cell 5).trans rfl
  have k10_6 : w10.cell? ⟨w.heap.size, 6, none⟩ = some (.int .i64 x1) := (X10.cell 6).trans rfl
  have k10_7 : w10.cell? ⟨w.heap.size, 7, none⟩ = some (.int .i64 y1) := (X10.cell 7).trans rfl
  have k10_8 : w10.cell? ⟨w.heap.size, 8, none⟩ = some (.string s) := (X10.cell 8).trans rfl
  go_wp2_with fail
  refine (c1 _).mono ?_
  rintro e w11 ⟨rfl, g11⟩
  have G11 : Bl w w11 := Bl.trans (by repeat (first | with_reducible exact Bl.refl _ | with_reducible assumption | with_reducible apply Bl.drew | with_reducible apply Bl.drewN | with_reducible apply Bl.grow | with_reducible apply Bl.alloc)) (Gr.bl g11)
  go_wp2
  go_ret
  exact ⟨rfl, by repeat (first | with_reducible exact Bl.refl _ | with_reducible assumption | with_reducible apply Bl.drew | with_reducible apply Bl.drewN | with_reducible apply Bl.grow | with_reducible apply Bl.alloc)⟩
set_option maxRecDepth 100000 in
set_option maxHeartbeats 2000000 in
theorem rmay_12 (id a b x0 y0 x1 y1 : Int) (s : ByteArray) (A : Option Addr) (n c : Nat) (h0 : ¬ id = 0) (h1 : btw 0 4294967295 id = true) (_hs : s.size ≤ 1000000) (w : World) : Calls Tryd.prog 53 #[.agg #[.int .i64 12, .int .i64 id, .int .i64 a, .int .i64 b, .int .i64 x0, .int .i64 y0, .int .i64 x1, .int .i64 y1, .string s, .slice A n c]] w (Bt w (.bool (mayB x0 y0 x1 y1))) := by
  have c0 := fun V => rin1 id 0 4294967295 V
  rw [h1] at c0
  have c1 := fun V => refmay1 x0 y0 x1 y1 V
  generalize mayB x0 y0 x1 y1 = m1 at *
  go_enter Tryd.func53, Tryd.ntmps53
  go_wp2_with fail
  refine (c0 _).mono ?_
  rintro e w10 ⟨rfl, g10⟩
  have G10 : Bl w w10 := Bl.trans (by repeat (first | with_reducible exact Bl.refl _ | with_reducible assumption | with_reducible apply Bl.drew | with_reducible apply Bl.drewN | with_reducible apply Bl.grow | with_reducible apply Bl.alloc)) (Gr.bl g10)
  have X10 := At.gr (At.new w #[.int .i64 12, .int .i64 id, .int .i64 a, .int .i64 b, .int .i64 x0, .int .i64 y0, .int .i64 x1, .int .i64 y1, .string s, .slice A n c] 28) g10
  have k10_0 : w10.cell? ⟨w.heap.size, 0, none⟩ = some (.int .i64 12) := (X10.cell 0).trans rfl
  have k10_1 : w10.cell? ⟨w.heap.size, 1, none⟩ = some (.int .i64 id) := (X10.cell 1).trans rfl
  have k10_2 : w10.cell? ⟨w.heap.size, 2, none⟩ = some (.int .i64 a) := (X10.cell 2).trans rfl
  have k10_3 : w10.cell? ⟨w.heap.size, 3, none⟩ = some (.int .i64 b) := (X10.cell 3).trans rfl
  have k10_4 : w10.cell? ⟨w.heap.size, 4, none⟩ = some (.int .i64 x0) := (X10.cell 4).trans rfl
  have k10_5 : w10.cell? ⟨w.heap.size, 5, none⟩ = some (.int .i64 y0) := (X10.cell 5).trans rfl
  have k10_6 : w10.cell? ⟨w.heap.size, 6, none⟩ = some (.int .i64 x1) := (X10.cell 6).trans rfl
  have k10_7 : w10.cell? ⟨w.heap.size, 7, none⟩ = some (.int .i64 y1) := (X10.cell 7).trans rfl
  have k10_8 : w10.cell? ⟨w.heap.size, 8, none⟩ = some (.string s) := (X10.cell 8).trans rfl
  go_wp2_with fail
  refine (c1 _).mono ?_
  rintro e w11 ⟨rfl, g11⟩
  have G11 : Bl w w11 := Bl.trans (by repeat (first | with_reducible exact Bl.refl _ | with_reducible assumption | with_reducible apply Bl.drew | with_reducible apply Bl.drewN | with_reducible apply Bl.grow | with_reducible apply Bl.alloc)) (Gr.bl g11)
  go_wp2
  go_ret
  exact ⟨rfl, by repeat (first | with_reducible exact Bl.refl _ | with_reducible assumption | with_reducible apply Bl.drew | with_reducible apply Bl.drewN | with_reducible apply Bl.grow | with_reducible apply Bl.alloc)⟩
set_option maxRecDepth 100000 in
set_option maxHeartbeats 2000000 in
theorem rmay_13 (id a b x0 y0 x1 y1 : Int) (s : ByteArray) (A : Option Addr) (n c : Nat) (h0 : ¬ id = 0) (h1 : btw 0 4294967295 id = true) (_hs : s.size ≤ 1000000) (w : World) : Calls Tryd.prog 53 #[.agg #[.int .i64 13, .int .i64 id, .int .i64 a, .int .i64 b, .int .i64 x0, .int .i64 y0, .int .i64 x1, .int .i64 y1, .string s, .slice A n c]] w (Bt w (.bool (btw 0 255 a))) := by
  have c0 := fun V => rin1 id 0 4294967295 V
  rw [h1] at c0
  have c1 := fun V => rin1 a 0 255 V
  generalize btw 0 255 a = m1 at *
  go_enter Tryd.func53, Tryd.ntmps53
  go_wp2_with fail
  refine (c0 _).mono ?_
  rintro e w10 ⟨rfl, g10⟩
  have G10 : Bl w w10 := Bl.trans (by repeat (first | with_reducible exact Bl.refl _ | with_reducible assumption | with_reducible apply Bl.drew | with_reducible apply Bl.drewN | with_reducible apply Bl.grow | with_reducible apply Bl.alloc)) (Gr.bl g10)
  have X10 := At.gr (At.new w #[.int .i64 13, .int .i64 id, .int .i64 a, .int .i64 b, .int .i64 x0, .int .i64 y0, .int .i64 x1, .int .i64 y1, .string s, .slice A n c] 28) g10
  have k10_0 : w10.cell? ⟨w.heap.size, 0, none⟩ = some (.int .i64 13) := (X10.cell 0).trans rfl
  have k10_1 : w10.cell? ⟨w.heap.size, 1, none⟩ = some (.int .i64 id) := (X10.cell 1).trans rfl
  have k10_2 : w10.cell? ⟨w.heap.size, 2, none⟩ = some (.int .i64 a) := (X10.cell 2).trans rfl
  have k10_3 : w10.cell? ⟨w.heap.size, 3, none⟩ = some (.int .i64 b) := (X10.cell 3).trans rfl
  have k10_4 : w10.cell? ⟨w.heap.size, 4, none⟩ = some (.int .i64 x0) := (X10.cell 4).trans rfl
  have k10_5 : w10.cell? ⟨w.heap.size, 5, none⟩ = some (.int .i64 y0) := (X10.cell 5).trans rfl
  have k10_6 : w10.cell? ⟨w.heap.size, 6, none⟩ = some (.int .i64 x1) := (X10.cell 6).trans rfl
  have k10_7 : w10.cell? ⟨w.heap.size, 7, none⟩ = some (.int .i64 y1) := (X10.cell 7).trans rfl
  have k10_8 : w10.cell? ⟨w.heap.size, 8, none⟩ = some (.string s) := (X10.cell 8).trans rfl
  go_wp2_with fail
  refine (c1 _).mono ?_
  rintro e w11 ⟨rfl, g11⟩
  have G11 : Bl w w11 := Bl.trans (by repeat (first | with_reducible exact Bl.refl _ | with_reducible assumption | with_reducible apply Bl.drew | with_reducible apply Bl.drewN | with_reducible apply Bl.grow | with_reducible apply Bl.alloc)) (Gr.bl g11)
  go_wp2
  go_ret
  exact ⟨rfl, by repeat (first | with_reducible exact Bl.refl _ | with_reducible assumption | with_reducible apply Bl.drew | with_reducible apply Bl.drewN | with_reducible apply Bl.grow | with_reducible apply Bl.alloc)⟩
set_option maxRecDepth 100000 in
set_option maxHeartbeats 2000000 in
theorem rmay_14 (id a b x0 y0 x1 y1 : Int) (s : ByteArray) (A : Option Addr) (n c : Nat) (h0 : ¬ id = 0) (h1 : btw 0 4294967295 id = true) (hs : s.size ≤ 1000000) (w : World) : Calls Tryd.prog 53 #[.agg #[.int .i64 14, .int .i64 id, .int .i64 a, .int .i64 b, .int .i64 x0, .int .i64 y0, .int .i64 x1, .int .i64 y1, .string s, .slice A n c]] w (Bt w (.bool (mayX (sgs s.data.toList)))) := by
  have c0 := fun V => rin1 id 0 4294967295 V
  rw [h1] at c0
  have c1 := fun V => rmay1 s hs V
  generalize mayX (sgs s.data.toList) = m1 at *
  clear hs
  go_enter Tryd.func53, Tryd.ntmps53
  go_wp2_with fail
  refine (c0 _).mono ?_
  rintro e w10 ⟨rfl, g10⟩
  have G10 : Bl w w10 := Bl.trans (by repeat (first | with_reducible exact Bl.refl _ | with_reducible assumption | with_reducible apply Bl.drew | with_reducible apply Bl.drewN | with_reducible apply Bl.grow | with_reducible apply Bl.alloc)) (Gr.bl g10)
  have X10 := At.gr (At.new w #[.int .i64 14, .int .i64 id, .int .i64 a, .int .i64 b, .int .i64 x0, .int .i64 y0, .int .i64 x1, .int .i64 y1, .string s, .slice A n c] 28) g10
  have k10_0 : w10.cell? ⟨w.heap.size, 0, none⟩ = some (.int .i64 14) := (X10.cell 0).trans rfl
  have k10_1 : w10.cell? ⟨w.heap.size, 1, none⟩ = some (.int .i64 id) := (X10.cell 1).trans rfl
  have k10_2 : w10.cell? ⟨w.heap.size, 2, none⟩ = some (.int .i64 a) := (X10.cell 2).trans rfl
  have k10_3 : w10.cell? ⟨w.heap.size, 3, none⟩ = some (.int .i64 b) := (X10.cell 3).trans rfl
  have k10_4 : w10.cell? ⟨w.heap.size, 4, none⟩ = some (.int .i64 x0) := (X10.cell 4).trans rfl
  have k10_5 : w10.cell? ⟨w.heap.size, 5, none⟩ = some (.int .i64 y0) := (X10.cell 5).trans rfl
  have k10_6 : w10.cell? ⟨w.heap.size, 6, none⟩ = some (.int .i64 x1) := (X10.cell 6).trans rfl
  have k10_7 : w10.cell? ⟨w.heap.size, 7, none⟩ = some (.int .i64 y1) := (X10.cell 7).trans rfl
  have k10_8 : w10.cell? ⟨w.heap.size, 8, none⟩ = some (.string s) := (X10.cell 8).trans rfl
  go_wp2_with fail
  refine (c1 _).mono ?_
  rintro e w11 ⟨rfl, g11⟩
  have G11 : Bl w w11 := Bl.trans (by repeat (first | with_reducible exact Bl.refl _ | with_reducible assumption | with_reducible apply Bl.drew | with_reducible apply Bl.drewN | with_reducible apply Bl.grow | with_reducible apply Bl.alloc)) g11
  go_wp2
  go_ret
  exact ⟨rfl, by repeat (first | with_reducible exact Bl.refl _ | with_reducible assumption | with_reducible apply Bl.drew | with_reducible apply Bl.drewN | with_reducible apply Bl.grow | with_reducible apply Bl.alloc)⟩
set_option maxRecDepth 100000 in
set_option maxHeartbeats 2000000 in
theorem rmay_15 (id a b x0 y0 x1 y1 : Int) (s : ByteArray) (A : Option Addr) (n c : Nat) (h0 : ¬ id = 0) (h1 : btw 0 4294967295 id = true) (_hs : s.size ≤ 1000000) (w : World) : Calls Tryd.prog 53 #[.agg #[.int .i64 15, .int .i64 id, .int .i64 a, .int .i64 b, .int .i64 x0, .int .i64 y0, .int .i64 x1, .int .i64 y1, .string s, .slice A n c]] w (Bt w (.bool (true))) := by
  have c0 := fun V => rin1 id 0 4294967295 V
  rw [h1] at c0
  go_enter Tryd.func53, Tryd.ntmps53
  go_wp2_with fail
  refine (c0 _).mono ?_
  rintro e w10 ⟨rfl, g10⟩
  have G10 : Bl w w10 := Bl.trans (by repeat (first | with_reducible exact Bl.refl _ | with_reducible assumption | with_reducible apply Bl.drew | with_reducible apply Bl.drewN | with_reducible apply Bl.grow | with_reducible apply Bl.alloc)) (Gr.bl g10)
  have X10 := At.gr (At.new w #[.int .i64 15, .int .i64 id, .int .i64 a, .int .i64 b, .int .i64 x0, .int .i64 y0, .int .i64 x1, .int .i64 y1, .string s, .slice A n c] 28) g10
  have k10_0 : w10.cell? ⟨w.heap.size, 0, none⟩ = some (.int .i64 15) := (X10.cell 0).trans rfl
  have k10_1 : w10.cell? ⟨w.heap.size, 1, none⟩ = some (.int .i64 id) := (X10.cell 1).trans rfl
  have k10_2 : w10.cell? ⟨w.heap.size, 2, none⟩ = some (.int .i64 a) := (X10.cell 2).trans rfl
  have k10_3 : w10.cell? ⟨w.heap.size, 3, none⟩ = some (.int .i64 b) := (X10.cell 3).trans rfl
  have k10_4 : w10.cell? ⟨w.heap.size, 4, none⟩ = some (.int .i64 x0) := (X10.cell 4).trans rfl
  have k10_5 : w10.cell? ⟨w.heap.size, 5, none⟩ = some (.int .i64 y0) := (X10.cell 5).trans rfl
  have k10_6 : w10.cell? ⟨w.heap.size, 6, none⟩ = some (.int .i64 x1) := (X10.cell 6).trans rfl
  have k10_7 : w10.cell? ⟨w.heap.size, 7, none⟩ = some (.int .i64 y1) := (X10.cell 7).trans rfl
  have k10_8 : w10.cell? ⟨w.heap.size, 8, none⟩ = some (.string s) := (X10.cell 8).trans rfl
  go_wp2
  go_ret
  exact ⟨rfl, by repeat (first | with_reducible exact Bl.refl _ | with_reducible assumption | with_reducible apply Bl.drew | with_reducible apply Bl.drewN | with_reducible apply Bl.grow | with_reducible apply Bl.alloc)⟩
set_option maxRecDepth 100000 in
set_option maxHeartbeats 2000000 in
theorem rmay_16 (id a b x0 y0 x1 y1 : Int) (s : ByteArray) (A : Option Addr) (n c : Nat) (h0 : ¬ id = 0) (h1 : btw 0 4294967295 id = true) (_hs : s.size ≤ 1000000) (w : World) : Calls Tryd.prog 53 #[.agg #[.int .i64 16, .int .i64 id, .int .i64 a, .int .i64 b, .int .i64 x0, .int .i64 y0, .int .i64 x1, .int .i64 y1, .string s, .slice A n c]] w (Bt w (.bool (true))) := by
  have c0 := fun V => rin1 id 0 4294967295 V
  rw [h1] at c0
  go_enter Tryd.func53, Tryd.ntmps53
  go_wp2_with fail
  refine (c0 _).mono ?_
  rintro e w10 ⟨rfl, g10⟩
  have G10 : Bl w w10 := Bl.trans (by repeat (first | with_reducible exact Bl.refl _ | with_reducible assumption | with_reducible apply Bl.drew | with_reducible apply Bl.drewN | with_reducible apply Bl.grow | with_reducible apply Bl.alloc)) (Gr.bl g10)
  have X10 := At.gr (At.new w #[.int .i64 16, .int .i64 id, .int .i64 a, .int .i64 b, .int .i64 x0, .int .i64 y0, .int .i64 x1, .int .i64 y1, .string s, .slice A n c] 28) g10
  have k10_0 : w10.cell? ⟨w.heap.size, 0, none⟩ = some (.int .i64 16) := (X10.cell 0).trans rfl
  have k10_1 : w10.cell? ⟨w.heap.size, 1, none⟩ = some (.int .i64 id) := (X10.cell 1).trans rfl
  have k10_2 : w10.cell? ⟨w.heap.size, 2, none⟩ = some (.int .i64 a) := (X10.cell 2).trans rfl
  have k10_3 : w10.cell? ⟨w.heap.size, 3, none⟩ = some (.int .i64 b) := (X10.cell 3).trans rfl
  have k10_4 : w10.cell? ⟨w.heap.size, 4, none⟩ = some (.int .i64 x0) := (X10.cell 4).trans rfl
  have k10_5 : w10.cell? ⟨w.heap.size, 5, none⟩ = some (.int .i64 y0) := (X10.cell 5).trans rfl
  have k10_6 : w10.cell? ⟨w.heap.size, 6, none⟩ = some (.int .i64 x1) := (X10.cell 6).trans rfl
  have k10_7 : w10.cell? ⟨w.heap.size, 7, none⟩ = some (.int .i64 y1) := (X10.cell 7).trans rfl
  have k10_8 : w10.cell? ⟨w.heap.size, 8, none⟩ = some (.string s) := (X10.cell 8).trans rfl
  go_wp2
  go_ret
  exact ⟨rfl, by repeat (first | with_reducible exact Bl.refl _ | with_reducible assumption | with_reducible apply Bl.drew | with_reducible apply Bl.drewN | with_reducible apply Bl.grow | with_reducible apply Bl.alloc)⟩
set_option maxRecDepth 100000 in
set_option maxHeartbeats 2000000 in
theorem rmay_17 (id a b x0 y0 x1 y1 : Int) (s : ByteArray) (A : Option Addr) (n c : Nat) (h0 : ¬ id = 0) (h1 : btw 0 4294967295 id = true) (_hs : s.size ≤ 1000000) (w : World) : Calls Tryd.prog 53 #[.agg #[.int .i64 17, .int .i64 id, .int .i64 a, .int .i64 b, .int .i64 x0, .int .i64 y0, .int .i64 x1, .int .i64 y1, .string s, .slice A n c]] w (Bt w (.bool (btw (-1048576) 1048576 a && btw (-1048576) 1048576 b))) := by
  have c0 := fun V => rin1 id 0 4294967295 V
  rw [h1] at c0
  have c1 := fun V => rin1 a (-1048576) 1048576 V
  have c2 := fun V => rin1 b (-1048576) 1048576 V
  generalize btw (-1048576) 1048576 a = m1 at *
  generalize btw (-1048576) 1048576 b = m2 at *
  cases m1
  · go_enter Tryd.func53, Tryd.ntmps53
    go_wp2_with fail
    refine (c0 _).mono ?_
    rintro e w10 ⟨rfl, g10⟩
    have G10 : Bl w w10 := Bl.trans (by repeat (first | with_reducible exact Bl.refl _ | with_reducible assumption | with_reducible apply Bl.drew | with_reducible apply Bl.drewN | with_reducible apply Bl.grow | with_reducible apply Bl.alloc)) (Gr.bl g10)
    have X10 := At.gr (At.new w #[.int .i64 17, .int .i64 id, .int .i64 a, .int .i64 b, .int .i64 x0, .int .i64 y0, .int .i64 x1, .int .i64 y1, .string s, .slice A n c] 28) g10
    have k10_0 : w10.cell? ⟨w.heap.size, 0, none⟩ = some (.int .i64 17) := (X10.cell 0).trans rfl
    have k10_1 : w10.cell? ⟨w.heap.size, 1, none⟩ = some (.int .i64 id) := (X10.cell 1).trans rfl
    have k10_2 : w10.cell? ⟨w.heap.size, 2, none⟩ = some (.int .i64 a) := (X10.cell 2).trans rfl
    have k10_3 : w10.cell? ⟨w.heap.size, 3, none⟩ = some (.int .i64 b) := (X10.cell 3).trans rfl
    have k10_4 : w10.cell? ⟨w.heap.size, 4, none⟩ = some (.int .i64 x0) := (X10.cell 4).trans rfl
    have k10_5 : w10.cell? ⟨w.heap.size, 5, none⟩ = some (.int .i64 y0) := (X10.cell 5).trans rfl
    have k10_6 : w10.cell? ⟨w.heap.size, 6, none⟩ = some (.int .i64 x1) := (X10.cell 6).trans rfl
    have k10_7 : w10.cell? ⟨w.heap.size, 7, none⟩ = some (.int .i64 y1) := (X10.cell 7).trans rfl
    have k10_8 : w10.cell? ⟨w.heap.size, 8, none⟩ = some (.string s) := (X10.cell 8).trans rfl
    go_wp2_with fail
    refine (c1 _).mono ?_
    rintro e w11 ⟨rfl, g11⟩
    have G11 : Bl w w11 := Bl.trans (by repeat (first | with_reducible exact Bl.refl _ | with_reducible assumption | with_reducible apply Bl.drew | with_reducible apply Bl.drewN | with_reducible apply Bl.grow | with_reducible apply Bl.alloc)) (Gr.bl g11)
    go_wp2
    go_ret
    exact ⟨rfl, by repeat (first | with_reducible exact Bl.refl _ | with_reducible assumption | with_reducible apply Bl.drew | with_reducible apply Bl.drewN | with_reducible apply Bl.grow | with_reducible apply Bl.alloc)⟩
  · go_enter Tryd.func53, Tryd.ntmps53
    go_wp2_with fail
    refine (c0 _).mono ?_
    rintro e w10 ⟨rfl, g10⟩
    have G10 : Bl w w10 := Bl.trans (by repeat (first | with_reducible exact Bl.refl _ | with_reducible assumption | with_reducible apply Bl.drew | with_reducible apply Bl.drewN | with_reducible apply Bl.grow | with_reducible apply Bl.alloc)) (Gr.bl g10)
    have X10 := At.gr (At.new w #[.int .i64 17, .int .i64 id, .int .i64 a, .int .i64 b, .int .i64 x0, .int .i64 y0, .int .i64 x1, .int .i64 y1, .string s, .slice A n c] 28) g10
    have k10_0 : w10.cell? ⟨w.heap.size, 0, none⟩ = some (.int .i64 17) := (X10.cell 0).trans rfl
    have k10_1 : w10.cell? ⟨w.heap.size, 1, none⟩ = some (.int .i64 id) := (X10.cell 1).trans rfl
    have k10_2 : w10.cell? ⟨w.heap.size, 2, none⟩ = some (.int .i64 a) := (X10.cell 2).trans rfl
    have k10_3 : w10.cell? ⟨w.heap.size, 3, none⟩ = some (.int .i64 b) := (X10.cell 3).trans rfl
    have k10_4 : w10.cell? ⟨w.heap.size, 4, none⟩ = some (.int .i64 x0) := (X10.cell 4).trans rfl
    have k10_5 : w10.cell? ⟨w.heap.size, 5, none⟩ = some (.int .i64 y0) := (X10.cell 5).trans rfl
    have k10_6 : w10.cell? ⟨w.heap.size, 6, none⟩ = some (.int .i64 x1) := (X10.cell 6).trans rfl
    have k10_7 : w10.cell? ⟨w.heap.size, 7, none⟩ = some (.int .i64 y1) := (X10.cell 7).trans rfl
    have k10_8 : w10.cell? ⟨w.heap.size, 8, none⟩ = some (.string s) := (X10.cell 8).trans rfl
    go_wp2_with fail
    refine (c1 _).mono ?_
    rintro e w11 ⟨rfl, g11⟩
    have G11 : Bl w w11 := Bl.trans (by repeat (first | with_reducible exact Bl.refl _ | with_reducible assumption | with_reducible apply Bl.drew | with_reducible apply Bl.drewN | with_reducible apply Bl.grow | with_reducible apply Bl.alloc)) (Gr.bl g11)
    have X11 := At.gr (X10) g11
    have k11_0 : w11.cell? ⟨w.heap.size, 0, none⟩ = some (.int .i64 17) := (X11.cell 0).trans rfl
    have k11_1 : w11.cell? ⟨w.heap.size, 1, none⟩ = some (.int .i64 id) := (X11.cell 1).trans rfl
    have k11_2 : w11.cell? ⟨w.heap.size, 2, none⟩ = some (.int .i64 a) := (X11.cell 2).trans rfl
    have k11_3 : w11.cell? ⟨w.heap.size, 3, none⟩ = some (.int .i64 b) := (X11.cell 3).trans rfl
    have k11_4 : w11.cell? ⟨w.heap.size, 4, none⟩ = some (.int .i64 x0) := (X11.cell 4).trans rfl
    have k11_5 : w11.cell? ⟨w.heap.size, 5, none⟩ = some (.int .i64 y0) := (X11.cell 5).trans rfl
    have k11_6 : w11.cell? ⟨w.heap.size, 6, none⟩ = some (.int .i64 x1) := (X11.cell 6).trans rfl
    have k11_7 : w11.cell? ⟨w.heap.size, 7, none⟩ = some (.int .i64 y1) := (X11.cell 7).trans rfl
    have k11_8 : w11.cell? ⟨w.heap.size, 8, none⟩ = some (.string s) := (X11.cell 8).trans rfl
    go_wp2_with fail
    refine (c2 _).mono ?_
    rintro e w12 ⟨rfl, g12⟩
    have G12 : Bl w w12 := Bl.trans (by repeat (first | with_reducible exact Bl.refl _ | with_reducible assumption | with_reducible apply Bl.drew | with_reducible apply Bl.drewN | with_reducible apply Bl.grow | with_reducible apply Bl.alloc)) (Gr.bl g12)
    go_wp2
    go_ret
    exact ⟨rfl, by repeat (first | with_reducible exact Bl.refl _ | with_reducible assumption | with_reducible apply Bl.drew | with_reducible apply Bl.drewN | with_reducible apply Bl.grow | with_reducible apply Bl.alloc)⟩
set_option maxRecDepth 100000 in
set_option maxHeartbeats 2000000 in
theorem rmay_18 (a b x0 y0 x1 y1 : Int) (s : ByteArray) (A : Option Addr) (n c : Nat) (_hs : s.size ≤ 1000000) (w : World) : Calls Tryd.prog 53 #[.agg #[.int .i64 18, .int .i64 0, .int .i64 a, .int .i64 b, .int .i64 x0, .int .i64 y0, .int .i64 x1, .int .i64 y1, .string s, .slice A n c]] w (Bt w (.bool (btw (-1048576) 1048576 a && btw (-1048576) 1048576 b))) := by
  have c0 := fun V => rin1 0 0 4294967295 V
  rw [show btw 0 4294967295 0 = true from rfl] at c0
  have c1 := fun V => rin1 a (-1048576) 1048576 V
  have c2 := fun V => rin1 b (-1048576) 1048576 V
  generalize btw (-1048576) 1048576 a = m1 at *
  generalize btw (-1048576) 1048576 b = m2 at *
  cases m1
  · go_enter Tryd.func53, Tryd.ntmps53
    go_wp2_with fail
    refine (c0 _).mono ?_
    rintro e w10 ⟨rfl, g10⟩
    have G10 : Bl w w10 := Bl.trans (by repeat (first | with_reducible exact Bl.refl _ | with_reducible assumption | with_reducible apply Bl.drew | with_reducible apply Bl.drewN | with_reducible apply Bl.grow | with_reducible apply Bl.alloc)) (Gr.bl g10)
    have X10 := At.gr (At.new w #[.int .i64 18, .int .i64 0, .int .i64 a, .int .i64 b, .int .i64 x0, .int .i64 y0, .int .i64 x1, .int .i64 y1, .string s, .slice A n c] 28) g10
    have k10_0 : w10.cell? ⟨w.heap.size, 0, none⟩ = some (.int .i64 18) := (X10.cell 0).trans rfl
    have k10_1 : w10.cell? ⟨w.heap.size, 1, none⟩ = some (.int .i64 0) := (X10.cell 1).trans rfl
    have k10_2 : w10.cell? ⟨w.heap.size, 2, none⟩ = some (.int .i64 a) := (X10.cell 2).trans rfl
    have k10_3 : w10.cell? ⟨w.heap.size, 3, none⟩ = some (.int .i64 b) := (X10.cell 3).trans rfl
    have k10_4 : w10.cell? ⟨w.heap.size, 4, none⟩ = some (.int .i64 x0) := (X10.cell 4).trans rfl
    have k10_5 : w10.cell? ⟨w.heap.size, 5, none⟩ = some (.int .i64 y0) := (X10.cell 5).trans rfl
    have k10_6 : w10.cell? ⟨w.heap.size, 6, none⟩ = some (.int .i64 x1) := (X10.cell 6).trans rfl
    have k10_7 : w10.cell? ⟨w.heap.size, 7, none⟩ = some (.int .i64 y1) := (X10.cell 7).trans rfl
    have k10_8 : w10.cell? ⟨w.heap.size, 8, none⟩ = some (.string s) := (X10.cell 8).trans rfl
    go_wp2_with fail
    refine (c1 _).mono ?_
    rintro e w11 ⟨rfl, g11⟩
    have G11 : Bl w w11 := Bl.trans (by repeat (first | with_reducible exact Bl.refl _ | with_reducible assumption | with_reducible apply Bl.drew | with_reducible apply Bl.drewN | with_reducible apply Bl.grow | with_reducible apply Bl.alloc)) (Gr.bl g11)
    go_wp2
    go_ret
    exact ⟨rfl, by repeat (first | with_reducible exact Bl.refl _ | with_reducible assumption | with_reducible apply Bl.drew | with_reducible apply Bl.drewN | with_reducible apply Bl.grow | with_reducible apply Bl.alloc)⟩
  · go_enter Tryd.func53, Tryd.ntmps53
    go_wp2_with fail
    refine (c0 _).mono ?_
    rintro e w10 ⟨rfl, g10⟩
    have G10 : Bl w w10 := Bl.trans (by repeat (first | with_reducible exact Bl.refl _ | with_reducible assumption | with_reducible apply Bl.drew | with_reducible apply Bl.drewN | with_reducible apply Bl.grow | with_reducible apply Bl.alloc)) (Gr.bl g10)
    have X10 := At.gr (At.new w #[.int .i64 18, .int .i64 0, .int .i64 a, .int .i64 b, .int .i64 x0, .int .i64 y0, .int .i64 x1, .int .i64 y1, .string s, .slice A n c] 28) g10
    have k10_0 : w10.cell? ⟨w.heap.size, 0, none⟩ = some (.int .i64 18) := (X10.cell 0).trans rfl
    have k10_1 : w10.cell? ⟨w.heap.size, 1, none⟩ = some (.int .i64 0) := (X10.cell 1).trans rfl
    have k10_2 : w10.cell? ⟨w.heap.size, 2, none⟩ = some (.int .i64 a) := (X10.cell 2).trans rfl
    have k10_3 : w10.cell? ⟨w.heap.size, 3, none⟩ = some (.int .i64 b) := (X10.cell 3).trans rfl
    have k10_4 : w10.cell? ⟨w.heap.size, 4, none⟩ = some (.int .i64 x0) := (X10.cell 4).trans rfl
    have k10_5 : w10.cell? ⟨w.heap.size, 5, none⟩ = some (.int .i64 y0) := (X10.cell 5).trans rfl
    have k10_6 : w10.cell? ⟨w.heap.size, 6, none⟩ = some (.int .i64 x1) := (X10.cell 6).trans rfl
    have k10_7 : w10.cell? ⟨w.heap.size, 7, none⟩ = some (.int .i64 y1) := (X10.cell 7).trans rfl
    have k10_8 : w10.cell? ⟨w.heap.size, 8, none⟩ = some (.string s) := (X10.cell 8).trans rfl
    go_wp2_with fail
    refine (c1 _).mono ?_
    rintro e w11 ⟨rfl, g11⟩
    have G11 : Bl w w11 := Bl.trans (by repeat (first | with_reducible exact Bl.refl _ | with_reducible assumption | with_reducible apply Bl.drew | with_reducible apply Bl.drewN | with_reducible apply Bl.grow | with_reducible apply Bl.alloc)) (Gr.bl g11)
    have X11 := At.gr (X10) g11
    have k11_0 : w11.cell? ⟨w.heap.size, 0, none⟩ = some (.int .i64 18) := (X11.cell 0).trans rfl
    have k11_1 : w11.cell? ⟨w.heap.size, 1, none⟩ = some (.int .i64 0) := (X11.cell 1).trans rfl
    have k11_2 : w11.cell? ⟨w.heap.size, 2, none⟩ = some (.int .i64 a) := (X11.cell 2).trans rfl
    have k11_3 : w11.cell? ⟨w.heap.size, 3, none⟩ = some (.int .i64 b) := (X11.cell 3).trans rfl
    have k11_4 : w11.cell? ⟨w.heap.size, 4, none⟩ = some (.int .i64 x0) := (X11.cell 4).trans rfl
    have k11_5 : w11.cell? ⟨w.heap.size, 5, none⟩ = some (.int .i64 y0) := (X11.cell 5).trans rfl
    have k11_6 : w11.cell? ⟨w.heap.size, 6, none⟩ = some (.int .i64 x1) := (X11.cell 6).trans rfl
    have k11_7 : w11.cell? ⟨w.heap.size, 7, none⟩ = some (.int .i64 y1) := (X11.cell 7).trans rfl
    have k11_8 : w11.cell? ⟨w.heap.size, 8, none⟩ = some (.string s) := (X11.cell 8).trans rfl
    go_wp2_with fail
    refine (c2 _).mono ?_
    rintro e w12 ⟨rfl, g12⟩
    have G12 : Bl w w12 := Bl.trans (by repeat (first | with_reducible exact Bl.refl _ | with_reducible assumption | with_reducible apply Bl.drew | with_reducible apply Bl.drewN | with_reducible apply Bl.grow | with_reducible apply Bl.alloc)) (Gr.bl g12)
    go_wp2
    go_ret
    exact ⟨rfl, by repeat (first | with_reducible exact Bl.refl _ | with_reducible assumption | with_reducible apply Bl.drew | with_reducible apply Bl.drewN | with_reducible apply Bl.grow | with_reducible apply Bl.alloc)⟩
set_option maxRecDepth 100000 in
set_option maxHeartbeats 2000000 in
theorem rmayQ1 (r : Rq) (A : Option Addr) (n c : Nat) (ho : 0 ≤ r.op ∧ r.op ≤ 18) (hs : r.s.size ≤ 1000000) (w : World) : Calls Tryd.prog 53 #[.agg #[.int .i64 r.op, .int .i64 r.id, .int .i64 r.a, .int .i64 r.b, .int .i64 r.x0, .int .i64 r.y0, .int .i64 r.x1, .int .i64 r.y1, .string r.s, .slice A n c]] w (Bt w (.bool (mayQ r))) := by
  obtain ⟨op, id, a, b, x0, y0, x1, y1, s, d⟩ := r
  dsimp only at *
  unfold mayQ
  dsimp only
  cases hid : idB op id with
  | false => exact rmay_bad op id a b x0 y0 x1 y1 s A n c ho hid w
  | true =>
    rw [Bool.true_and]
    rw [idB_eq ho, Bool.and_eq_true] at hid
    obtain ⟨h1, h2⟩ := hid
    have h3 : (id = 0 ↔ op = 18) := by simpa using h1
    have hc : op = 0 ∨ op = 1 ∨ op = 2 ∨ op = 3 ∨ op = 4 ∨ op = 5 ∨ op = 6 ∨ op = 7 ∨ op = 8 ∨ op = 9 ∨ op = 10 ∨ op = 11 ∨ op = 12 ∨ op = 13 ∨ op = 14 ∨ op = 15 ∨ op = 16 ∨ op = 17 ∨ op = 18 := by omega
    rcases hc with rfl | rfl | rfl | rfl | rfl | rfl | rfl | rfl | rfl | rfl | rfl | rfl | rfl | rfl | rfl | rfl | rfl | rfl | rfl
    · exact rmay_0 id a b x0 y0 x1 y1 s A n c (fun h => by have := h3.1 h; omega) h2 hs w
    · exact rmay_1 id a b x0 y0 x1 y1 s A n c (fun h => by have := h3.1 h; omega) h2 hs w
    · exact rmay_2 id a b x0 y0 x1 y1 s A n c (fun h => by have := h3.1 h; omega) h2 hs w
    · exact rmay_3 id a b x0 y0 x1 y1 s A n c (fun h => by have := h3.1 h; omega) h2 hs w
    · exact rmay_4 id a b x0 y0 x1 y1 s A n c (fun h => by have := h3.1 h; omega) h2 hs w
    · exact rmay_5 id a b x0 y0 x1 y1 s A n c (fun h => by have := h3.1 h; omega) h2 hs w
    · exact rmay_6 id a b x0 y0 x1 y1 s A n c (fun h => by have := h3.1 h; omega) h2 hs w
    · exact rmay_7 id a b x0 y0 x1 y1 s A n c (fun h => by have := h3.1 h; omega) h2 hs w
    · exact rmay_8 id a b x0 y0 x1 y1 s A n c (fun h => by have := h3.1 h; omega) h2 hs w
    · exact rmay_9 id a b x0 y0 x1 y1 s A n c (fun h => by have := h3.1 h; omega) h2 hs w
    · exact rmay_10 id a b x0 y0 x1 y1 s A n c (fun h => by have := h3.1 h; omega) h2 hs w
    · exact rmay_11 id a b x0 y0 x1 y1 s A n c (fun h => by have := h3.1 h; omega) h2 hs w
    · exact rmay_12 id a b x0 y0 x1 y1 s A n c (fun h => by have := h3.1 h; omega) h2 hs w
    · exact rmay_13 id a b x0 y0 x1 y1 s A n c (fun h => by have := h3.1 h; omega) h2 hs w
    · exact rmay_14 id a b x0 y0 x1 y1 s A n c (fun h => by have := h3.1 h; omega) h2 hs w
    · exact rmay_15 id a b x0 y0 x1 y1 s A n c (fun h => by have := h3.1 h; omega) h2 hs w
    · exact rmay_16 id a b x0 y0 x1 y1 s A n c (fun h => by have := h3.1 h; omega) h2 hs w
    · exact rmay_17 id a b x0 y0 x1 y1 s A n c (fun h => by have := h3.1 h; omega) h2 hs w
    · obtain rfl := h3.2 rfl
      exact rmay_18 a b x0 y0 x1 y1 s A n c hs w

end Go.Proofs.YthkbenhlhldglaaDoor
