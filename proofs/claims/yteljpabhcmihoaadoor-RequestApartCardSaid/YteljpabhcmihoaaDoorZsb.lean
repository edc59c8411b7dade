/-
  What is proved: the statement RequestApart walked: two requests that may be have the same message just if they are the same. No conditions but bounds.
-/
import Derived.Test.YteljpabhcmihoaaDoorMk
import Derived.Test.YteljpabhcmihoaaDoorZn
import Derived.Test.YteljpabhcmihoaaDoorZph
import Derived.Deep.RegionHeld3
namespace Go.Proofs.YteljpabhcmihoaaDoor
open Go.RowKit Go.Sort

set_option maxRecDepth 100000 in
set_option maxHeartbeats 2000000 in
theorem apart_walk (ra rb x y : Rq) (mx my : Ms) (Aa Ab : Option Addr) (na ca nb cb : Nat) (w : World) (B : Bool)
    (cg1 : ∀ V, Bl w V → Calls Tryd.prog 11 #[.agg #[.int .i64 ra.op, .int .i64 ra.id, .int .i64 ra.a, .int .i64 ra.b, .int .i64 ra.x0, .int .i64 ra.y0, .int .i64 ra.x1, .int .i64 ra.y1, .string ra.s, .slice Aa na ca]] V (GoodQ V x))
    (cg2 : ∀ V, Bl w V → Calls Tryd.prog 11 #[.agg #[.int .i64 rb.op, .int .i64 rb.id, .int .i64 rb.a, .int .i64 rb.b, .int .i64 rb.x0, .int .i64 rb.y0, .int .i64 rb.x1, .int .i64 rb.y1, .string rb.s, .slice Ab nb cb]] V (GoodQ V y))
    (ce1 : ∀ V d, Sv V d x.d → Calls Tryd.prog 17 #[vQ x d] V (EncQ V (mx, 0)))
    (ce2 : ∀ V d, Sv V d y.d → Calls Tryd.prog 17 #[vQ y d] V (EncQ V (my, 0)))
    (cm : ∀ V d e, Sv V d mx.body → Sv V e my.body → Calls Tryd.prog 19 #[.agg #[.int .i64 mx.op, .int .i64 mx.id, d], .agg #[.int .i64 my.op, .int .i64 my.id, e]] V (Rt V (.bool B)))
    (cr : ∀ V d e, Sv V d x.d → Sv V e y.d → Calls Tryd.prog 28 #[vQ x d, vQ y e] V (Rt V (.bool B)))
    (cq : ∀ V d e, Sv V d x.d → Sv V e y.d → Calls Tryd.prog 20 #[vQ x d, vQ y e] V (Rt V (.bool B))) :
    Calls Tryd.prog 8 #[.agg #[.int .i64 ra.op, .int .i64 ra.id, .int .i64 ra.a, .int .i64 ra.b, .int .i64 ra.x0, .int .i64 ra.y0, .int .i64 ra.x1, .int .i64 ra.y1, .string ra.s, .slice Aa na ca], .agg #[.int .i64 rb.op, .int .i64 rb.id, .int .i64 rb.a, .int .i64 rb.b, .int .i64 rb.x0, .int .i64 rb.y0, .int .i64 rb.x1, .int .i64 rb.y1, .string rb.s, .slice Ab nb cb]] w (Bt w (.bool true)) := by
  have cl := qlives1
  have cas := qas1
  have G0 : Bl w ((w.alloc (.cells #[.int .i64 ra.op, .int .i64 ra.id, .int .i64 ra.a, .int .i64 ra.b, .int .i64 ra.x0, .int .i64 ra.y0, .int .i64 ra.x1, .int .i64 ra.y1, .string ra.s, .slice Aa na ca] 28)).alloc (.cells #[.int .i64 rb.op, .int .i64 rb.id, .int .i64 rb.a, .int .i64 rb.b, .int .i64 rb.x0, .int .i64 rb.y0, .int .i64 rb.x1, .int .i64 rb.y1, .string rb.s, .slice Ab nb cb] 28)) := ((Bl.refl w).alloc _).alloc _
  have XB := At.newAt (w := w.alloc (.cells #[.int .i64 ra.op, .int .i64 ra.id, .int .i64 ra.a, .int .i64 ra.b, .int .i64 ra.x0, .int .i64 ra.y0, .int .i64 ra.x1, .int .i64 ra.y1, .string ra.s, .slice Aa na ca] 28)) (n := w.heap.size + 1) (by simp) #[.int .i64 rb.op, .int .i64 rb.id, .int .i64 rb.a, .int .i64 rb.b, .int .i64 rb.x0, .int .i64 rb.y0, .int .i64 rb.x1, .int .i64 rb.y1, .string rb.s, .slice Ab nb cb] 28
  go_enter Tryd.func8, Tryd.ntmps8
  go_wp2_with fail
  refine (cg1 _ G0).mono ?_
  rintro e w1 ⟨dx, rfl, sx, g1⟩
  obtain ⟨Ax, cx, rfl, hx⟩ := sx
  have sx : Sv w1 (.slice Ax x.d.length cx) x.d := ⟨Ax, cx, rfl, hx⟩
  obtain ⟨nx, hnx⟩ : ∃ nx, nx = x.d.length := ⟨_, rfl⟩
  rw [← hnx] at sx ⊢
  replace hnx := Lib.hid hnx
  clear hx
  have XB1 := (XB.bl g1).alloc (.cells #[.int .i64 x.op, .int .i64 x.id, .int .i64 x.a, .int .i64 x.b, .int .i64 x.x0, .int .i64 x.y0, .int .i64 x.x1, .int .i64 x.y1, .string x.s, .slice Ax nx cx] 28)
  have G1 := (G0.trans g1).alloc (.cells #[.int .i64 x.op, .int .i64 x.id, .int .i64 x.a, .int .i64 x.b, .int .i64 x.x0, .int .i64 x.y0, .int .i64 x.x1, .int .i64 x.y1, .string x.s, .slice Ax nx cx] 28)
  have XX := At.new w1 #[.int .i64 x.op, .int .i64 x.id, .int .i64 x.a, .int .i64 x.b, .int .i64 x.x0, .int .i64 x.y0, .int .i64 x.x1, .int .i64 x.y1, .string x.s, .slice Ax nx cx] 28
  have sx1 := sx.bl ((Bl.refl w1).alloc (.cells #[.int .i64 x.op, .int .i64 x.id, .int .i64 x.a, .int .i64 x.b, .int .i64 x.x0, .int .i64 x.y0, .int .i64 x.x1, .int .i64 x.y1, .string x.s, .slice Ax nx cx] 28))
  replace sx1 := Lib.hid sx1
  clear sx XB G0
  unfold vQ at *
  have k0 : (w1.alloc (.cells #[.int .i64 x.op, .int .i64 x.id, .int .i64 x.a, .int .i64 x.b, .int .i64 x.x0, .int .i64 x.y0, .int .i64 x.x1, .int .i64 x.y1, .string x.s, .slice Ax nx cx] 28)).cell? ⟨w.heap.size + 1, 0, none⟩ = some (.int .i64 rb.op) := (XB1.cell 0).trans rfl
  have f0 : (w1.alloc (.cells #[.int .i64 x.op, .int .i64 x.id, .int .i64 x.a, .int .i64 x.b, .int .i64 x.x0, .int .i64 x.y0, .int .i64 x.x1, .int .i64 x.y1, .string x.s, .slice Ax nx cx] 28)).frozen? ⟨w.heap.size + 1, 0, none⟩ = false := XB1.free 0
  have k1 : (w1.alloc (.cells #[.int .i64 x.op, .int .i64 x.id, .int .i64 x.a, .int .i64 x.b, .int .i64 x.x0, .int .i64 x.y0, .int .i64 x.x1, .int .i64 x.y1, .string x.s, .slice Ax nx cx] 28)).cell? ⟨w.heap.size + 1, 1, none⟩ = some (.int .i64 rb.id) := (XB1.cell 1).trans rfl
  have f1 : (w1.alloc (.cells #[.int .i64 x.op, .int .i64 x.id, .int .i64 x.a, .int .i64 x.b, .int .i64 x.x0, .int .i64 x.y0, .int .i64 x.x1, .int .i64 x.y1, .string x.s, .slice Ax nx cx] 28)).frozen? ⟨w.heap.size + 1, 1, none⟩ = false := XB1.free 1
  have k2 : (w1.alloc (.cells #[.int .i64 x.op, .int .i64 x.id, .int .i64 x.a, .int .i64 x.b, .int .i64 x.x0, .int .i64 x.y0, .int .i64 x.x1, .int .i64 x.y1, .string x.s, .slice Ax nx cx] 28)).cell? ⟨w.heap.size + 1, 2, none⟩ = some (.int .i64 rb.a) := (XB1.cell 2).trans rfl
  have f2 : (w1.alloc (.cells #[.int .i64 x.op, .int .i64 x.id, .int .i64 x.a, .int .i64 x.b, .int .i64 x.x0, .int .i64 x.y0, .int .i64 x.x1, .int .i64 x.y1, .string x.s, .slice Ax nx cx] 28)).frozen? ⟨w.heap.size + 1, 2, none⟩ = false := XB1.free 2
  have k3 : (w1.alloc (.cells #[.int .i64 x.op, .int .i64 x.id, .int .i64 x.a, .int .i64 x.b, .int .i64 x.x0, .int .i64 x.y0, .int .i64 x.x1, .int .i64 x.y1, .string x.s, .slice Ax nx cx] 28)).cell? ⟨w.heap.size + 1, 3, none⟩ = some (.int .i64 rb.b) := (XB1.cell 3).trans rfl
  have f3 : (w1.alloc (.cells #[.int .i64 x.op, .int .i64 x.id, .int .i64 x.a, .int .i64 x.b, .int .i64 x.x0, .int .i64 x.y0, .int .i64 x.x1, .int .i64 x.y1, .string x.s, .slice Ax nx cx] 28)).frozen? ⟨w.heap.size + 1, 3, none⟩ = false := XB1.free 3
  have k4 : (w1.alloc (.cells #[.int .i64 x.op, .int .i64 x.id, .int .i64 x.a, .int .i64 x.b, .int .i64 x.x0, .int .i64 x.y0, .int .i64 x.x1, .int .i64 x.y1, .string x.s, .slice Ax nx cx] 28)).cell? ⟨w.heap.size + 1, 4, none⟩ = some (.int .i64 rb.x0) := (XB1.cell 4).trans rfl
  have f4 : (w1.alloc (.cells #[.int .i64 x.op, .int .i64 x.id, .int .i64 x.a, .int .i64 x.b, .int .i64 x.x0, .int .i64 x.y0, .int .i64 x.x1, .int .i64 x.y1, .string x.s, .slice Ax nx cx] 28)).frozen? ⟨w.heap.size + 1, 4, none⟩ = false := XB1.free 4
  have k5 : (w1.alloc (.cells #[.int .i64 x.op, .int .i64 x.id, .int .i64 x.a, .int .i64 x.b, .int .i64 x.x0, .int .i64 x.y0, .int .i64 x.x1, .int .i64 x.y1, .string x.s, .slice Ax nx cx] 28)).cell? ⟨w.heap.size + 1, 5, none⟩ = some (.int .i64 rb.y0) := (XB1.cell 5).trans rfl
  have f5 : (w1.alloc (.cells #[.int .i64 x.op, .int .i64 x.id, .int .i64 x.a, .int .i64 x.b, .int .i64 x.x0, .int .i64 x.y0, .int .i64 x.x1, .int .i64 x.y1, .string x.s, .slice Ax nx cx] 28)).frozen? ⟨w.heap.size + 1, 5, none⟩ = false := XB1.free 5
  have k6 : (w1.alloc (.cells #[.int .i64 x.op, .int .i64 x.id, .int .i64 x.a, .int .i64 x.b, .int .i64 x.x0, .int .i64 x.y0, .int .i64 x.x1, .int .i64 x.y1, .string x.s, .slice Ax nx cx] 28)).cell? ⟨w.heap.size + 1, 6, none⟩ = some (.int .i64 rb.x1) := (XB1.cell 6).trans rfl
  have f6 : (w1.alloc (.cells #[.int .i64 x.op, .int .i64 x.id, .int .i64 x.a, .int .i64 x.b, .int .i64 x.x0, .int .i64 x.y0, .int .i64 x.x1, .int .i64 x.y1, .string x.s, .slice Ax nx cx] 28)).frozen? ⟨w.heap.size + 1, 6, none⟩ = false := XB1.free 6
  have k7 : (w1.alloc (.cells #[.int .i64 x.op, .int .i64 x.id, .int .i64 x.a, .int .i64 x.b, .int .i64 x.x0, .int .i64 x.y0, .int .i64 x.x1, .int .i64 x.y1, .string x.s, .slice Ax nx cx] 28)).cell? ⟨w.heap.size + 1, 7, none⟩ = some (.int .i64 rb.y1) := (XB1.cell 7).trans rfl
  have f7 : (w1.alloc (.cells #[.int .i64 x.op, .int .i64 x.id, .int .i64 x.a, .int .i64 x.b, .int .i64 x.x0, .int .i64 x.y0, .int .i64 x.x1, .int .i64 x.y1, .string x.s, .slice Ax nx cx] 28)).frozen? ⟨w.heap.size + 1, 7, none⟩ = false := XB1.free 7
  have k8 : (w1.alloc (.cells #[.int .i64 x.op, .int .i64 x.id, .int .i64 x.a, .int .i64 x.b, .int .i64 x.x0, .int .i64 x.y0, .int .i64 x.x1, .int .i64 x.y1, .string x.s, .slice Ax nx cx] 28)).cell? ⟨w.heap.size + 1, 8, none⟩ = some (.string rb.s) := (XB1.cell 8).trans rfl
  have f8 : (w1.alloc (.cells #[.int .i64 x.op, .int .i64 x.id, .int .i64 x.a, .int .i64 x.b, .int .i64 x.x0, .int .i64 x.y0, .int .i64 x.x1, .int .i64 x.y1, .string x.s, .slice Ax nx cx] 28)).frozen? ⟨w.heap.size + 1, 8, none⟩ = false := XB1.free 8
  have k9 : (w1.alloc (.cells #[.int .i64 x.op, .int .i64 x.id, .int .i64 x.a, .int .i64 x.b, .int .i64 x.x0, .int .i64 x.y0, .int .i64 x.x1, .int .i64 x.y1, .string x.s, .slice Ax nx cx] 28)).cell? ⟨w.heap.size + 1, 9, none⟩ = some (.slice Ab nb cb) := (XB1.cell 9).trans rfl
  have f9 : (w1.alloc (.cells #[.int .i64 x.op, .int .i64 x.id, .int .i64 x.a, .int .i64 x.b, .int .i64 x.x0, .int .i64 x.y0, .int .i64 x.x1, .int .i64 x.y1, .string x.s, .slice Ax nx cx] 28)).frozen? ⟨w.heap.size + 1, 9, none⟩ = false := XB1.free 9
  go_wp2_with fail
  refine (cg2 _ G1).mono ?_
  rintro e w2 ⟨dy, rfl, sy, g2⟩
  obtain ⟨Ay, cy, rfl, hy⟩ := sy
  have sy : Sv w2 (.slice Ay y.d.length cy) y.d := ⟨Ay, cy, rfl, hy⟩
  obtain ⟨ny, hny⟩ : ∃ ny, ny = y.d.length := ⟨_, rfl⟩
  rw [← hny] at sy ⊢
  replace hny := Lib.hid hny
  have gY := (Bl.refl w2).alloc (.cells #[.int .i64 y.op, .int .i64 y.id, .int .i64 y.a, .int .i64 y.b, .int .i64 y.x0, .int .i64 y.y0, .int .i64 y.x1, .int .i64 y.y1, .string y.s, .slice Ay ny cy] 28)
  have XX2 := (XX.bl g2).bl gY
  have XY2 := At.new w2 #[.int .i64 y.op, .int .i64 y.id, .int .i64 y.a, .int .i64 y.b, .int .i64 y.x0, .int .i64 y.y0, .int .i64 y.x1, .int .i64 y.y1, .string y.s, .slice Ay ny cy] 28
  have G2 := (G1.trans g2).trans gY
  have sx2 := (sx1.out.bl g2).bl gY
  have sy2 := sy.bl gY
  replace sx2 := Lib.hid sx2
  replace sy2 := Lib.hid sy2
  clear hy sy XX G1 XB1 sx1 gY g2 g1 k0 f0 k1 f1 k2 f2 k3 f3 k4 f4 k5 f5 k6 f6 k7 f7 k8 f8 k9 f9 cg1 cg2
  have k0 : (w2.alloc (.cells #[.int .i64 y.op, .int .i64 y.id, .int .i64 y.a, .int .i64 y.b, .int .i64 y.x0, .int .i64 y.y0, .int .i64 y.x1, .int .i64 y.y1, .string y.s, .slice Ay ny cy] 28)).cell? ⟨w1.heap.size, 0, none⟩ = some (.int .i64 x.op) := (XX2.cell 0).trans rfl
  have f0 : (w2.alloc (.cells #[.int .i64 y.op, .int .i64 y.id, .int .i64 y.a, .int .i64 y.b, .int .i64 y.x0, .int .i64 y.y0, .int .i64 y.x1, .int .i64 y.y1, .string y.s, .slice Ay ny cy] 28)).frozen? ⟨w1.heap.size, 0, none⟩ = false := XX2.free 0
  have k1 : (w2.alloc (.cells #[.int .i64 y.op, .int .i64 y.id, .int .i64 y.a, .int .i64 y.b, .int .i64 y.x0, .int .i64 y.y0, .int .i64 y.x1, .int .i64 y.y1, .string y.s, .slice Ay ny cy] 28)).cell? ⟨w1.heap.size, 1, none⟩ = some (.int .i64 x.id) := (XX2.cell 1).trans rfl
  have f1 : (w2.alloc (.cells #[.int .i64 y.op, .int .i64 y.id, .int .i64 y.a, .int .i64 y.b, .int .i64 y.x0, .int .i64 y.y0, .int .i64 y.x1, .int .i64 y.y1, .string y.s, .slice Ay ny cy] 28)).frozen? ⟨w1.heap.size, 1, none⟩ = false := XX2.free 1
  have k2 : (w2.alloc (.cells #[.int .i64 y.op, .int .i64 y.id, .int .i64 y.a, .int .i64 y.b, .int .i64 y.x0, .int .i64 y.y0, .int .i64 y.x1, .int .i64 y.y1, .string y.s, .slice Ay ny cy] 28)).cell? ⟨w1.heap.size, 2, none⟩ = some (.int .i64 x.a) := (XX2.cell 2).trans rfl
  have f2 : (w2.alloc (.cells #[.int .i64 y.op, .int .i64 y.id, .int .i64 y.a, .int .i64 y.b, .int .i64 y.x0, .int .i64 y.y0, .int .i64 y.x1, .int .i64 y.y1, .string y.s, .slice Ay ny cy] 28)).frozen? ⟨w1.heap.size, 2, none⟩ = false := XX2.free 2
  have k3 : (w2.alloc (.cells #[.int .i64 y.op, .int .i64 y.id, .int .i64 y.a, .int .i64 y.b, .int .i64 y.x0, .int .i64 y.y0, .int .i64 y.x1, .int .i64 y.y1, .string y.s, .slice Ay ny cy] 28)).cell? ⟨w1.heap.size, 3, none⟩ = some (.int .i64 x.b) := (XX2.cell 3).trans rfl
  have f3 : (w2.alloc (.cells #[.int .i64 y.op, .int .i64 y.id, .int .i64 y.a, .int .i64 y.b, .int .i64 y.x0, .int .i64 y.y0, .int .i64 y.x1, .int .i64 y.y1, .string y.s, .slice Ay ny cy] 28)).frozen? ⟨w1.heap.size, 3, none⟩ = false := XX2.free 3
  have k4 : (w2.alloc (.cells #[.int .i64 y.op, .int .i64 y.id, .int .i64 y.a, .int .i64 y.b, .int .i64 y.x0, .int .i64 y.y0, .int .i64 y.x1, .int .i64 y.y1, .string y.s, .slice Ay ny cy] 28)).cell? ⟨w1.heap.size, 4, none⟩ = some (.int .i64 x.x0) := (XX2.cell 4).trans rfl
  have f4 : (w2.alloc (.cells #[.int .i64 y.op, .int .i64 y.id, .int .i64 y.a, .int .i64 y.b, .int .i64 y.x0, .int .i64 y.y0, .int .i64 y.x1, .int .i64 y.y1, .string y.s, .slice Ay ny cy] 28)).frozen? ⟨w1.heap.size, 4, none⟩ = false := XX2.free 4
  have k5 : (w2.alloc (.cells #[.int .i64 y.op, .int .i64 y.id, .int .i64 y.a, .int .i64 y.b, .int .i64 y.x0, .int .i64 y.y0, .int .i64 y.x1, .int .i64 y.y1, .string y.s, .slice Ay ny cy] 28)).cell? ⟨w1.heap.size, 5, none⟩ = some (.int .i64 x.y0) := (XX2.cell 5).trans rfl
  have f5 : (w2.alloc (.cells #[.int .i64 y.op, .int .i64 y.id, .int .i64 y.a, .int .i64 y.b, .int .i64 y.x0, .int .i64 y.y0, .int .i64 y.x1, .int .i64 y.y1, .string y.s, .slice Ay ny cy] 28)).frozen? ⟨w1.heap.size, 5, none⟩ = false := XX2.free 5
  have k6 : (w2.alloc (.cells #[.int .i64 y.op, .int .i64 y.id, .int .i64 y.a, .int .i64 y.b, .int .i64 y.x0, .int .i64 y.y0, .int .i64 y.x1, .int .i64 y.y1, .string y.s, .slice Ay ny cy] 28)).cell? ⟨w1.heap.size, 6, none⟩ = some (.int .i64 x.x1) := (XX2.cell 6).trans rfl
  have f6 : (w2.alloc (.cells #[.int .i64 y.op, .int .i64 y.id, .int .i64 y.a, .int .i64 y.b, .int .i64 y.x0, .int .i64 y.y0, .int .i64 y.x1, .int .i64 y.y1, .string y.s, .slice Ay ny cy] 28)).frozen? ⟨w1.heap.size, 6, none⟩ = false := XX2.free 6
  have k7 : (w2.alloc (.cells #[.int .i64 y.op, .int .i64 y.id, .int .i64 y.a, .int .i64 y.b, .int .i64 y.x0, .int .i64 y.y0, .int .i64 y.x1, .int .i64 y.y1, .string y.s, .slice Ay ny cy] 28)).cell? ⟨w1.heap.size, 7, none⟩ = some (.int .i64 x.y1) := (XX2.cell 7).trans rfl
  have f7 : (w2.alloc (.cells #[.int .i64 y.op, .int .i64 y.id, .int .i64 y.a, .int .i64 y.b, .int .i64 y.x0, .int .i64 y.y0, .int .i64 y.x1, .int .i64 y.y1, .string y.s, .slice Ay ny cy] 28)).frozen? ⟨w1.heap.size, 7, none⟩ = false := XX2.free 7
  have k8 : (w2.alloc (.cells #[.int .i64 y.op, .int .i64 y.id, .int .i64 y.a, .int .i64 y.b, .int .i64 y.x0, .int .i64 y.y0, .int .i64 y.x1, .int .i64 y.y1, .string y.s, .slice Ay ny cy] 28)).cell? ⟨w1.heap.size, 8, none⟩ = some (.string x.s) := (XX2.cell 8).trans rfl
  have f8 : (w2.alloc (.cells #[.int .i64 y.op, .int .i64 y.id, .int .i64 y.a, .int .i64 y.b, .int .i64 y.x0, .int .i64 y.y0, .int .i64 y.x1, .int .i64 y.y1, .string y.s, .slice Ay ny cy] 28)).frozen? ⟨w1.heap.size, 8, none⟩ = false := XX2.free 8
  have k9 : (w2.alloc (.cells #[.int .i64 y.op, .int .i64 y.id, .int .i64 y.a, .int .i64 y.b, .int .i64 y.x0, .int .i64 y.y0, .int .i64 y.x1, .int .i64 y.y1, .string y.s, .slice Ay ny cy] 28)).cell? ⟨w1.heap.size, 9, none⟩ = some (.slice Ax nx cx) := (XX2.cell 9).trans rfl
  have f9 : (w2.alloc (.cells #[.int .i64 y.op, .int .i64 y.id, .int .i64 y.a, .int .i64 y.b, .int .i64 y.x0, .int .i64 y.y0, .int .i64 y.x1, .int .i64 y.y1, .string y.s, .slice Ay ny cy] 28)).frozen? ⟨w1.heap.size, 9, none⟩ = false := XX2.free 9
  unfold vQ at *
  go_wp2_with fail
  refine (cas x Ax nx cx _).mono ?_
  rintro e w3 ⟨rfl, g3⟩
  go_wp2_with fail
  refine (ce1 _ _ (sx2.out.bl g3.bl)).mono ?_
  rintro e w4 ⟨dm, rfl, sm, g4⟩
  obtain ⟨Am, cm', rfl, hm⟩ := sm
  have sm : Sv w4 (.slice Am mx.body.length cm') mx.body := ⟨Am, cm', rfl, hm⟩
  obtain ⟨nm, hnm⟩ : ∃ nm, nm = mx.body.length := ⟨_, rfl⟩
  rw [← hnm] at sm ⊢
  dsimp only
  replace hnm := Lib.hid hnm
  have gM := (g3.bl.trans g4).alloc (.cells #[.int .i64 mx.op, .int .i64 mx.id, .slice Am nm cm'] 24)
  have XX3 := XX2.bl gM
  have XY3 := XY2.bl gM
  have XM3 := At.new w4 #[.int .i64 mx.op, .int .i64 mx.id, .slice Am nm cm'] 24
  have G3 := G2.trans gM
  have sx3 := sx2.out.bl gM
  have sy3 := sy2.out.bl gM
  have sm3 := sm.bl ((Bl.refl w4).alloc (.cells #[.int .i64 mx.op, .int .i64 mx.id, .slice Am nm cm'] 24))
  replace sx3 := Lib.hid sx3
  replace sy3 := Lib.hid sy3
  replace sm3 := Lib.hid sm3
  clear hm sm XX2 XY2 G2 sx2 sy2 gM g3 g4 k0 f0 k1 f1 k2 f2 k3 f3 k4 f4 k5 f5 k6 f6 k7 f7 k8 f8 k9 f9 ce1
  have k0 : (w4.alloc (.cells #[.int .i64 mx.op, .int .i64 mx.id, .slice Am nm cm'] 24)).cell? ⟨w2.heap.size, 0, none⟩ = some (.int .i64 y.op) := (XY3.cell 0).trans rfl
  have f0 : (w4.alloc (.cells #[.int .i64 mx.op, .int .i64 mx.id, .slice Am nm cm'] 24)).frozen? ⟨w2.heap.size, 0, none⟩ = false := XY3.free 0
  have k1 : (w4.alloc (.cells #[.int .i64 mx.op, .int .i64 mx.id, .slice Am nm cm'] 24)).cell? ⟨w2.heap.size, 1, none⟩ = some (.int .i64 y.id) := (XY3.cell 1).trans rfl
  have f1 : (w4.alloc (.cells #[.int .i64 mx.op, .int .i64 mx.id, .slice Am nm cm'] 24)).frozen? ⟨w2.heap.size, 1, none⟩ = false := XY3.free 1
  have k2 : (w4.alloc (.cells #[.int .i64 mx.op, .int .i64 mx.id, .slice Am nm cm'] 24)).cell? ⟨w2.heap.size, 2, none⟩ = some (.int .i64 y.a) := (XY3.cell 2).trans rfl
  have f2 : (w4.alloc (.cells #[.int .i64 mx.op, .int .i64 mx.id, .slice Am nm cm'] 24)).frozen? ⟨w2.heap.size, 2, none⟩ = false := XY3.free 2
  have k3 : (w4.alloc (.cells #[.int .i64 mx.op, .int .i64 mx.id, .slice Am nm cm'] 24)).cell? ⟨w2.heap.size, 3, none⟩ = some (.int .i64 y.b) := (XY3.cell 3).trans rfl
  have f3 : (w4.alloc (.cells #[.int .i64 mx.op, .int .i64 mx.id, .slice Am nm cm'] 24)).frozen? ⟨w2.heap.size, 3, none⟩ = false := XY3.free 3
  have k4 : (w4.alloc (.cells #[.int .i64 mx.op, .int .i64 mx.id, .slice Am nm cm'] 24)).cell? ⟨w2.heap.size, 4, none⟩ = some (.int .i64 y.x0) := (XY3.cell 4).trans rfl
  have f4 : (w4.alloc (.cells #[.int .i64 mx.op, .int .i64 mx.id, .slice Am nm cm'] 24)).frozen? ⟨w2.heap.size, 4, none⟩ = false := XY3.free 4
  have k5 : (w4.alloc (.cells #[.int .i64 mx.op, .int .i64 mx.id, .slice Am nm cm'] 24)).cell? ⟨w2.heap.size, 5, none⟩ = some (.int .i64 y.y0) := (XY3.cell 5).trans rfl
  have f5 : (w4.alloc (.cells #[.int .i64 mx.op, .int .i64 mx.id, .slice Am nm cm'] 24)).frozen? ⟨w2.heap.size, 5, none⟩ = false := XY3.free 5
  have k6 : (w4.alloc (.cells #[.int .i64 mx.op, .int .i64 mx.id, .slice Am nm cm'] 24)).cell? ⟨w2.heap.size, 6, none⟩ = some (.int .i64 y.x1) := (XY3.cell 6).trans rfl
  have f6 : (w4.alloc (.cells #[.int .i64 mx.op, .int .i64 mx.id, .slice Am nm cm'] 24)).frozen? ⟨w2.heap.size, 6, none⟩ = false := XY3.free 6
  have k7 : (w4.alloc (.cells #[.int .i64 mx.op, .int .i64 mx.id, .slice Am nm cm'] 24)).cell? ⟨w2.heap.size, 7, none⟩ = some (.int .i64 y.y1) := (XY3.cell 7).trans rfl
  have f7 : (w4.alloc (.cells #[.int .i64 mx.op, .int .i64 mx.id, .slice Am nm cm'] 24)).frozen? ⟨w2.heap.size, 7, none⟩ = false := XY3.free 7
  have k8 : (w4.alloc (.cells #[.int .i64 mx.op, .int .i64 mx.id, .slice Am nm cm'] 24)).cell? ⟨w2.heap.size, 8, none⟩ = some (.string y.s) := (XY3.cell 8).trans rfl
  have f8 : (w4.alloc (.cells #[.int .i64 mx.op, .int .i64 mx.id, .slice Am nm cm'] 24)).frozen? ⟨w2.heap.size, 8, none⟩ = false := XY3.free 8
  have k9 : (w4.alloc (.cells #[.int .i64 mx.op, .int .i64 mx.id, .slice Am nm cm'] 24)).cell? ⟨w2.heap.size, 9, none⟩ = some (.slice Ay ny cy) := (XY3.cell 9).trans rfl
  have f9 : (w4.alloc (.cells #[.int .i64 mx.op, .int .i64 mx.id, .slice Am nm cm'] 24)).frozen? ⟨w2.heap.size, 9, none⟩ = false := XY3.free 9
  go_wp2_with fail
  refine (cas y Ay ny cy _).mono ?_
  rintro e w5 ⟨rfl, g5⟩
  go_wp2_with fail
  refine (ce2 _ _ (sy3.out.bl g5.bl)).mono ?_
  rintro e w6 ⟨dn, rfl, sn, g6⟩
  obtain ⟨An, cn, rfl, hn⟩ := sn
  have sn : Sv w6 (.slice An my.body.length cn) my.body := ⟨An, cn, rfl, hn⟩
  obtain ⟨nn, hnn⟩ : ∃ nn, nn = my.body.length := ⟨_, rfl⟩
  rw [← hnn] at sn ⊢
  dsimp only
  replace hnn := Lib.hid hnn
  have gM := (g5.bl.trans g6).alloc (.cells #[.int .i64 my.op, .int .i64 my.id, .slice An nn cn] 24)
  have XX4 := XX3.bl gM
  have XY4 := XY3.bl gM
  have XM4 := XM3.bl gM
  have XN4 := At.new w6 #[.int .i64 my.op, .int .i64 my.id, .slice An nn cn] 24
  have G4 := G3.trans gM
  have sx4 := sx3.out.bl gM
  have sy4 := sy3.out.bl gM
  have sm4 := sm3.out.bl gM
  have sn4 := sn.bl ((Bl.refl w6).alloc (.cells #[.int .i64 my.op, .int .i64 my.id, .slice An nn cn] 24))
  clear hn sn XX3 XY3 XM3 G3 sx3 sy3 sm3 gM g5 g6 k0 f0 k1 f1 k2 f2 k3 f3 k4 f4 k5 f5 k6 f6 k7 f7 k8 f8 k9 f9 ce2
  go_wp2
  generalize (w6.alloc (.cells #[.int .i64 my.op, .int .i64 my.id, .slice An nn cn] 24)) = w7 at *
  have SK : ∀ V, Bl w7 V → V.cell? ⟨w1.heap.size, 0, none⟩ = some (.int .i64 x.op) ∧ V.cell? ⟨w1.heap.size, 1, none⟩ = some (.int .i64 x.id) ∧ V.cell? ⟨w1.heap.size, 2, none⟩ = some (.int .i64 x.a) ∧ V.cell? ⟨w1.heap.size, 3, none⟩ = some (.int .i64 x.b) ∧ V.cell? ⟨w1.heap.size, 4, none⟩ = some (.int .i64 x.x0) ∧ V.cell? ⟨w1.heap.size, 5, none⟩ = some (.int .i64 x.y0) ∧ V.cell? ⟨w1.heap.size, 6, none⟩ = some (.int .i64 x.x1) ∧ V.cell? ⟨w1.heap.size, 7, none⟩ = some (.int .i64 x.y1) ∧ V.cell? ⟨w1.heap.size, 8, none⟩ = some (.string x.s) ∧ V.cell? ⟨w1.heap.size, 9, none⟩ = some (.slice Ax nx cx) ∧ V.cell? ⟨w2.heap.size, 0, none⟩ = some (.int .i64 y.op) ∧ V.cell? ⟨w2.heap.size, 1, none⟩ = some (.int .i64 y.id) ∧ V.cell? ⟨w2.heap.size, 2, none⟩ = some (.int .i64 y.a) ∧ V.cell? ⟨w2.heap.size, 3, none⟩ = some (.int .i64 y.b) ∧ V.cell? ⟨w2.heap.size, 4, none⟩ = some (.int .i64 y.x0) ∧ V.cell? ⟨w2.heap.size, 5, none⟩ = some (.int .i64 y.y0) ∧ V.cell? ⟨w2.heap.size, 6, none⟩ = some (.int .i64 y.x1) ∧ V.cell? ⟨w2.heap.size, 7, none⟩ = some (.int .i64 y.y1) ∧ V.cell? ⟨w2.heap.size, 8, none⟩ = some (.string y.s) ∧ V.cell? ⟨w2.heap.size, 9, none⟩ = some (.slice Ay ny cy) ∧ V.cell? ⟨w4.heap.size, 0, none⟩ = some (.int .i64 mx.op) ∧ V.cell? ⟨w4.heap.size, 1, none⟩ = some (.int .i64 mx.id) ∧ V.cell? ⟨w4.heap.size, 2, none⟩ = some (Value.slice Am nm cm') ∧ V.cell? ⟨w6.heap.size, 0, none⟩ = some (.int .i64 my.op) ∧ V.cell? ⟨w6.heap.size, 1, none⟩ = some (.int .i64 my.id) ∧ V.cell? ⟨w6.heap.size, 2, none⟩ = some (Value.slice An nn cn) ∧ Bl w7 V := fun V g => ⟨((XX4.bl g).cell 0).trans rfl, ((XX4.bl g).cell 1).trans rfl, ((XX4.bl g).cell 2).trans rfl, ((XX4.bl g).cell 3).trans rfl, ((XX4.bl g).cell 4).trans rfl, ((XX4.bl g).cell 5).trans rfl, ((XX4.bl g).cell 6).trans rfl, ((XX4.bl g).cell 7).trans rfl, ((XX4.bl g).cell 8).trans rfl, ((XX4.bl g).cell 9).trans rfl, ((XY4.bl g).cell 0).trans rfl, ((XY4.bl g).cell 1).trans rfl, ((XY4.bl g).cell 2).trans rfl, ((XY4.bl g).cell 3).trans rfl, ((XY4.bl g).cell 4).trans rfl, ((XY4.bl g).cell 5).trans rfl, ((XY4.bl g).cell 6).trans rfl, ((XY4.bl g).cell 7).trans rfl, ((XY4.bl g).cell 8).trans rfl, ((XY4.bl g).cell 9).trans rfl, ((XM4.bl g).cell 0).trans rfl, ((XM4.bl g).cell 1).trans rfl, ((XM4.bl g).cell 2).trans rfl, ((XN4.bl g).cell 0).trans rfl, ((XN4.bl g).cell 1).trans rfl, ((XN4.bl g).cell 2).trans rfl, g⟩
  replace SK := Lib.hid SK
  have k7 : ∀ V, Bl w7 V → _ := fun V g => cm V _ _ (sm4.bl g) (sn4.bl g)
  have kr : ∀ V, Bl w7 V → _ := fun V g => cr V _ _ (sx4.bl g) (sy4.bl g)
  have kq : ∀ V, Bl w7 V → _ := fun V g => cq V _ _ (sx4.bl g) (sy4.bl g)
  have kx : ∀ V, _ := fun V => cas x Ax nx cx V
  have ky : ∀ V, _ := fun V => cas y Ay ny cy V
  unfold vQ at *
  clear sx4 sy4 sm4 sn4 cm cr cq cas
  cases B
  all_goals
    go_region_held3 (fun V => V.cell? ⟨w1.heap.size, 0, none⟩ = some (.int .i64 x.op) ∧ V.cell? ⟨w1.heap.size, 1, none⟩ = some (.int .i64 x.id) ∧ V.cell? ⟨w1.heap.size, 2, none⟩ = some (.int .i64 x.a) ∧ V.cell? ⟨w1.heap.size, 3, none⟩ = some (.int .i64 x.b) ∧ V.cell? ⟨w1.heap.size, 4, none⟩ = some (.int .i64 x.x0) ∧ V.cell? ⟨w1.heap.size, 5, none⟩ = some (.int .i64 x.y0) ∧ V.cell? ⟨w1.heap.size, 6, none⟩ = some (.int .i64 x.x1) ∧ V.cell? ⟨w1.heap.size, 7, none⟩ = some (.int .i64 x.y1) ∧ V.cell? ⟨w1.heap.size, 8, none⟩ = some (.string x.s) ∧ V.cell? ⟨w1.heap.size, 9, none⟩ = some (.slice Ax nx cx) ∧ V.cell? ⟨w2.heap.size, 0, none⟩ = some (.int .i64 y.op) ∧ V.cell? ⟨w2.heap.size, 1, none⟩ = some (.int .i64 y.id) ∧ V.cell? ⟨w2.heap.size, 2, none⟩ = some (.int .i64 y.a) ∧ V.cell? ⟨w2.heap.size, 3, none⟩ = some (.int .i64 y.b) ∧ V.cell? ⟨w2.heap.size, 4, none⟩ = some (.int .i64 y.x0) ∧ V.cell? ⟨w2.heap.size, 5, none⟩ = some (.int .i64 y.y0) ∧ V.cell? ⟨w2.heap.size, 6, none⟩ = some (.int .i64 y.x1) ∧ V.cell? ⟨w2.heap.size, 7, none⟩ = some (.int .i64 y.y1) ∧ V.cell? ⟨w2.heap.size, 8, none⟩ = some (.string y.s) ∧ V.cell? ⟨w2.heap.size, 9, none⟩ = some (.slice Ay ny cy) ∧ V.cell? ⟨w4.heap.size, 0, none⟩ = some (.int .i64 mx.op) ∧ V.cell? ⟨w4.heap.size, 1, none⟩ = some (.int .i64 mx.id) ∧ V.cell? ⟨w4.heap.size, 2, none⟩ = some (Value.slice Am nm cm') ∧ V.cell? ⟨w6.heap.size, 0, none⟩ = some (.int .i64 my.op) ∧ V.cell? ⟨w6.heap.size, 1, none⟩ = some (.int .i64 my.id) ∧ V.cell? ⟨w6.heap.size, 2, none⟩ = some (Value.slice An nn cn) ∧ Bl w7 V) ((refine SK.out _ ?_; repeat (first | with_reducible assumption | with_reducible exact Bl.refl _ | with_reducible exact (And.right (And.right (And.right (And.right (And.right (And.right (And.right (And.right (And.right (And.right (And.right (And.right (And.right (And.right (And.right (And.right (And.right (And.right (And.right (And.right (And.right (And.right (And.right (And.right (And.right (And.right (by assumption))))))))))))))))))))))))))) | with_reducible exact Bl.trans (And.right (And.right (And.right (And.right (And.right (And.right (And.right (And.right (And.right (And.right (And.right (And.right (And.right (And.right (And.right (And.right (And.right (And.right (And.right (And.right (And.right (And.right (And.right (And.right (And.right (And.right (by assumption))))))))))))))))))))))))))) (by assumption) | with_reducible exact Bl.gr (And.right (And.right (And.right (And.right (And.right (And.right (And.right (And.right (And.right (And.right (And.right (And.right (And.right (And.right (And.right (And.right (And.right (And.right (And.right (And.right (And.right (And.right (And.right (And.right (And.right (And.right (by assumption))))))))))))))))))))))))))) (by assumption) | with_reducible apply Bl.drew))) ((first | (go_at_call 19; (refine (k7 _ (And.right (And.right (And.right (And.right (And.right (And.right (And.right (And.right (And.right (And.right (And.right (And.right (And.right (And.right (And.right (And.right (And.right (And.right (And.right (And.right (And.right (And.right (And.right (And.right (And.right (And.right (by assumption)))))))))))))))))))))))))))).mono ?_); rintro e V1 ⟨rfl, gg⟩; have V1G : Bl w7 V1 := Bl.gr (And.right (And.right (And.right (And.right (And.right (And.right (And.right (And.right (And.right (And.right (And.right (And.right (And.right (And.right (And.right (And.right (And.right (And.right (And.right (And.right (And.right (And.right (And.right (And.right (And.right (And.right (by assumption))))))))))))))))))))))))))) gg) | (go_at_call 28; (refine (kr _ (And.right (And.right (And.right (And.right (And.right (And.right (And.right (And.right (And.right (And.right (And.right (And.right (And.right (And.right (And.right (And.right (And.right (And.right (And.right (And.right (And.right (And.right (And.right (And.right (And.right (And.right (by assumption)))))))))))))))))))))))))))).mono ?_); rintro e V2 ⟨rfl, gg⟩; have V2G : Bl w7 V2 := Bl.gr (And.right (And.right (And.right (And.right (And.right (And.right (And.right (And.right (And.right (And.right (And.right (And.right (And.right (And.right (And.right (And.right (And.right (And.right (And.right (And.right (And.right (And.right (And.right (And.right (And.right (And.right (by assumption))))))))))))))))))))))))))) gg) | (go_at_call 20; (refine (kq _ (And.right (And.right (And.right (And.right (And.right (And.right (And.right (And.right (And.right (And.right (And.right (And.right (And.right (And.right (And.right (And.right (And.right (And.right (And.right (And.right (And.right (And.right (And.right (And.right (And.right (And.right (by assumption)))))))))))))))))))))))))))).mono ?_); rintro e V3 ⟨rfl, gg⟩; have V3G : Bl w7 V3 := Bl.gr (And.right (And.right (And.right (And.right (And.right (And.right (And.right (And.right (And.right (And.right (And.right (And.right (And.right (And.right (And.right (And.right (And.right (And.right (And.right (And.right (And.right (And.right (And.right (And.right (And.right (And.right (by assumption))))))))))))))))))))))))))) gg) | (go_at_call_of 18 (Value.agg #[.int .i64 x.op, .int .i64 x.id, .int .i64 x.a, .int .i64 x.b, .int .i64 x.x0, .int .i64 x.y0, .int .i64 x.x1, .int .i64 x.y1, .string x.s, .slice Ax nx cx]); (refine (kx _).mono ?_); rintro e V4 ⟨rfl, gg⟩; have V4G : Bl w7 V4 := Bl.gr (And.right (And.right (And.right (And.right (And.right (And.right (And.right (And.right (And.right (And.right (And.right (And.right (And.right (And.right (And.right (And.right (And.right (And.right (And.right (And.right (And.right (And.right (And.right (And.right (And.right (And.right (by assumption))))))))))))))))))))))))))) gg) | (go_at_call_of 18 (Value.agg #[.int .i64 y.op, .int .i64 y.id, .int .i64 y.a, .int .i64 y.b, .int .i64 y.x0, .int .i64 y.y0, .int .i64 y.x1, .int .i64 y.y1, .string y.s, .slice Ay ny cy]); (refine (ky _).mono ?_); rintro e V5 ⟨rfl, gg⟩; have V5G : Bl w7 V5 := Bl.gr (And.right (And.right (And.right (And.right (And.right (And.right (And.right (And.right (And.right (And.right (And.right (And.right (And.right (And.right (And.right (And.right (And.right (And.right (And.right (And.right (And.right (And.right (And.right (And.right (And.right (And.right (by assumption))))))))))))))))))))))))))) gg) | (go_at_call 16; (refine (cl _).mono ?_); rintro e V6 ⟨rfl, gg⟩; have V6G : Bl w7 V6 := Bl.trans (And.right (And.right (And.right (And.right (And.right (And.right (And.right (And.right (And.right (And.right (And.right (And.right (And.right (And.right (And.right (And.right (And.right (And.right (And.right (And.right (And.right (And.right (And.right (And.right (And.right (And.right (by assumption))))))))))))))))))))))))))) gg)))
    go_wp2
    go_ret
    exact ⟨rfl, G4.trans V6G⟩

end Go.Proofs.YteljpabhcmihoaaDoor
