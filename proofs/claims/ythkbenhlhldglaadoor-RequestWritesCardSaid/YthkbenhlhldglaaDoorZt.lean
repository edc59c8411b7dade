/-
  What is proved: how requests of the document's package, one and a row of them, and a message, are opened as they come in. No conditions.
-/
import Derived.Test.YthkbenhlhldglaaDoorZph
import Derived.Test.YthkbenhlhldglaaDoorMf
import Derived.ChangeMaps5
namespace Go.Proofs.YthkbenhlhldglaaDoor
open Go.ChangeShapes Go.WideShapes Go.ChangeAt Go.RowKit Go.Joins Go.Sort Go.Deep

theorem list10 {α : Type} {l : List α} (h : l.length = 10) : ∃ v0 v1 v2 v3 v4 v5 v6 v7 v8 v9 : α, l = [v0, v1, v2, v3, v4, v5, v6, v7, v8, v9] := by
  match l, h with
  | [v0, v1, v2, v3, v4, v5, v6, v7, v8, v9], _ => exact ⟨v0, v1, v2, v3, v4, v5, v6, v7, v8, v9, rfl⟩
theorem cellsQ : Tryd.prog.cellsOf 28 = 10 := by kernel_rfl
/-- What a request that came in is good for. -/
structure GoodR (w : World) (r : Rq) (d : Value) : Prop where
  sv : Sv w d r.d
  inq : InQ r
def c10l (r : Rq) (d : Value) : List Value := [.int .i64 r.op, .int .i64 r.id, .int .i64 r.a, .int .i64 r.b, .int .i64 r.x0, .int .i64 r.y0, .int .i64 r.x1, .int .i64 r.y1, .string r.s, d]
section
variable {H : Type} {enc : TypeId × Value → H} {w : World} {base : Nat} {spare : Nat → Bool} {held : Bool}
set_option maxRecDepth 100000 in
set_option maxHeartbeats 2000000 in
theorem rq_cells {n : Nat} {cs : List Value} {x : DataW H × List MemPlace} (hl : cs.length = 10) (h : DataW.trod enc Tryd.prog w base spare held n 28 cs = some x) : ∃ (r : Rq) (d : Value), cs = c10l r d ∧ GoodR w r d := by
  obtain ⟨v0, v1, v2, v3, v4, v5, v6, v7, v8, v9, rfl⟩ := list10 hl
  obtain ⟨op, rfl, wop⟩ := intA Tryd.underlying28 h (i := 0) rfl Tryd.underlying3 (v := v0) (by simp [cellsIA])
  obtain ⟨id, rfl, wid⟩ := intA Tryd.underlying28 h (i := 1) rfl Tryd.underlying3 (v := v1) (by simp [cellsIA])
  obtain ⟨a, rfl, wa⟩ := intA Tryd.underlying28 h (i := 2) rfl Tryd.underlying3 (v := v2) (by simp [cellsIA])
  obtain ⟨b, rfl, wb⟩ := intA Tryd.underlying28 h (i := 3) rfl Tryd.underlying3 (v := v3) (by simp [cellsIA])
  obtain ⟨n3, y3, hR⟩ := fieldA Tryd.underlying28 h (i := 4) rfl
  simp [cellsRA] at hR
  obtain ⟨x0, rfl, wx0⟩ := intA Tryd.underlying26 hR (i := 0) rfl Tryd.underlying3 (v := v4) (by simp [cellsIA])
  obtain ⟨y0, rfl, wy0⟩ := intA Tryd.underlying26 hR (i := 1) rfl Tryd.underlying3 (v := v5) (by simp [cellsIA])
  obtain ⟨x1, rfl, wx1⟩ := intA Tryd.underlying26 hR (i := 2) rfl Tryd.underlying3 (v := v6) (by simp [cellsIA])
  obtain ⟨y1, rfl, wy1⟩ := intA Tryd.underlying26 hR (i := 3) rfl Tryd.underlying3 (v := v7) (by simp [cellsIA])
  obtain ⟨n2, y2, hS⟩ := fieldA Tryd.underlying28 h (i := 5) rfl
  simp [cellsSA] at hS
  obtain ⟨s, e0, _, ws⟩ := DataW.trod_string Tryd.underlying9 hS
  simp at e0
  subst e0
  obtain ⟨n4, y4, hB⟩ := fieldA Tryd.underlying28 h (i := 6) rfl
  simp [cellsBA] at hB
  obtain ⟨A, c, L, rfl, q1, q2, q3, q4, q5⟩ := open_numsF Tryd.underlying22 Tryd.underlying5 cellsByte hB
  exact ⟨⟨op, id, a, b, x0, y0, x1, y1, s, L⟩, .slice A L.length c, rfl, ⟨⟨A, c, rfl, q1, q2, q3, q4⟩, ⟨I64.of_wf wop, I64.of_wf wid, I64.of_wf wa, I64.of_wf wb, I64.of_wf wx0, I64.of_wf wy0, I64.of_wf wx1, I64.of_wf wy1, by show s.size ≤ _; have := ws; unfold maxLen at this; omega, fun x hx => By8.of_wf (q5 x hx)⟩⟩⟩
set_option maxRecDepth 100000 in
theorem open_rq {v : Value} {dd : DataW H} {p : List MemPlace} {b0 : Nat} {r : Reach} (hv : Value.okWide Tryd.prog w r b0 28 v) (h : DataW.Trod enc Tryd.prog w base spare held 28 v dd p) : ∃ (r : Rq) (d : Value), v = vQ r d ∧ GoodR w r d := by
  obtain ⟨cs, rfl, hsz⟩ := okWide_struct Tryd.underlying28 hv
  rw [cellsQ] at hsz
  obtain ⟨fuel, hf⟩ := h
  obtain ⟨l⟩ := cs
  simp only [List.size_toArray] at hsz
  simp only [Value.cells] at hf
  obtain ⟨r, d, rfl, hp⟩ := rq_cells hsz hf
  exact ⟨r, d, rfl, hp⟩
end

end Go.Proofs.YthkbenhlhldglaaDoor
