/-
  What is proved: small facts on a world behind which new blocks were laid (and draws made), and what a callee that only makes memory of its own says of its call. No conditions.
-/
import Derived.Test.YtgjoipndhlngnaaRows
import Derived.WalkKit
import Derived.Shelf.SlSortCmp.QuietGrown
import Derived.Below
import Derived.Lib.SmallJoins
namespace Go.Proofs.Ytgjoipndhlngnaa
open Go.RowKit Go.Sort

/-- w' is w with some draws made and some blocks laid behind. -/
def Gr (w w' : World) : Prop := ∃ p : GrownBy, w' = grow (w.drewN p.n) p.os
/-- A call that hands v back and only lays blocks of its own. -/
def Rt (w : World) (v : Value) (e : Ending) (w' : World) : Prop := e = .returned v ∧ Gr w w'

theorem Gr.refl (w : World) : Gr w w := ⟨⟨0, #[]⟩, by simp [World.drewN_zero]⟩
theorem Gr.trans {a b c : World} (h : Gr a b) (k : Gr b c) : Gr a c := by
  obtain ⟨⟨n, os⟩, rfl⟩ := h
  obtain ⟨⟨m, os'⟩, rfl⟩ := k
  exact ⟨⟨n + m, os ++ os'⟩, by show grow (grow ((a.drewN n).drewN m) os) os' = _; rw [grow_grow, World.drewN_drewN]⟩
theorem Gr.drew {a b : World} (h : Gr a b) : Gr a b.drew := h.trans ⟨⟨1, #[]⟩, by simp; rfl⟩
theorem Gr.drewN {a b : World} (h : Gr a b) (n : Nat) : Gr a (b.drewN n) := h.trans ⟨⟨n, #[]⟩, by simp⟩
theorem Gr.grow {a b : World} (h : Gr a b) (os : Array Obj) : Gr a (grow b os) := h.trans ⟨⟨0, os⟩, by simp [World.drewN_zero]⟩
theorem Gr.alloc {a b : World} (h : Gr a b) (o : Obj) : Gr a (b.alloc o) := by rw [alloc_eq_grow]; exact h.grow _
theorem Gr.setCell {a b : World} (h : Gr a b) {p : Addr} (hp : a.heap.size ≤ p.block) (u : Value) : Gr a (b.setCell p u) := by
  obtain ⟨⟨n, os⟩, rfl⟩ := h
  refine ⟨⟨n, os.modify (p.block - a.heap.size) fun
      | .cells c elem frozen => .cells (if p.spot.isSome then c else c.setIfInBounds p.off u) elem frozen
      | o => o⟩, ?_⟩
  simp only [World.setCell, Go.Sort.grow, modify_append_right _ _ _ _ (show (a.drewN n).heap.size ≤ p.block from hp)]
  rfl
theorem Gr.below {a b : World} (h : Gr a b) : Below a.heap.size a b := by
  obtain ⟨⟨n, os⟩, rfl⟩ := h
  exact ⟨rfl, rfl, rfl, by simp, fun k hk => heap_grow_old (a.drewN n) os hk⟩
theorem Gr.size {a b : World} (h : Gr a b) : a.heap.size ≤ b.heap.size := h.below.size
theorem Gr.cell {a b : World} (h : Gr a b) {p : Addr} (hp : p.block < a.heap.size) : b.cell? p = a.cell? p := h.below.cell hp
theorem Gr.frozen {a b : World} (h : Gr a b) {p : Addr} (hp : p.block < a.heap.size) : b.frozen? p = a.frozen? p := h.below.frozen hp

theorem Rt.bool {w w' : World} {a b : Bool} (h : a = true ↔ b = true) (hg : Gr w w') : Rt w (.bool b) (.returned (.bool a)) w' := by
  have : a = b := by cases a <;> cases b <;> simp_all
  subst this; exact ⟨rfl, hg⟩
theorem Rt.int {w w' : World} {k : IntKind} {a b : Int} (h : a = b) (hg : Gr w w') : Rt w (.int k b) (.returned (.int k a)) w' := by subst h; exact ⟨rfl, hg⟩
theorem nlt_r {a b c : Nat} (h : a < b) : (a < b + c) = True := by simp; omega
theorem Rt.mk {w w' : World} {v : Value} (h : Gr w w') : Rt w v (.returned v) w' := ⟨rfl, h⟩

/-- A callee's contract, met in a region that draws its order. -/
theorem Calls.grown {P : Program} {f : FuncId} {args : Array Value} {w : World} {n : Nat} {os : Array Obj} {v : Value}
    (h : Calls P f args (grow (w.drewN n) os) (Rt (grow (w.drewN n) os) v)) : Calls P f args (grow (w.drewN n) os) fun e w'' => e = .returned v ∧ ∃ p : GrownBy, w'' = grow (w.drewN p.n) p.os :=
  h.mono fun _ _ ⟨he, hw⟩ => ⟨he, (show Gr w _ from (((Gr.refl w).drewN n).grow os).trans hw)⟩

/-- Block b holds these cells, and may be written. -/
def At (w : World) (b : Nat) (cs : Array Value) (t : TypeId) : Prop := w.heap[b]? = some (.cells cs t (0, 0))
theorem At.lt {w : World} {b : Nat} {cs : Array Value} {t : TypeId} (h : At w b cs t) : b < w.heap.size := by
  rcases Nat.lt_or_ge b w.heap.size with h' | h'
  · exact h'
  · unfold At at h; rw [Array.getElem?_eq_none h'] at h; cases h
theorem At.cell {w : World} {b : Nat} {cs : Array Value} {t : TypeId} (h : At w b cs t) (i : Nat) : w.cell? ⟨b, i, none⟩ = cs[i]? := by
  unfold At at h; simp [World.cell?, h]
theorem At.free {w : World} {b : Nat} {cs : Array Value} {t : TypeId} (h : At w b cs t) (i : Nat) : w.frozen? ⟨b, i, none⟩ = false := by
  unfold At at h; simp [World.frozen?, h]
theorem At.gr {w w' : World} {b : Nat} {cs : Array Value} {t : TypeId} (h : At w b cs t) (g : Gr w w') : At w' b cs t := by
  have := g.below.block b h.lt
  unfold At at *; rw [this]; exact h
theorem At.alloc {w : World} {b : Nat} {cs : Array Value} {t : TypeId} (h : At w b cs t) (o : Obj) : At (w.alloc o) b cs t := h.gr ((Gr.refl w).alloc o)
theorem At.drew {w : World} {b : Nat} {cs : Array Value} {t : TypeId} (h : At w b cs t) : At w.drew b cs t := h
theorem At.drewN {w : World} {b : Nat} {cs : Array Value} {t : TypeId} (h : At w b cs t) (n : Nat) : At (w.drewN n) b cs t := h
theorem At.grow {w : World} {b : Nat} {cs : Array Value} {t : TypeId} (h : At w b cs t) (os : Array Obj) : At (Go.Sort.grow w os) b cs t := h.gr ((Gr.refl w).grow os)
theorem At.new (w : World) (cs : Array Value) (t : TypeId) : At (w.alloc (.cells cs t)) w.heap.size cs t := by
  unfold At World.alloc; simp
/-- In every world that is w with draws made and blocks laid behind it. -/
theorem At.cells {w : World} {b : Nat} {cs : Array Value} {t : TypeId} (h : At w b cs t) (n : Nat) (os : Array Obj) (i : Nat) : (Go.Sort.grow (w.drewN n) os).cell? ⟨b, i, none⟩ = cs[i]? := ((h.drewN n).grow os).cell i
theorem Gr.step {w w' : World} {n : Nat} {os : Array Obj} (h : Gr (Go.Sort.grow (w.drewN n) os) w') : Gr w w' := (((Gr.refl w).drewN n).grow os).trans h

/-- The least and the greatest of two ints stay whole in a walk ('attribute [local go_sem ↓] run_min2 run_max2'): else it parts at each. -/
theorem run_min2 {P : Program} {w : World} (ts : Array TypeId) (t : TypeId) (x y : Int) : (Builtin.min_ ts t #[.int .i64 x, .int .i64 y]).run P w = .ok (.int .i64 (min x y)) w := by
  go_simp
  split <;> (congr 2; omega)
theorem run_max2 {P : Program} {w : World} (ts : Array TypeId) (t : TypeId) (x y : Int) : (Builtin.max_ ts t #[.int .i64 x, .int .i64 y]).run P w = .ok (.int .i64 (max x y)) w := by
  go_simp
  split <;> (congr 2; omega)

theorem At.put4 {w : World} {b : Nat} {z0 z1 z2 z3 : Value} {t : TypeId} (h : At w b #[z0, z1, z2, z3] t) (u0 u1 u2 u3 : Value) :
    At ((((w.setCell ⟨b, 0, none⟩ u0).setCell ⟨b, 1, none⟩ u1).setCell ⟨b, 2, none⟩ u2).setCell ⟨b, 3, none⟩ u3) b #[u0, u1, u2, u3] t := by
  have h1 := Go.Joins.block_setCell (i := 0) h u0
  have h2 := Go.Joins.block_setCell (i := 1) h1 u1
  have h3 := Go.Joins.block_setCell (i := 2) h2 u2
  have h4 := Go.Joins.block_setCell (i := 3) h3 u3
  unfold At
  simpa using h4
theorem At.far {w : World} {b : Nat} {cs : Array Value} {t : TypeId} (h : At w b cs t) {p : Addr} (hp : b ≠ p.block) (u : Value) : At (w.setCell p u) b cs t := by
  unfold At at *
  rw [Below.heap_setCell _ _ _ _ hp]; exact h
theorem At.newAt {w : World} {n : Nat} (h : w.heap.size = n) (cs : Array Value) (t : TypeId) : At (w.alloc (.cells cs t)) n cs t := h ▸ At.new w cs t
theorem At.put {w : World} {b : Nat} {cs : Array Value} {t : TypeId} (h : At w b cs t) (i : Nat) (u : Value) : At (w.setCell ⟨b, i, none⟩ u) b (cs.setIfInBounds i u) t := Go.Joins.block_setCell (i := i) h u
theorem ret_int {k : IntKind} {a b : Int} (h : a = b) : Ending.returned (.int k a) = .returned (.int k b) := by rw [h]

end Go.Proofs.Ytgjoipndhlngnaa
