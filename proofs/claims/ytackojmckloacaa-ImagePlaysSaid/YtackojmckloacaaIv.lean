/-
  What is proved: what Solid of package image tells.
-/
import Derived.Test.YtackojmckloacaaIl
namespace Go.Proofs.Ytackojmckloacaa
open Go.RowKit Go.Sort Go.Shelf

attribute [local go_sem] Oper.semAt_some

/-- Whether all colors of these rows, from x0 up to x1, are solid. -/
def rowS (L : List Int) (p k : Nat) : Bool := ((L.drop p).take k).all fun c => pA c == 255
def allS (W x0 x1 : Nat) (L : List Int) (ys : List Nat) : Bool := ys.all fun y => rowS L (y * W + x0) (x1 - x0)
theorem rowS_succ {L : List Int} {p k : Nat} {c : Int} (h : L[p + k]? = some c) : rowS L p (k + 1) = (rowS L p k && (pA c == 255)) := by
  unfold rowS
  rw [List.take_add_one, List.getElem?_drop, h]
  simp
theorem rowS_part {L : List Int} {p k m : Nat} (h : k ≤ m) (hf : rowS L p k = false) : rowS L p m = false := by
  unfold rowS at *
  rw [show m = k + (m - k) by omega, List.take_add, List.all_append, hf]; rfl
theorem allS_snoc (W x0 x1 : Nat) (L : List Int) (ys : List Nat) (y : Nat) : allS W x0 x1 L (ys ++ [y]) = (allS W x0 x1 L ys && rowS L (y * W + x0) (x1 - x0)) := by simp [allS]
theorem allS_pre {W x0 x1 : Nat} {L : List Int} {ys zs : List Nat} (h : ys <+: zs) (hf : allS W x0 x1 L ys = false) : allS W x0 x1 L zs = false := by
  obtain ⟨t, rfl⟩ := h
  unfold allS at *
  rw [List.all_append, hf]; rfl

theorem Gr.keeps {w w' : World} (g : Gr w w') : KeepsOthers w w' := ⟨g.size, fun k _ hk _ => (g.below.block k (Array.getElem?_eq_some_iff.1 hk).1).trans hk⟩
theorem Gr.keep3 {w w' : World} (g : Gr w w') {p q r : Nat} (hp : p < w.heap.size) (hq : q < w.heap.size) (hr : r < w.heap.size) : Keep3 p q r w w' := ⟨g.below.block _ hp, g.below.block _ hq, g.below.block _ hr⟩
theorem ownSize {β : Type} (B n : Nat) : OwnFrom B (fun (_ : β) V => n ≤ V.heap.size) := fun _ _ _ _ hs hg _ => Nat.le_trans hs hg.size
theorem bl_of {w w' : World} (h : w.grownBy w' none) : Bl w w' := ⟨h.os, h.tape, h.output, h.size, fun k hk => h.block k hk (by simp)⟩

end Go.Proofs.Ytackojmckloacaa
