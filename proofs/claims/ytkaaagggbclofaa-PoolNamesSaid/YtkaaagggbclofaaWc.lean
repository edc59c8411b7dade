/-
  What is proved: rows of ints; what ids' Of hands back, and what the statements' own example comes to. Conditions: the table's ids rise and may be.
-/
import Derived.Test.YtkaaagggbclofaaZz2
import Derived.Test.YtkaaagggbclofaaShc
import Derived.Lib.OwnBridge
namespace Go.Proofs.Ytkaaagggbclofaa
open Go.ChangeShapes Go.WideShapes Go.ChangeAt Go.RowKit Go.Joins Go.Sort Go.Deep Go.Maps

def shI : Shp Int := ⟨1, fun x => [.int .i64 x], fun _ => rfl, fun x u h => by simp at h; subst h; rfl, by omega⟩
theorem shI_cs (l : List Int) : shI.cs l = l.map (Value.int .i64) := by
  induction l with
  | nil => rfl
  | cons x l ih => rw [Shp.cs_cons, ih]; rfl
theorem infoInt : (Try.prog.info? 3).map (fun i => (i.zero, i.size, i.bytes)) = some (some (.int .i64 0), shI.n, 8) := by kernel_rfl
abbrev OwInt := shI.Ow 3
theorem int_at {w : World} {b off : Nat} {l : List Int} (h : shI.Row w b off l) {k : Nat} {x : Int} (hx : l[k]? = some x) : w.cell? ⟨b, off + k, none⟩ = some (.int .i64 x) := by
  have := h k x hx 0 (.int .i64 x) rfl
  simpa [shI] using this
def sortI (zs : List Int) : List Int := zs.mergeSort fun x y => decide (x ≤ y)
theorem sortI_len (zs : List Int) : (sortI zs).length = zs.length := List.length_mergeSort _
theorem isort1 (A : Option Addr) (c : Nat) (E : List Int) (w : World) (B : Nat) (h : OwInt w B A c E) (hl : E.length ≤ 100000000) (hB : B ≤ w.heap.size) :
    Calls Try.prog 35 #[.slice A E.length c] w fun e w' => e = .returned (.tuple #[]) ∧ OwInt w' B A c (sortI E) ∧ Below B w w' := by
  by_cases h0 : E.length = 0
  · have : E = [] := List.eq_nil_of_length_eq_zero h0
    subst this
    refine (sh_slices_Sort_int_none A c w).mono ?_
    rintro e w' ⟨rfl, rfl⟩
    exact ⟨rfl, by rw [show sortI [] = [] from by simp [sortI]]; exact h, Below.refl _ _⟩
  · have h' : w.ownsRow B 3 1 (.slice A E.length c) E.length (E.map (Value.int .i64)) := by have := h; unfold OwInt Shp.Ow at this; rw [shI_cs] at this; exact this
    obtain ⟨g, cap, h1, h2, h3, h4, h5, h6, h7⟩ := Lib.holds_of_ownsRow (enc := Value.int .i64) (zs := E) h' (by intro h; injection h with h h'; omega)
    injection h1 with h1 h1' h1''
    subst h1 h1''
    refine (sh_slices_Sort_int g 0 c E w h7 h3 (by omega)).mono ?_
    rintro e w' ⟨rfl, n, os, rfl⟩
    have q := Lib.ownsRow_putRow (enc := Value.int .i64) (q := n) (k := E.length) (ys := sortI E) h' (sortI_len E) (Nat.le_refl _)
    have q1 : OwInt (putRow (Value.int .i64) (Sort.ahead w n) g 0 (sortI E).toArray) B (some ⟨g, 0, none⟩) c (sortI E) := by
      unfold OwInt Shp.Ow
      rw [sortI_len, shI_cs]
      rw [List.take_of_length_le (by rw [sortI_len]; exact Nat.le_refl _)] at q
      exact q
    exact ⟨rfl, q1.bl ((Bl.refl _).grow os), Below.trans (Lib.below_putRow (Below.refl _ _) h2) (Below.mono ((Bl.refl _).grow os) (by simp [putRow, mapBlock, Sort.ahead]; omega))⟩

end Go.Proofs.Ytkaaagggbclofaa
