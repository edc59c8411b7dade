/-
  What is proved: rows of deeds, and of ints, that came in read as lists. No conditions.
-/
import Derived.Test.YtkaaagggbclofaaZz8
import Derived.Test.YtkaaagggbclofaaWc
namespace Go.Proofs.Ytkaaagggbclofaa
open Go.ChangeShapes Go.WideShapes Go.ChangeAt Go.RowKit Go.Joins Go.Sort Go.Deep

/-- A deed: its kind, an id, a kind of ids. -/
structure De where
  k : Int
  i : Int
  o : Int
instance : Inhabited De := ⟨⟨0, 0, 0⟩⟩
def shD : Shp De := ⟨3, fun x => [.int .i64 x.k, .int .i64 x.i, .int .i64 x.o], fun _ => rfl, fun x u h => by simp at h; rcases h with h | h | h <;> (subst h; rfl), by omega⟩
structure I64d (e : De) : Prop where
  k : I64 e.k
  i : I64 e.i
  o : I64 e.o
theorem cellsInt1 : Try.prog.cellsOf 3 = 1 := by kernel_rfl
theorem de_at {w : World} {b off : Nat} {l : List De} (h : shD.Row w b off l) {k : Nat} {x : De} (hx : l[k]? = some x) : w.cell? ⟨b, off + k * 3, none⟩ = some (.int .i64 x.k) ∧ w.cell? ⟨b, off + k * 3 + 1, none⟩ = some (.int .i64 x.i) ∧ w.cell? ⟨b, off + k * 3 + 2, none⟩ = some (.int .i64 x.o) := by
  have h0 := h k x hx 0 (.int .i64 x.k) rfl
  have h1 := h k x hx 1 (.int .i64 x.i) rfl
  have h2 := h k x hx 2 (.int .i64 x.o) rfl
  exact ⟨by simpa [shD] using h0, by simpa [shD] using h1, by simpa [shD] using h2⟩
section
variable {H : Type} {enc : TypeId × Value → H} {w : World} {base : Nat} {spare : Nat → Bool} {held : Bool}
set_option maxRecDepth 100000 in
theorem int_cells {n : Nat} {cs : List Value} {x : DataW H × List MemPlace} (h : DataW.trod enc Try.prog w base spare held n 3 cs = some x) : ∃ e : Int, cs = shI.c e ∧ I64 e := by
  obtain ⟨a, e0, _, wa⟩ := DataW.trod_int Try.underlying3 h
  exact ⟨a, e0, I64.of_wf wa⟩
set_option maxRecDepth 100000 in
theorem open_ints1 {v : Value} {dd : DataW H} {p : List MemPlace} {b0 : Nat} {r : Reach} (hv : Value.okWide Try.prog w r b0 51 v) (h : DataW.Trod enc Try.prog w base spare held 51 v dd p) :
    ∃ (A : Option Addr) (cap : Nat) (L : List Int), v = .slice A L.length cap ∧ (A = none → cap = 0) ∧ L.length ≤ cap ∧ cap ≤ maxLen ∧ shI.Rd w A L ∧ ∀ e ∈ L, I64 e :=
  open_rows shI I64 Try.underlying51 cellsInt1 int_cells hv h
end

end Go.Proofs.Ytkaaagggbclofaa
