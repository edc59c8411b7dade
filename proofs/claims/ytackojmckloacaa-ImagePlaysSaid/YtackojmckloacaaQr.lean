/-
  What is proved: what Read of package image does where it does not refuse, and where it does.
-/
import Derived.Test.YtackojmckloacaaIf
import Derived.Test.YtackojmckloacaaIy
import Derived.Test.YtackojmckloacaaIx
import Derived.Outline
namespace Go.Proofs.Ytackojmckloacaa
open Go.RowKit Go.Sort Go.Shelf

attribute [local go_sem] Oper.semAt_some

/-- A color's bytes. -/
def px (c : Int) : List Int := [pA c, pR c, pG c, pB c]
/-- The bytes of m colors from place k on. -/
def rowPx (L : List Int) (k m : Nat) : List Int := ((L.drop k).take m).flatMap px
theorem rowPx_zero (L : List Int) (k : Nat) : rowPx L k 0 = [] := by simp [rowPx]
theorem rowPx_succ {L : List Int} {k j : Nat} {c : Int} (h : L[k + j]? = some c) : rowPx L k (j + 1) = rowPx L k j ++ px c := by
  unfold rowPx
  rw [List.take_add_one, List.getElem?_drop, h, List.flatMap_append]
  simp
theorem flat_len : ∀ L : List Int, (L.flatMap px).length = 4 * L.length
  | [] => rfl
  | c :: l => by rw [List.flatMap_cons, List.length_append, flat_len l, List.length_cons]; simp [px]; omega
theorem rowPx_len {L : List Int} {k m : Nat} (h : k + m ≤ L.length) : (rowPx L k m).length = 4 * m := by
  unfold rowPx; rw [flat_len, List.length_take, List.length_drop]; omega
/-- The bytes of rows y of W colors, from x0 up to x1. -/
def readR (W x0 x1 : Nat) (L : List Int) (ys : List Nat) : List Int := ys.flatMap fun y => rowPx L (y * W + x0) (x1 - x0)
theorem readR_snoc (W x0 x1 : Nat) (L : List Int) (ys : List Nat) (y : Nat) : readR W x0 x1 L (ys ++ [y]) = readR W x0 x1 L ys ++ rowPx L (y * W + x0) (x1 - x0) := by simp [readR]
theorem readR_len (W x0 x1 : Nat) (L : List Int) (ys : List Nat) (h : ∀ y ∈ ys, y * W + x0 + (x1 - x0) ≤ L.length) : (readR W x0 x1 L ys).length = 4 * ((x1 - x0) * ys.length) := by
  induction ys with
  | nil => simp [readR]
  | cons y l ih =>
    have e : readR W x0 x1 L (y :: l) = rowPx L (y * W + x0) (x1 - x0) ++ readR W x0 x1 L l := by simp [readR]
    rw [e, List.length_append, ih (fun z hz => h z (by simp [hz])), rowPx_len (h y (by simp)), List.length_cons, Nat.mul_add, Nat.mul_add]
    omega

/-- A row of bytes that the call owns abides the loop's book-keeping. -/
theorem OwN.turn {k : IntKind} {e : TypeId} {X Y : World} {B : Nat} {A : Option Addr} {c : Nat} {L : List Int} {row : Option Nat} (h : OwN k e X B A c L) (g : X.grownBy Y row) (hr : ∀ r, row = some r → ∃ o : Obj, X.heap[r]? = some o ∧ o.isCells = false) : OwN k e Y B A c L := by
  refine h.grown g ?_
  rcases h.2 with ⟨h1, _⟩ | ⟨b, cap, cur, h1, _, h3, _⟩
  · injection h1 with h1; exact .inl h1
  · right
    intro e'
    injection h1 with h1 _ _
    rw [h1] at e'
    obtain ⟨o, ho, hc⟩ := hr b e'.symm
    rw [h3] at ho
    cases ho; cases hc
/-- The box that holds the row. -/
theorem OwN.isCells {k : IntKind} {e : TypeId} {X : World} {B g c : Nat} {L : List Int} (h : OwN k e X B (some ⟨g, 0, none⟩) c L) {o : Obj} (ho : X.heap[g]? = some o) : o.isCells = true := by
  rcases h.2 with ⟨h1, _⟩ | ⟨b, cap, cur, h1, _, h3, _⟩
  · injection h1 with h1; cases h1
  · injection h1 with h1 _ _
    injection h1 with h1
    injection h1 with h1
    subst h1
    rw [h3] at ho
    cases ho; rfl
theorem OwN.cap {k : IntKind} {e : TypeId} {w : World} {B : Nat} {A : Option Addr} {c : Nat} {L : List Int} (h : OwN k e w B A c L) : L.length ≤ c := by
  rcases h.2 with ⟨h1, h2⟩ | ⟨g, cap, cur, h1, _, _, h4, _⟩
  · omega
  · injection h1 with a b c'; omega
theorem by_bl {a b : World} (h : a.grownBy b none) : Bl a b := ⟨h.os, h.tape, h.output, h.size, fun k hk => h.block k hk (by simp)⟩
structure BoxB (w : World) (B b g cap : Nat) (L : List Int) : Prop where
  at_ : At w b #[.slice (some ⟨g, 0, none⟩) L.length cap] 33
  own : OwN .u8 5 w B (some ⟨g, 0, none⟩) cap L
theorem ownBox {β : Type} (B0 B b g cap : Nat) (f : β → List Int) : OwnFrom B0 (fun s W => BoxB W B b g cap (f s)) := fun s X Y row hs hg hr =>
  ⟨hs.at_.kept hg (fun e => by obtain ⟨_, o, ho, hc⟩ := hr b e.symm; rw [show X.heap[b]? = _ from hs.at_] at ho; cases ho; cases hc), hs.own.turn hg (fun r e => (hr r e).2)⟩
theorem BoxB.gr {w w' : World} {B b g cap : Nat} {L : List Int} (h : BoxB w B b g cap L) (k : Gr w w') : BoxB w' B b g cap L := ⟨h.at_.gr k, h.own.gr k⟩
theorem makeY0 (N : Nat) (h : N ≤ 1000000000) (w : World) : (Instr.makeSlice 33 (.int .i64 0) (.int .i64 (N : Int))).run Try.prog w =
    .ok (.slice (some ⟨w.heap.size, 0, none⟩) 0 N) (w.alloc (.cells (madeCells #[.int .u8 0] N) 5)) := by
  obtain ⟨i0, hi, hz0, hz1, hz2⟩ := info_parts infoBy
  have := run_make (P := Try.prog) w 33 5 i0 _ Try.underlying33 hi hz0 .i64 .i64 0 (N : Int) (Int.le_refl _) (by omega) (by rw [hz2]; omega) (by omega)
  rw [this, hz1]
  simp [Value.cells]
theorem madeY0 (N B : Nat) (h : N ≤ 1000000) (w : World) (hB : B ≤ w.heap.size) : OwN .u8 5 (w.alloc (.cells (madeCells #[.int .u8 0] N) 5)) B (some ⟨w.heap.size, 0, none⟩) N [] :=
  World.ownsRow_made w _ N hB (by unfold maxLen; omega) (by rw [size_madeCells, Nat.mul_one])

end Go.Proofs.Ytackojmckloacaa
