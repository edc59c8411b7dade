/-
  What is proved: what few, all of the statements, Letters and Good of the document's package, and Size of package args, hand back. No conditions but bounds. what all of the statements, Letters of the document's package, and Size of package args, hand back. No conditions but bounds. what Letters of the document's package hands back of any text. No conditions but a bound. what Good of the document's package hands back of any form and any arguments. No conditions but bounds. the document's example; how arguments that are bytes, arguments of the document's package, and rows of these are opened. No conditions. arguments that are rows of numbers read as lists. No conditions. how arguments that are arguments of the document's package, and rows of these, are opened. No conditions. a world that holds the two listed tables of Go's library, for the rows' witnesses. No conditions.
-/
import Derived.Test.YthkbenhlhldglaaDoorUn
import Derived.Test.YthkbenhlhldglaaDoorMb
import Derived.Test.YthkbenhlhldglaaDoorOba
import Derived.Deep.Slices
import Derived.ChangeMaps5
import Derived.Test.YthkbenhlhldglaaDoorRows
import Derived.Test.YthkbenhlhldglaaDoorCards
import Derived.Test.YthkbenhlhldglaaDoorTie
import Derived.WalkKit
import Derived.ProofKit
import Derived.OpenShut
import Derived.Deep.DeepHandedRow
import Derived.Lib.LaidTab
namespace Go.Proofs.YthkbenhlhldglaaDoor
open Go.RowKit Go.Sort
attribute [local go_sem ↓] run_min2 run_max2

/-- A row of arguments that was made; their bytes are the old ones. -/
def MadeQ (w : World) (l : List Av) (e : Ending) (w' : World) : Prop := ∃ A' c' X, e = .returned (.slice A' (X : List (Av × Value)).length c') ∧ X.map Prod.fst = l ∧ OwV w' w.heap.size A' c' X ∧ (∀ p ∈ X, Sv w p.2 p.1.b) ∧ Bl w w'
def fewA (a : Av) : Av := { a with s := a.s.extract 0 (min a.s.size 300), b := a.b.take 300 }
def fewL (l : List Av) : List Av := (l.take 10).map fewA
theorem take_snoc {α : Type} {l : List α} {k : Nat} {x : α} (h : l[k]? = some x) : l.take (k + 1) = l.take k ++ [x] := by
  rw [List.take_add_one, h]; rfl
theorem min_nat (n k : Nat) : min (n : Int) (k : Int) = ((min n k : Nat) : Int) := by omega

end Go.Proofs.YthkbenhlhldglaaDoor
namespace Go.Proofs.YthkbenhlhldglaaDoor
open Go.RowKit Go.Sort
attribute [local go_sem ↓] run_min2 run_max2

theorem asV_iface (p : Av × Value) : ∃ t x, asV p = .iface t x := by
  unfold asV
  split
  · exact ⟨_, _, rfl⟩
  · split
    · exact ⟨_, _, rfl⟩
    · split
      · exact ⟨_, _, rfl⟩
      · split <;> exact ⟨_, _, rfl⟩
/-- A row of interface values that are these arguments. -/
def AllQ (w : World) (l : List Av) (e : Ending) (w' : World) : Prop := ∃ A' c' xs, e = .returned (.slice A' (xs : List Value).length c') ∧ Yv w' A' xs ∧ AllA w' xs l ∧ Bl w w'
/-- What Size tells. -/
def szR (f : List UInt8) : Int × Bool := if formB f = true then (match szA 0 f with | some n => ((n : Int), true) | none => (0, false)) else (0, false)
theorem fx_le {c : UInt8} {n : Nat} (h : fx c = some n) : n ≤ 16 := by
  unfold fx at h
  split at h
  · cases h; omega
  · split at h
    · cases h; omega
    · cases h
theorem let_ext : ∀ k : Nat, k < 5 → (⟨#[105, 117, 115, 114, 98]⟩ : ByteArray).extract k (k + 1) = ⟨#[letK k]⟩ := by
  intro k hk
  match k, hk with
  | 0, _ => rfl
  | 1, _ => rfl
  | 2, _ => rfl
  | 3, _ => rfl
  | 4, _ => rfl

end Go.Proofs.YthkbenhlhldglaaDoor
namespace Go.Proofs.YthkbenhlhldglaaDoor
open Go.RowKit Go.Sort
attribute [local go_sem ↓] run_min2 run_max2

theorem concat_one (t : ByteArray) (c : UInt8) : (t ++ (⟨#[c]⟩ : ByteArray)).data.toList = t.data.toList ++ [c] := by
  rw [Go.Joins.data_append]
end Go.Proofs.YthkbenhlhldglaaDoor
namespace Go.Proofs.YthkbenhlhldglaaDoor
open Go.RowKit Go.Sort
attribute [local go_sem ↓] run_min2 run_max2

end Go.Proofs.YthkbenhlhldglaaDoor
namespace Go.Proofs.YthkbenhlhldglaaDoor
open Go.ChangeShapes Go.WideShapes Go.ChangeAt Go.RowKit Go.Joins Go.Sort Go.Deep

theorem pk_lives : pkR [105, 115] [vI (-1), vS ⟨#[97]⟩] = ([255, 255, 255, 255, 1, 97], 0) := by
  have e1 : put 105 (vI (-1)) = some [255, 255, 255, 255] := by rw [put_i (by unfold small; omega)]; rfl
  have e2 : put 115 (vS ⟨#[97]⟩) = some [1, 97] := by rw [put_s (by decide)]; rfl
  unfold pkR
  rw [if_pos ⟨rfl, rfl⟩]
  simp only [pkA, e1, e2]
  rfl
end Go.Proofs.YthkbenhlhldglaaDoor
namespace Go.Proofs.YthkbenhlhldglaaDoor
open Go.ChangeShapes Go.WideShapes Go.ChangeAt Go.RowKit Go.Joins Go.Sort Go.Deep

theorem cellsSl8 : Tryd.prog.cellsOf 22 = 1 := by kernel_rfl
theorem By8.of_wf {n : Int} (h : (Lit.int .u8 n).wf = true) : 0 ≤ n ∧ n ≤ 255 := by
  simp [Lit.wf, IntKind.min, IntKind.max, IntKind.bits, IntKind.signed] at h
  omega
section
variable {H : Type} {enc : TypeId × Value → H} {w : World} {base : Nat} {spare : Nat → Bool} {held : Bool}
set_option maxRecDepth 100000 in
theorem open_numsF {k : IntKind} {t e : TypeId} (ht : Tryd.prog.underlying t = some (.slice e)) (he : Tryd.prog.underlying e = some (.int k)) (hc1 : Tryd.prog.cellsOf e = 1) {fuel : Nat} {v : Value} {y : DataW H × List MemPlace} (hf : DataW.trod enc Tryd.prog w base spare held fuel t [v] = some y) :
    ∃ (A : Option Addr) (cap : Nat) (L : List Int), v = .slice A L.length cap ∧ (A = none → cap = 0) ∧ L.length ≤ cap ∧ cap ≤ maxLen ∧ (L = [] ∨ ∃ b off, A = some ⟨b, off, none⟩ ∧ ∀ i x, L[i]? = some x → w.cell? ⟨b, off + i, none⟩ = some (.int k x)) ∧ ∀ x ∈ L, (Lit.int k x).wf = true := by
  rcases open_slice ht hf with ⟨hc, _⟩ | ⟨a, len0, cap0, m, n, D, Pl, hc, _, hl, hm, hmm, _, hx⟩
  · simp at hc
    subst hc
    exact ⟨none, 0, [], rfl, fun _ => rfl, Nat.zero_le _, Nat.zero_le _, .inl rfl, by intro r hr; simp at hr⟩
  · simp at hc
    subst hc
    by_cases hz : len0 = 0
    · subst hz; exact ⟨_, _, [], rfl, by simp, Nat.zero_le _, hm, .inl rfl, by intro r hr; simp at hr⟩
    · have hlm : len0 ≤ m := by rw [hmm]; split <;> omega
      have each : ∀ i, i < m → ∃ q : Int, w.cell? (a.add i) = some (Value.int k q) ∧ (Lit.int k q).wf = true := by
        intro i hi
        obtain ⟨cs', h1, h2⟩ := hx i hi
        rw [hc1] at h1
        obtain ⟨_, hlen, hcell⟩ := World.cells?_some h1
        obtain ⟨q, e0, _, wq⟩ := DataW.trod_int he h2
        refine ⟨q, ?_, wq⟩
        have := hcell 0 (by omega)
        rw [add_add, e0] at this
        simpa using this
      obtain ⟨f, hfq⟩ := choose_lt each
      have h0 := (hfq 0 (by omega)).1
      obtain ⟨b, off, spot⟩ := a
      cases spot with
      | some t =>
        simp [Addr.add, World.cell?] at h0
        exfalso
        split at h0 <;> cases h0
      | none =>
        refine ⟨some ⟨b, off, none⟩, cap0, (List.range len0).map f, by simp, by simp, by simpa using hl, hm, .inr ⟨b, off, rfl, fun k r hk => ?_⟩, fun r hr => ?_⟩
        · have hkl : k < ((List.range len0).map f).length := by
            rcases Nat.lt_or_ge k ((List.range len0).map f).length with h' | h'
            · exact h'
            · rw [List.getElem?_eq_none h'] at hk; cases hk
          simp at hkl
          simp [hkl] at hk
          subst hk
          have hk' := (hfq k (by omega)).1
          rwa [add_lit'] at hk'
        · rw [List.mem_map] at hr
          obtain ⟨k, hk, rfl⟩ := hr
          rw [List.mem_range] at hk
          exact (hfq k (by omega)).2
set_option maxRecDepth 100000 in
theorem open_nums' {k : IntKind} {t e : TypeId} (ht : Tryd.prog.underlying t = some (.slice e)) (he : Tryd.prog.underlying e = some (.int k)) (hc1 : Tryd.prog.cellsOf e = 1) {v : Value} {dd : DataW H} {p : List MemPlace} {b0 : Nat} {r : Reach} (hv : Value.okWide Tryd.prog w r b0 t v) (h : DataW.Trod enc Tryd.prog w base spare held t v dd p) :
    ∃ (A : Option Addr) (cap : Nat) (L : List Int), v = .slice A L.length cap ∧ (A = none → cap = 0) ∧ L.length ≤ cap ∧ cap ≤ maxLen ∧ (L = [] ∨ ∃ b off, A = some ⟨b, off, none⟩ ∧ ∀ i x, L[i]? = some x → w.cell? ⟨b, off + i, none⟩ = some (.int k x)) ∧ ∀ x ∈ L, (Lit.int k x).wf = true := by
  obtain ⟨a0, len0, cap0, rfl⟩ := okWide_slice ht hv
  obtain ⟨fuel, hf⟩ := h
  exact open_numsF ht he hc1 (by simpa [Value.cells] using hf)
end

end Go.Proofs.YthkbenhlhldglaaDoor
namespace Go.Proofs.YthkbenhlhldglaaDoor
open Go.ChangeShapes Go.WideShapes Go.ChangeAt Go.RowKit Go.Joins Go.Sort Go.Deep

theorem list8 {α : Type} {l : List α} (h : l.length = 8) : ∃ v0 v1 v2 v3 v4 v5 v6 v7 : α, l = [v0, v1, v2, v3, v4, v5, v6, v7] := by
  match l, h with
  | [v0, v1, v2, v3, v4, v5, v6, v7], _ => exact ⟨v0, v1, v2, v3, v4, v5, v6, v7, rfl⟩
section
variable {H : Type} {enc : TypeId × Value → H} {P : Program} {w : World} {base : Nat} {spare : Nat → Bool} {held : Bool}
theorem fieldA {t : TypeId} {fs : Array Field} {fuel : Nat} {cs : List Value} {x : DataW H × List MemPlace} (ht : P.underlying t = some (.struct fs)) (h : DataW.trod enc P w base spare held fuel t cs = some x) {i : Nat} {f : Field} (hi : fs[i]? = some f) :
    ∃ n y, DataW.trod enc P w base spare held n f.type (List.take (P.cellsOf f.type) (List.drop f.offset cs)) = some y := by
  obtain ⟨xs, n, _, _, _, hl, hf⟩ := DataW.trod_struct ht h
  have := hf i f hi
  have hlt : i < fs.size := (Array.getElem?_eq_some_iff.1 hi).1
  rw [List.getElem?_eq_getElem (by omega)] at this
  exact ⟨n, _, this⟩
theorem intA {t : TypeId} {k : IntKind} {fs : Array Field} {fuel : Nat} {cs : List Value} {x : DataW H × List MemPlace} (ht : P.underlying t = some (.struct fs)) (h : DataW.trod enc P w base spare held fuel t cs = some x) {i : Nat} {f : Field} (hi : fs[i]? = some f) (he : P.underlying f.type = some (.int k))
    {v : Value} (hv : List.take (P.cellsOf f.type) (List.drop f.offset cs) = [v]) : ∃ q : Int, v = .int k q ∧ (Lit.int k q).wf = true := by
  obtain ⟨n, y, hy⟩ := fieldA ht h hi
  rw [hv] at hy
  obtain ⟨q, e0, _, wq⟩ := DataW.trod_int he hy
  simp at e0
  exact ⟨q, e0, wq⟩
end
theorem cellsIA : Tryd.prog.cellsOf 3 = 1 := by kernel_rfl
theorem cellsSA : Tryd.prog.cellsOf 9 = 1 := by kernel_rfl
theorem cellsRA : Tryd.prog.cellsOf 26 = 4 := by kernel_rfl
theorem cellsBA : Tryd.prog.cellsOf 22 = 1 := by kernel_rfl
/-- What an argument that came in is good for. -/
structure GoodA (w : World) (p : Av × Value) : Prop where
  sv : Sv w p.2 p.1.b
  by8 : ∀ x ∈ p.1.b, 0 ≤ x ∧ x ≤ 255
  s : p.1.s.size ≤ maxLen
  n : I64 p.1.n
  k : I64 p.1.k
section
variable {H : Type} {enc : TypeId × Value → H} {w : World} {base : Nat} {spare : Nat → Bool} {held : Bool}
set_option maxRecDepth 100000 in
set_option maxHeartbeats 2000000 in
theorem arg_cells {n : Nat} {cs : List Value} {x : DataW H × List MemPlace} (hl : cs.length = 8) (h : DataW.trod enc Tryd.prog w base spare held n 88 cs = some x) : ∃ p : Av × Value, cs = c8 p ∧ GoodA w p := by
  obtain ⟨v0, v1, v2, v3, v4, v5, v6, v7, rfl⟩ := list8 hl
  obtain ⟨k, rfl, wk⟩ := intA Tryd.underlying88 h (i := 0) rfl Tryd.underlying3 (v := v0) (by simp [cellsIA])
  obtain ⟨m, rfl, wm⟩ := intA Tryd.underlying88 h (i := 1) rfl Tryd.underlying3 (v := v1) (by simp [cellsIA])
  obtain ⟨n2, y2, hS⟩ := fieldA Tryd.underlying88 h (i := 2) rfl
  simp [cellsSA] at hS
  obtain ⟨s, e0, _, ws⟩ := DataW.trod_string Tryd.underlying9 hS
  simp at e0
  subst e0
  obtain ⟨n3, y3, hR⟩ := fieldA Tryd.underlying88 h (i := 3) rfl
  simp [cellsRA] at hR
  obtain ⟨x0, rfl, _⟩ := intA Tryd.underlying26 hR (i := 0) rfl Tryd.underlying3 (v := v3) (by simp [cellsIA])
  obtain ⟨y0, rfl, _⟩ := intA Tryd.underlying26 hR (i := 1) rfl Tryd.underlying3 (v := v4) (by simp [cellsIA])
  obtain ⟨x1, rfl, _⟩ := intA Tryd.underlying26 hR (i := 2) rfl Tryd.underlying3 (v := v5) (by simp [cellsIA])
  obtain ⟨y1, rfl, _⟩ := intA Tryd.underlying26 hR (i := 3) rfl Tryd.underlying3 (v := v6) (by simp [cellsIA])
  obtain ⟨n4, y4, hB⟩ := fieldA Tryd.underlying88 h (i := 4) rfl
  simp [cellsBA] at hB
  obtain ⟨A, c, L, rfl, q1, q2, q3, q4, q5⟩ := open_numsF Tryd.underlying22 Tryd.underlying5 cellsByte hB
  exact ⟨(⟨k, m, s, x0, y0, x1, y1, L⟩, .slice A L.length c), rfl, ⟨⟨A, c, rfl, q1, q2, q3, q4⟩, fun x hx => By8.of_wf (q5 x hx), ws, I64.of_wf wm, I64.of_wf wk⟩⟩
set_option maxRecDepth 100000 in
theorem open_arg {v : Value} {dd : DataW H} {p : List MemPlace} {b0 : Nat} {r : Reach} (hv : Value.okWide Tryd.prog w r b0 88 v) (h : DataW.Trod enc Tryd.prog w base spare held 88 v dd p) : ∃ p : Av × Value, v = g8 p ∧ GoodA w p := by
  obtain ⟨cs, rfl, hsz⟩ := okWide_struct Tryd.underlying88 hv
  rw [cellsV] at hsz
  obtain ⟨fuel, hf⟩ := h
  obtain ⟨l⟩ := cs
  simp only [List.size_toArray] at hsz
  simp only [Value.cells] at hf
  obtain ⟨p, rfl, hp⟩ := arg_cells hsz hf
  exact ⟨p, rfl, hp⟩
instance : Inhabited (Av × Value) := ⟨(zeroV, .bool false)⟩
set_option maxRecDepth 100000 in
/-- A row of arguments that came in. -/
theorem open_args {v : Value} {dd : DataW H} {p : List MemPlace} {b0 : Nat} {r : Reach} (hv : Value.okWide Tryd.prog w r b0 86 v) (h : DataW.Trod enc Tryd.prog w base spare held 86 v dd p) :
    ∃ (A : Option Addr) (cap : Nat) (X : List (Av × Value)), v = .slice A X.length cap ∧ X.length ≤ maxLen ∧ Vv w A X ∧ ∀ p ∈ X, GoodA w p := by
  obtain ⟨a0, len0, cap0, rfl⟩ := okWide_slice Tryd.underlying86 hv
  obtain ⟨fuel, hf⟩ := h
  rcases open_slice Tryd.underlying86 hf with ⟨hc, _⟩ | ⟨a, len, cap, m, n, D, Pl, hc, _, hl, hm, hmm, _, hx⟩
  · simp [Value.cells] at hc
    obtain ⟨rfl, rfl, rfl⟩ := hc
    exact ⟨none, 0, [], rfl, Nat.zero_le _, ⟨.inl rfl, by intro r hr; simp at hr⟩, by intro r hr; simp at hr⟩
  · simp [Value.cells] at hc
    obtain ⟨rfl, rfl, rfl⟩ := hc
    by_cases hz : len0 = 0
    · subst hz; exact ⟨_, _, [], rfl, Nat.zero_le _, ⟨.inl rfl, by intro r hr; simp at hr⟩, by intro r hr; simp at hr⟩
    · have hlm : len0 ≤ m := by rw [hmm]; split <;> omega
      have each : ∀ i, i < m → ∃ q : Av × Value, (∀ j, j < 8 → w.cell? (a.add (i * 8 + j)) = (c8 q)[j]?) ∧ GoodA w q := by
        intro i hi
        obtain ⟨cs', h1, h2⟩ := hx i hi
        rw [cellsV] at h1
        obtain ⟨_, hlen, hcell⟩ := World.cells?_some h1
        obtain ⟨q, rfl, q1⟩ := arg_cells hlen h2
        refine ⟨q, fun j hj => ?_, q1⟩
        rw [← add_add]
        exact hcell j hj
      obtain ⟨f, hfq⟩ := choose_lt each
      have h0 := (hfq 0 (by omega)).1 0 (by omega)
      obtain ⟨b, off, spot⟩ := a
      cases spot with
      | some t =>
        simp [Addr.add, World.cell?, c8] at h0
        exfalso
        split at h0 <;> cases h0
      | none =>
        have get : ∀ k p, ((List.range len0).map f)[k]? = some p → k < m ∧ p = f k := by
          intro k p hk
          have hkl : k < ((List.range len0).map f).length := by
            rcases Nat.lt_or_ge k ((List.range len0).map f).length with h' | h'
            · exact h'
            · rw [List.getElem?_eq_none h'] at hk; cases hk
          simp at hkl
          simp [hkl] at hk
          exact ⟨by omega, hk.symm⟩
        have hall : ∀ p ∈ (List.range len0).map f, GoodA w p := fun p hp => by
          obtain ⟨k, hk⟩ := List.getElem?_of_mem hp
          obtain ⟨hkm, rfl⟩ := get k p hk
          exact (hfq k hkm).2
        refine ⟨some ⟨b, off, none⟩, cap0, (List.range len0).map f, by simp, by simp; omega, ⟨.inr ⟨b, off, rfl, fun k p hk j u hj => ?_⟩, fun p hp => (hall p hp).sv⟩, hall⟩
        obtain ⟨hkm, rfl⟩ := get k p hk
        have hj8 : j < 8 := by
          rcases Nat.lt_or_ge j 8 with h' | h'
          · exact h'
          · rw [List.getElem?_eq_none (by rw [c8_len]; exact h')] at hj; cases hj
        have q := (hfq k hkm).1 j hj8
        rw [add_lit', ← Nat.add_assoc, hj] at q
        exact q
end

end Go.Proofs.YthkbenhlhldglaaDoor
namespace Go.Proofs.YthkbenhlhldglaaDoor
open Go.ChangeShapes Go.WideShapes Go.ChangeAt Go.RowKit

/-- The cells that a table's datum lays. -/
def tabCells : DataW Unit → List Value
  | .lit (.int k n) => [.int k n]
  | .agg l => tabAll l
  | _ => []
where tabAll : List (DataW Unit) → List Value
  | [] => []
  | d :: r => tabCells d ++ tabAll r
/-- A block whose cells are these. -/
def layCells (cs : List Value) : Obj → Obj
  | .cells _ t frozen => .cells cs.toArray t frozen
  | o => o
/-- The settled world, the two tables (blocks 0 and 1) holding what their initialisers lay. -/
noncomputable def laidWorld (os : Os) : World :=
  { World.holding Tryd.prog os ⟨#[], #[], []⟩ with heap := ((World.holding Tryd.prog os ⟨#[], #[], []⟩).heap.modify 2 (layCells (tabCells Rows.laid_unicode_utf8_first))).modify 3 (layCells (tabCells Rows.laid_unicode_utf8_acceptRanges)) }

end Go.Proofs.YthkbenhlhldglaaDoor
