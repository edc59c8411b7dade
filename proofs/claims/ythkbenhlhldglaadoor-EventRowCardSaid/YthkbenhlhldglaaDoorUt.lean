/-
  What is proved: how arguments that are arguments of the document's package, and rows of these, are opened. No conditions.
-/
import Derived.Test.YthkbenhlhldglaaDoorUs
import Derived.ChangeMaps5
import Derived.Test.YthkbenhlhldglaaDoorOmb
namespace Go.Proofs.YthkbenhlhldglaaDoor
open Go.ChangeShapes Go.WideShapes Go.ChangeAt Go.RowKit Go.Joins Go.Sort Go.Deep

theorem list8 {α : Type} {l : List α} (h : l.length = 8) : ∃ v0 v1 v2 v3 v4 v5 v6 v7 : α, l = [v0, v1, v2, v3, v4, v5, v6, v7] := by
  match l, h with
  | [v0, v1, v2, v3, v4, v5, v6, v7], _ => exact ⟨v0, v1, v2, v3, v4, v5, v6, v7, rfl⟩
section
variable {H : Type} {enc : TypeId × Value → H} {P : Program} {w : World} {base : Nat} {spare : Nat → Bool} {held : Bool}
theorem fieldA {t : TypeId} {fs : Array Field} {fuel : Nat} {cs : List Value} {x : DataW H × List MemPlace} (ht : P.underlying t = some (.struct fs)) (h : DataW.trod enc P w base spare held fuel t cs = some x) {i : Nat} {f : Field} (hi : fs[i]? = some f) :
    ∃ n y, DataW.trod enc P w base spare held n f.type (List.take (P.cellsOf f.type) (List.drop f.offset cs)) = some y := by
  obtain ⟨xs, n, _, _, _, hl, hf⟩ := DataW.trod_struct ht h
  have := hf i f hi
  have hlt : i < fs.size := (Array.getElem?_eq_some_iff.1 hi).1
  rw [List.getElem?_eq_getElem (by omega)] at this
  exact ⟨n, _, this⟩
theorem intA {t : TypeId} {k : IntKind} {fs : Array Field} {fuel : Nat} {cs : List Value} {x : DataW H × List MemPlace} (ht : P.underlying t = some (.struct fs)) (h : DataW.trod enc P w base spare held fuel t cs = some x) {i : Nat} {f : Field} (hi : fs[i]? = some f) (he : P.underlying f.type = some (.int k))
    {v : Value} (hv : List.take (P.cellsOf f.type) (List.drop f.offset cs) = [v]) : ∃ q : Int, v = .int k q ∧ (Lit.int k q).wf = true := by
  obtain ⟨n, y, hy⟩ := fieldA ht h hi
  rw [hv] at hy
  obtain ⟨q, e0, _, wq⟩ := DataW.trod_int he hy
  simp at e0
  exact ⟨q, e0, wq⟩
end
theorem cellsIA : Tryd.prog.cellsOf 3 = 1 := by kernel_rfl
theorem cellsSA : Tryd.prog.cellsOf 9 = 1 := by kernel_rfl
theorem cellsRA : Tryd.prog.cellsOf 26 = 4 := by kernel_rfl
theorem cellsBA : Tryd.prog.cellsOf 22 = 1 := by kernel_rfl
/-- What an argument that came in is good for. -/
structure GoodA (w : World) (p : Av × Value) : Prop where
  sv : Sv w p.2 p.1.b
  by8 : ∀ x ∈ p.1.b, 0 ≤ x ∧ x ≤ 255
  s : p.1.s.size ≤ maxLen
  n : I64 p.1.n
  k : I64 p.1.k
section
variable {H : Type} {enc : TypeId × Value → H} {w : World} {base : Nat} {spare : Nat → Bool} {held : Bool}
set_option maxRecDepth 100000 in
set_option maxHeartbeats 2000000 in
theorem arg_cells {n : Nat} {cs : List Value} {x : DataW H × List MemPlace} (hl : cs.length = 8) (h : DataW.trod enc Tryd.prog w base spare held n 88 cs = some x) : ∃ p : Av × Value, cs = c8 p ∧ GoodA w p := by
  obtain ⟨v0, v1, v2, v3, v4, v5, v6, v7, rfl⟩ := list8 hl
  obtain ⟨k, rfl, wk⟩ := intA Tryd.underlying88 h (i := 0) rfl Tryd.underlying3 (v := v0) (by simp [cellsIA])
  obtain ⟨m, rfl, wm⟩ := intA Tryd.underlying88 h (i := 1) rfl Tryd.underlying3 (v := v1) (by simp [cellsIA])
  obtain ⟨n2, y2, hS⟩ := fieldA Tryd.underlying88 h (i := 2) rfl
  simp [cellsSA] at hS
  obtain ⟨s, e0, _, ws⟩ := DataW.trod_string Tryd.underlying9 hS
  simp at e0
  subst e0
  obtain ⟨n3, y3, hR⟩ := fieldA Tryd.underlying88 h (i := 3) rfl
  simp [cellsRA] at hR
  obtain ⟨x0, rfl, _⟩ := intA Tryd.underlying26 hR (i := 0) rfl Tryd.underlying3 (v := v3) (by simp [cellsIA])
  obtain ⟨y0, rfl, _⟩ := intA Tryd.underlying26 hR (i := 1) rfl Tryd.underlying3 (v := v4) (by simp [cellsIA])
  obtain ⟨x1, rfl, _⟩ := intA Tryd.underlying26 hR (i := 2) rfl Tryd.underlying3 (v := v5) (by simp [cellsIA])
  obtain ⟨y1, rfl, _⟩ := intA Tryd.underlying26 hR (i := 3) rfl Tryd.underlying3 (v := v6) (by simp [cellsIA])
  obtain ⟨n4, y4, hB⟩ := fieldA Tryd.underlying88 h (i := 4) rfl
  simp [cellsBA] at hB
  obtain ⟨A, c, L, rfl, q1, q2, q3, q4, q5⟩ := open_numsF Tryd.underlying22 Tryd.underlying5 cellsByte hB
  exact ⟨(⟨k, m, s, x0, y0, x1, y1, L⟩, .slice A L.length c), rfl, ⟨⟨A, c, rfl, q1, q2, q3, q4⟩, fun x hx => By8.of_wf (q5 x hx), ws, I64.of_wf wm, I64.of_wf wk⟩⟩
set_option maxRecDepth 100000 in
theorem open_arg {v : Value} {dd : DataW H} {p : List MemPlace} {b0 : Nat} {r : Reach} (hv : Value.okWide Tryd.prog w r b0 88 v) (h : DataW.Trod enc Tryd.prog w base spare held 88 v dd p) : ∃ p : Av × Value, v = g8 p ∧ GoodA w p := by
  obtain ⟨cs, rfl, hsz⟩ := okWide_struct Tryd.underlying88 hv
  rw [cellsV] at hsz
  obtain ⟨fuel, hf⟩ := h
  obtain ⟨l⟩ := cs
  simp only [List.size_toArray] at hsz
  simp only [Value.cells] at hf
  obtain ⟨p, rfl, hp⟩ := arg_cells hsz hf
  exact ⟨p, rfl, hp⟩
instance : Inhabited (Av × Value) := ⟨(zeroV, .bool false)⟩
set_option maxRecDepth 100000 in
/-- A row of arguments that came in. -/
theorem open_args {v : Value} {dd : DataW H} {p : List MemPlace} {b0 : Nat} {r : Reach} (hv : Value.okWide Tryd.prog w r b0 86 v) (h : DataW.Trod enc Tryd.prog w base spare held 86 v dd p) :
    ∃ (A : Option Addr) (cap : Nat) (X : List (Av × Value)), v = .slice A X.length cap ∧ X.length ≤ maxLen ∧ Vv w A X ∧ ∀ p ∈ X, GoodA w p := by
  obtain ⟨a0, len0, cap0, rfl⟩ := okWide_slice Tryd.underlying86 hv
  obtain ⟨fuel, hf⟩ := h
  rcases open_slice Tryd.underlying86 hf with ⟨hc, _⟩ | ⟨a, len, cap, m, n, D, Pl, hc, _, hl, hm, hmm, _, hx⟩
  · simp [Value.cells] at hc
    obtain ⟨rfl, rfl, rfl⟩ := hc
    exact ⟨none, 0, [], rfl, Nat.zero_le _, ⟨.inl rfl, by intro r hr; simp at hr⟩, by intro r hr; simp at hr⟩
  · simp [Value.cells] at hc
    obtain ⟨rfl, rfl, rfl⟩ := hc
    by_cases hz : len0 = 0
    · subst hz; exact ⟨_, _, [], rfl, Nat.zero_le _, ⟨.inl rfl, by intro r hr; simp at hr⟩, by intro r hr; simp at hr⟩
    · have hlm : len0 ≤ m := by rw [hmm]; split <;> omega
      have each : ∀ i, i < m → ∃ q : Av × Value, (∀ j, j < 8 → w.cell? (a.add (i * 8 + j)) = (c8 q)[j]?) ∧ GoodA w q := by
        intro i hi
        obtain ⟨cs', h1, h2⟩ := hx i hi
        rw [cellsV] at h1
        obtain ⟨_, hlen, hcell⟩ := World.cells?_some h1
        obtain ⟨q, rfl, q1⟩ := arg_cells hlen h2
        refine ⟨q, fun j hj => ?_, q1⟩
        rw [← add_add]
        exact hcell j hj
      obtain ⟨f, hfq⟩ := choose_lt each
      have h0 := (hfq 0 (by omega)).1 0 (by omega)
      obtain ⟨b, off, spot⟩ := a
      cases spot with
      | some t =>
        simp [Addr.add, World.cell?, c8] at h0
        exfalso
        split at h0 <;> cases h0
      | none =>
        have get : ∀ k p, ((List.range len0).map f)[k]? = some p → k < m ∧ p = f k := by
          intro k p hk
          have hkl : k < ((List.range len0).map f).length := by
            rcases Nat.lt_or_ge k ((List.range len0).map f).length with h' | h'
            · exact h'
            · rw [List.getElem?_eq_none h'] at hk; cases hk
          simp at hkl
          simp [hkl] at hk
          exact ⟨by omega, hk.symm⟩
        have hall : ∀ p ∈ (List.range len0).map f, GoodA w p := fun p hp => by
          obtain ⟨k, hk⟩ := List.getElem?_of_mem hp
          obtain ⟨hkm, rfl⟩ := get k p hk
          exact (hfq k hkm).2
        refine ⟨some ⟨b, off, none⟩, cap0, (List.range len0).map f, by simp, by simp; omega, ⟨.inr ⟨b, off, rfl, fun k p hk j u hj => ?_⟩, fun p hp => (hall p hp).sv⟩, hall⟩
        obtain ⟨hkm, rfl⟩ := get k p hk
        have hj8 : j < 8 := by
          rcases Nat.lt_or_ge j 8 with h' | h'
          · exact h'
          · rw [List.getElem?_eq_none (by rw [c8_len]; exact h')] at hj; cases hj
        have q := (hfq k hkm).1 j hj8
        rw [add_lit', ← Nat.add_assoc, hj] at q
        exact q
end

end Go.Proofs.YthkbenhlhldglaaDoor
