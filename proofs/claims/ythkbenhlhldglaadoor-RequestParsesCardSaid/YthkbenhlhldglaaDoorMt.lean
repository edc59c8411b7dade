/-
  What is proved: how requests of the document's package, one and a row of them, and a message, are opened as they come in. No conditions. how a row of requests that came in is opened. No conditions. No conditions but bounds.
-/
import Derived.Test.YthkbenhlhldglaaDoorZph
import Derived.Test.YthkbenhlhldglaaDoorMf
import Derived.Test.YthkbenhlhldglaaDoorMx
import Derived.ChangeMaps5
namespace Go.Proofs.YthkbenhlhldglaaDoor
open Go.ChangeShapes Go.WideShapes Go.ChangeAt Go.RowKit Go.Joins Go.Sort Go.Deep

theorem list10 {α : Type} {l : List α} (h : l.length = 10) : ∃ v0 v1 v2 v3 v4 v5 v6 v7 v8 v9 : α, l = [v0, v1, v2, v3, v4, v5, v6, v7, v8, v9] := by
  match l, h with
  | [v0, v1, v2, v3, v4, v5, v6, v7, v8, v9], _ => exact ⟨v0, v1, v2, v3, v4, v5, v6, v7, v8, v9, rfl⟩
theorem cellsQ : Tryd.prog.cellsOf 28 = 10 := by kernel_rfl
/-- What a request that came in is good for. -/
structure GoodR (w : World) (r : Rq) (d : Value) : Prop where
  sv : Sv w d r.d
  inq : InQ r
def c10l (r : Rq) (d : Value) : List Value := [.int .i64 r.op, .int .i64 r.id, .int .i64 r.a, .int .i64 r.b, .int .i64 r.x0, .int .i64 r.y0, .int .i64 r.x1, .int .i64 r.y1, .string r.s, d]
section
variable {H : Type} {enc : TypeId × Value → H} {w : World} {base : Nat} {spare : Nat → Bool} {held : Bool}
set_option maxRecDepth 100000 in
set_option maxHeartbeats 2000000 in
theorem rq_cells {n : Nat} {cs : List Value} {x : DataW H × List MemPlace} (hl : cs.length = 10) (h : DataW.trod enc Tryd.prog w base spare held n 28 cs = some x) : ∃ (r : Rq) (d : Value), cs = c10l r d ∧ GoodR w r d := by
  obtain ⟨v0, v1, v2, v3, v4, v5, v6, v7, v8, v9, rfl⟩ := list10 hl
  obtain ⟨op, rfl, wop⟩ := intA Tryd.underlying28 h (i := 0) rfl Tryd.underlying3 (v := v0) (by simp [cellsIA])
  obtain ⟨id, rfl, wid⟩ := intA Tryd.underlying28 h (i := 1) rfl Tryd.underlying3 (v := v1) (by simp [cellsIA])
  obtain ⟨a, rfl, wa⟩ := intA Tryd.underlying28 h (i := 2) rfl Tryd.underlying3 (v := v2) (by simp [cellsIA])
  obtain ⟨b, rfl, wb⟩ := intA Tryd.underlying28 h (i := 3) rfl Tryd.underlying3 (v := v3) (by simp [cellsIA])
  obtain ⟨n3, y3, hR⟩ := fieldA Tryd.underlying28 h (i := 4) rfl
  simp [cellsRA] at hR
  obtain ⟨x0, rfl, wx0⟩ := intA Tryd.underlying26 hR (i := 0) rfl Tryd.underlying3 (v := v4) (by simp [cellsIA])
  obtain ⟨y0, rfl, wy0⟩ := intA Tryd.underlying26 hR (i := 1) rfl Tryd.underlying3 (v := v5) (by simp [cellsIA])
  obtain ⟨x1, rfl, wx1⟩ := intA Tryd.underlying26 hR (i := 2) rfl Tryd.underlying3 (v := v6) (by simp [cellsIA])
  obtain ⟨y1, rfl, wy1⟩ := intA Tryd.underlying26 hR (i := 3) rfl Tryd.underlying3 (v := v7) (by simp [cellsIA])
  obtain ⟨n2, y2, hS⟩ := fieldA Tryd.underlying28 h (i := 5) rfl
  simp [cellsSA] at hS
  obtain ⟨s, e0, _, ws⟩ := DataW.trod_string Tryd.underlying9 hS
  simp at e0
  subst e0
  obtain ⟨n4, y4, hB⟩ := fieldA Tryd.underlying28 h (i := 6) rfl
  simp [cellsBA] at hB
  obtain ⟨A, c, L, rfl, q1, q2, q3, q4, q5⟩ := open_numsF Tryd.underlying22 Tryd.underlying5 cellsByte hB
  exact ⟨⟨op, id, a, b, x0, y0, x1, y1, s, L⟩, .slice A L.length c, rfl, ⟨⟨A, c, rfl, q1, q2, q3, q4⟩, ⟨I64.of_wf wop, I64.of_wf wid, I64.of_wf wa, I64.of_wf wb, I64.of_wf wx0, I64.of_wf wy0, I64.of_wf wx1, I64.of_wf wy1, by show s.size ≤ _; have := ws; unfold maxLen at this; omega, fun x hx => By8.of_wf (q5 x hx)⟩⟩⟩
set_option maxRecDepth 100000 in
theorem open_rq {v : Value} {dd : DataW H} {p : List MemPlace} {b0 : Nat} {r : Reach} (hv : Value.okWide Tryd.prog w r b0 28 v) (h : DataW.Trod enc Tryd.prog w base spare held 28 v dd p) : ∃ (r : Rq) (d : Value), v = vQ r d ∧ GoodR w r d := by
  obtain ⟨cs, rfl, hsz⟩ := okWide_struct Tryd.underlying28 hv
  rw [cellsQ] at hsz
  obtain ⟨fuel, hf⟩ := h
  obtain ⟨l⟩ := cs
  simp only [List.size_toArray] at hsz
  simp only [Value.cells] at hf
  obtain ⟨r, d, rfl, hp⟩ := rq_cells hsz hf
  exact ⟨r, d, rfl, hp⟩
end

end Go.Proofs.YthkbenhlhldglaaDoor
namespace Go.Proofs.YthkbenhlhldglaaDoor
open Go.ChangeShapes Go.WideShapes Go.ChangeAt Go.RowKit Go.Joins Go.Sort Go.Deep

instance : Inhabited Rq := ⟨zQ⟩
instance : Inhabited (Rq × Value) := ⟨(zQ, .bool false)⟩
section
variable {H : Type} {enc : TypeId × Value → H} {w : World} {base : Nat} {spare : Nat → Bool} {held : Bool}
set_option maxRecDepth 100000 in
theorem open_rqs {v : Value} {dd : DataW H} {p : List MemPlace} {b0 : Nat} {r : Reach} (hv : Value.okWide Tryd.prog w r b0 44 v) (h : DataW.Trod enc Tryd.prog w base spare held 44 v dd p) :
    ∃ (A : Option Addr) (cap : Nat) (X : List (Rq × Value)), v = .slice A X.length cap ∧ X.length ≤ maxLen ∧ Pv w A X ∧ ∀ p ∈ X, GoodR w p.1 p.2 := by
  obtain ⟨a0, len0, cap0, rfl⟩ := okWide_slice Tryd.underlying44 hv
  obtain ⟨fuel, hf⟩ := h
  rcases open_slice Tryd.underlying44 hf with ⟨hc, _⟩ | ⟨a, len, cap, m, n, D, Pl, hc, _, hl, hm, hmm, _, hx⟩
  · simp [Value.cells] at hc
    obtain ⟨rfl, rfl, rfl⟩ := hc
    exact ⟨none, 0, [], rfl, Nat.zero_le _, ⟨.inl rfl, by intro r hr; simp at hr⟩, by intro r hr; simp at hr⟩
  · simp [Value.cells] at hc
    obtain ⟨rfl, rfl, rfl⟩ := hc
    by_cases hz : len0 = 0
    · subst hz; exact ⟨_, _, [], rfl, Nat.zero_le _, ⟨.inl rfl, by intro r hr; simp at hr⟩, by intro r hr; simp at hr⟩
    · have hlm : len0 ≤ m := by rw [hmm]; split <;> omega
      have each : ∀ i, i < m → ∃ q : Rq × Value, (∀ j, j < 10 → w.cell? (a.add (i * 10 + j)) = (c10p q)[j]?) ∧ GoodR w q.1 q.2 := by
        intro i hi
        obtain ⟨cs', h1, h2⟩ := hx i hi
        rw [cellsQ] at h1
        obtain ⟨_, hlen, hcell⟩ := World.cells?_some h1
        obtain ⟨q, dq, rfl, q1⟩ := rq_cells hlen h2
        refine ⟨(q, dq), fun j hj => ?_, q1⟩
        rw [← add_add]
        exact hcell j hj
      obtain ⟨f, hfq⟩ := choose_lt each
      have h0 := (hfq 0 (by omega)).1 0 (by omega)
      obtain ⟨b, off, spot⟩ := a
      cases spot with
      | some t =>
        simp [Addr.add, World.cell?, c10p] at h0
        exfalso
        split at h0 <;> cases h0
      | none =>
        have get : ∀ k p, ((List.range len0).map f)[k]? = some p → k < m ∧ p = f k := by
          intro k p hk
          have hkl : k < ((List.range len0).map f).length := by
            rcases Nat.lt_or_ge k ((List.range len0).map f).length with h' | h'
            · exact h'
            · rw [List.getElem?_eq_none h'] at hk; cases hk
          simp at hkl
          simp [hkl] at hk
          exact ⟨by omega, hk.symm⟩
        have hall : ∀ p ∈ (List.range len0).map f, GoodR w p.1 p.2 := fun p hp => by
          obtain ⟨k, hk⟩ := List.getElem?_of_mem hp
          obtain ⟨hkm, rfl⟩ := get k p hk
          exact (hfq k hkm).2
        refine ⟨some ⟨b, off, none⟩, cap0, (List.range len0).map f, by simp, by simp; omega, ⟨.inr ⟨b, off, rfl, fun k p hk j u hj => ?_⟩, fun p hp => (hall p hp).sv⟩, hall⟩
        obtain ⟨hkm, rfl⟩ := get k p hk
        have hj10 : j < 10 := by
          rcases Nat.lt_or_ge j 10 with h' | h'
          · exact h'
          · rw [List.getElem?_eq_none (by rw [c10p_len]; exact h')] at hj; cases hj
        have q := (hfq k hkm).1 j hj10
        rw [add_lit', ← Nat.add_assoc, hj] at q
        exact q
end

end Go.Proofs.YthkbenhlhldglaaDoor
