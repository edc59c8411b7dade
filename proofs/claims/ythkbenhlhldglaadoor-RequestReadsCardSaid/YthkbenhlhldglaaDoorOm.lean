/-
  What is proved: arguments that are bytes, a message, a row of messages, a row of ints read as lists. No conditions.
-/
import Derived.Test.YthkbenhlhldglaaDoorMb
import Derived.Test.YthkbenhlhldglaaDoorMf
namespace Go.Proofs.YthkbenhlhldglaaDoor
open Go.ChangeShapes Go.WideShapes Go.ChangeAt Go.RowKit Go.Joins Go.Sort Go.Deep

section
variable {H : Type} {enc : TypeId × Value → H} {w : World} {base : Nat} {spare : Nat → Bool} {held : Bool}
set_option maxRecDepth 100000 in
theorem open_bytes {v : Value} {dd : DataW H} {p : List MemPlace} {b0 : Nat} {r : Reach} (hv : Value.okWide Tryd.prog w r b0 22 v) (h : DataW.Trod enc Tryd.prog w base spare held 22 v dd p) :
    ∃ (A : Option Addr) (cap : Nat) (L : List Int), v = .slice A L.length cap ∧ (A = none → cap = 0) ∧ L.length ≤ cap ∧ cap ≤ maxLen ∧ RwB w A L ∧ ByL L := by
  obtain ⟨A, c, L, h1, h2, h3, h4, h5, h6⟩ := open_nums' Tryd.underlying22 Tryd.underlying5 cellsByte hv h
  exact ⟨A, c, L, h1, h2, h3, h4, h5, fun x hx => By8.of_wf (h6 x hx)⟩
set_option maxRecDepth 100000 in
/-- A message's cells, as they read. -/
theorem msg_cells {n : Nat} {cs : List Value} {x : DataW H × List MemPlace} (h : DataW.trod enc Tryd.prog w base spare held n 24 cs = some x) :
    ∃ (m : Ms) (A : Option Addr) (c : Nat), cs = [.int .i64 m.op, .int .i64 m.id, .slice A m.body.length c] ∧ (A = none → c = 0) ∧ m.body.length ≤ c ∧ c ≤ maxLen ∧ RwB w A m.body ∧ ByL m.body ∧ I64 m.op ∧ I64 m.id := by
  obtain ⟨y0, y1, y2, m, _, hl, h0, h1, h2⟩ := trod_struct3 Tryd.underlying24 h
  rw [cellsMs] at hl
  match cs, hl with
  | [v0, v1, v2], _ =>
    obtain ⟨a, e0, _, wa⟩ := DataW.trod_int Tryd.underlying3 h0
    obtain ⟨b, e1, _, wb⟩ := DataW.trod_int Tryd.underlying3 h1
    simp [cellsInt] at e0 e1
    simp [cellsSl8] at h2
    subst e0 e1
    obtain ⟨A, c, L, rfl, q1, q2, q3, q4, q5⟩ := open_numsF Tryd.underlying22 Tryd.underlying5 cellsByte h2
    exact ⟨⟨a, b, L⟩, A, c, rfl, q1, q2, q3, q4, fun x hx => By8.of_wf (q5 x hx), I64.of_wf wa, I64.of_wf wb⟩
set_option maxRecDepth 100000 in
theorem open_msg {v : Value} {dd : DataW H} {p : List MemPlace} {b0 : Nat} {r : Reach} (hv : Value.okWide Tryd.prog w r b0 24 v) (h : DataW.Trod enc Tryd.prog w base spare held 24 v dd p) :
    ∃ (m : Ms) (A : Option Addr) (c : Nat), v = .agg #[.int .i64 m.op, .int .i64 m.id, .slice A m.body.length c] ∧ (A = none → c = 0) ∧ m.body.length ≤ c ∧ c ≤ maxLen ∧ RwB w A m.body ∧ ByL m.body ∧ I64 m.op ∧ I64 m.id := by
  obtain ⟨cs, rfl, hsz⟩ := okWide_struct Tryd.underlying24 hv
  obtain ⟨fuel, hf⟩ := h
  obtain ⟨l⟩ := cs
  simp only [Value.cells] at hf
  obtain ⟨m, A, c, rfl, q⟩ := msg_cells hf
  exact ⟨m, A, c, rfl, q⟩
instance : Inhabited Ms := ⟨⟨0, 0, []⟩⟩
instance : Inhabited (Ms × Value) := ⟨(⟨0, 0, []⟩, .bool false)⟩
set_option maxRecDepth 100000 in
/-- A row of messages that came in. -/
theorem open_msgs {v : Value} {dd : DataW H} {p : List MemPlace} {b0 : Nat} {r : Reach} (hv : Value.okWide Tryd.prog w r b0 35 v) (h : DataW.Trod enc Tryd.prog w base spare held 35 v dd p) :
    ∃ (A : Option Addr) (cap : Nat) (X : List (Ms × Value)), v = .slice A X.length cap ∧ Mv w A X ∧ ∀ p ∈ X, ByL p.1.body ∧ I64 p.1.op ∧ I64 p.1.id := by
  obtain ⟨a0, len0, cap0, rfl⟩ := okWide_slice Tryd.underlying35 hv
  obtain ⟨fuel, hf⟩ := h
  rcases open_slice Tryd.underlying35 hf with ⟨hc, _⟩ | ⟨a, len, cap, m, n, D, Pl, hc, _, hl, hm, hmm, _, hx⟩
  · simp [Value.cells] at hc
    obtain ⟨rfl, rfl, rfl⟩ := hc
    exact ⟨none, 0, [], rfl, ⟨.inl rfl, by intro r hr; simp at hr⟩, by intro r hr; simp at hr⟩
  · simp [Value.cells] at hc
    obtain ⟨rfl, rfl, rfl⟩ := hc
    by_cases hz : len0 = 0
    · subst hz; exact ⟨_, _, [], rfl, ⟨.inl rfl, by intro r hr; simp at hr⟩, by intro r hr; simp at hr⟩
    · have hlm : len0 ≤ m := by rw [hmm]; split <;> omega
      have each : ∀ i, i < m → ∃ q : Ms × Value, (∀ j, j < 3 → w.cell? (a.add (i * 3 + j)) = (c3 q)[j]?) ∧ Sv w q.2 q.1.body ∧ ByL q.1.body ∧ I64 q.1.op ∧ I64 q.1.id := by
        intro i hi
        obtain ⟨cs', h1, h2⟩ := hx i hi
        rw [cellsMs] at h1
        obtain ⟨_, hlen, hcell⟩ := World.cells?_some h1
        obtain ⟨q, A, c, rfl, q1, q2, q3, q4, q5⟩ := msg_cells h2
        refine ⟨(q, .slice A q.body.length c), fun j hj => ?_, ⟨A, c, rfl, q1, q2, q3, q4⟩, q5⟩
        rw [← add_add]
        exact hcell j hj
      obtain ⟨f, hfq⟩ := choose_lt each
      have h0 := (hfq 0 (by omega)).1 0 (by omega)
      obtain ⟨b, off, spot⟩ := a
      cases spot with
      | some t =>
        simp [Addr.add, World.cell?, c3] at h0
        exfalso
        split at h0 <;> cases h0
      | none =>
        have get : ∀ k p, ((List.range len0).map f)[k]? = some p → k < m ∧ p = f k := by
          intro k p hk
          have hkl : k < ((List.range len0).map f).length := by
            rcases Nat.lt_or_ge k ((List.range len0).map f).length with h' | h'
            · exact h'
            · rw [List.getElem?_eq_none h'] at hk; cases hk
          simp at hkl
          simp [hkl] at hk
          exact ⟨by omega, hk.symm⟩
        refine ⟨some ⟨b, off, none⟩, cap0, (List.range len0).map f, by simp, ⟨.inr ⟨b, off, rfl, fun k p hk => ?_⟩, fun p hp => ?_⟩, fun p hp => ?_⟩
        · obtain ⟨hkm, rfl⟩ := get k p hk
          have q := (hfq k hkm).1
          have q0 := q 0 (by omega)
          have q1 := q 1 (by omega)
          have q2 := q 2 (by omega)
          rw [add_lit'] at q0 q1 q2
          simp only [c3, List.getElem?_cons_zero, List.getElem?_cons_succ] at q0 q1 q2
          exact ⟨q0, q1, q2⟩
        · obtain ⟨k, hk⟩ := List.getElem?_of_mem hp
          obtain ⟨hkm, rfl⟩ := get k p hk
          exact (hfq k hkm).2.1
        · obtain ⟨k, hk⟩ := List.getElem?_of_mem hp
          obtain ⟨hkm, rfl⟩ := get k p hk
          exact (hfq k hkm).2.2
end

end Go.Proofs.YthkbenhlhldglaaDoor
