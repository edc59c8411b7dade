/-
  What is proved: a row of structs that came in reads as a list. No conditions.
-/
import Derived.Test.YtgjoipndhlngnaaGw
namespace Go.Proofs.Ytgjoipndhlngnaa
open Go.ChangeShapes Go.WideShapes Go.ChangeAt Go.RowKit Go.Joins Go.Sort Go.Deep

section
variable {H : Type} {enc : TypeId × Value → H} {w : World} {base : Nat} {spare : Nat → Bool} {held : Bool}
set_option maxRecDepth 100000 in
/-- A row that came in, of elements of whatever shape: each of them opens ('each'). -/
theorem open_rows {α : Type} [Inhabited α] (S : Shp α) (Good : α → Prop) {t T : TypeId} (ht : Try.prog.underlying t = some (.slice T)) (hc : Try.prog.cellsOf T = S.n)
    (each0 : ∀ {n : Nat} {cs : List Value} {x : DataW H × List MemPlace}, DataW.trod enc Try.prog w base spare held n T cs = some x → ∃ q : α, cs = S.c q ∧ Good q)
    {v : Value} {dd : DataW H} {p : List MemPlace} {b0 : Nat} {r : Reach} (hv : Value.okWide Try.prog w r b0 t v) (h : DataW.Trod enc Try.prog w base spare held t v dd p) :
    ∃ (A : Option Addr) (cap : Nat) (L : List α), v = .slice A L.length cap ∧ (A = none → cap = 0) ∧ L.length ≤ cap ∧ cap ≤ maxLen ∧ S.Rd w A L ∧ ∀ e ∈ L, Good e := by
  obtain ⟨a0, len0, cap0, rfl⟩ := okWide_slice ht hv
  obtain ⟨fuel, hf⟩ := h
  rcases open_slice ht hf with ⟨hc, _⟩ | ⟨a, len, cap, m, n, D, Pl, hcs, _, hl, hm, hmm, _, hx⟩
  · simp [Value.cells] at hc
    obtain ⟨rfl, rfl, rfl⟩ := hc
    exact ⟨none, 0, [], rfl, fun _ => rfl, Nat.zero_le _, Nat.zero_le _, .inl rfl, by intro r hr; simp at hr⟩
  · simp [Value.cells] at hcs
    obtain ⟨rfl, rfl, rfl⟩ := hcs
    by_cases hz : len0 = 0
    · subst hz; exact ⟨_, _, [], rfl, by simp, Nat.zero_le _, hm, .inl rfl, by intro r hr; simp at hr⟩
    · have hlm : len0 ≤ m := by rw [hmm]; split <;> omega
      have each : ∀ i, i < m → ∃ q : α, (∀ j, j < S.n → w.cell? (a.add (i * S.n + j)) = (S.c q)[j]?) ∧ Good q := by
        intro i hi
        obtain ⟨cs', h1, h2⟩ := hx i hi
        rw [hc] at h1
        obtain ⟨_, hlen, hcell⟩ := World.cells?_some h1
        obtain ⟨q, rfl, hq⟩ := each0 h2
        refine ⟨q, fun j hj => ?_, hq⟩
        rw [← add_add]
        exact hcell j hj
      obtain ⟨f, hfq⟩ := choose_lt each
      have h0 := (hfq 0 (by omega)).1 0 S.pos
      obtain ⟨u, hu⟩ := list_at (l := S.c (f 0)) (k := 0) (by rw [S.len]; exact S.pos)
      obtain ⟨b, off, spot⟩ := a
      cases spot with
      | some t =>
        rw [hu] at h0
        simp [Addr.add, World.cell?] at h0
        exfalso
        split at h0 <;> cases h0
      | none =>
        have get : ∀ k p, ((List.range len0).map f)[k]? = some p → k < m ∧ p = f k := by
          intro k p hk
          have hkl : k < ((List.range len0).map f).length := by
            rcases Nat.lt_or_ge k ((List.range len0).map f).length with h' | h'
            · exact h'
            · rw [List.getElem?_eq_none h'] at hk; cases hk
          simp at hkl
          simp [hkl] at hk
          exact ⟨by omega, hk.symm⟩
        refine ⟨some ⟨b, off, none⟩, cap0, (List.range len0).map f, by simp, by simp, by simpa using hl, hm, .inr ⟨b, off, rfl, fun k p hk j u hj => ?_⟩, fun p hp => ?_⟩
        · obtain ⟨hkm, rfl⟩ := get k p hk
          have hj4 : j < S.n := by
            rcases Nat.lt_or_ge j S.n with h' | h'
            · exact h'
            · rw [List.getElem?_eq_none (by rw [S.len]; exact h')] at hj; cases hj
          have q := (hfq k hkm).1 j hj4
          rw [add_lit', hj] at q
          rw [Nat.add_assoc]; exact q
        · obtain ⟨k, hk⟩ := List.getElem?_of_mem hp
          obtain ⟨hkm, rfl⟩ := get k p hk
          exact (hfq k hkm).2
end

end Go.Proofs.Ytgjoipndhlngnaa
