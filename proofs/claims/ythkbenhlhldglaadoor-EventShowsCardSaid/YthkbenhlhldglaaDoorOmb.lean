/-
  What is proved: arguments that are rows of numbers read as lists. No conditions.
-/
import Derived.Test.YthkbenhlhldglaaDoorOba
namespace Go.Proofs.YthkbenhlhldglaaDoor
open Go.ChangeShapes Go.WideShapes Go.ChangeAt Go.RowKit Go.Joins Go.Sort Go.Deep

theorem cellsSl8 : Tryd.prog.cellsOf 22 = 1 := by kernel_rfl
theorem By8.of_wf {n : Int} (h : (Lit.int .u8 n).wf = true) : 0 ≤ n ∧ n ≤ 255 := by
  simp [Lit.wf, IntKind.min, IntKind.max, IntKind.bits, IntKind.signed] at h
  omega
section
variable {H : Type} {enc : TypeId × Value → H} {w : World} {base : Nat} {spare : Nat → Bool} {held : Bool}
set_option maxRecDepth 100000 in
theorem open_numsF {k : IntKind} {t e : TypeId} (ht : Tryd.prog.underlying t = some (.slice e)) (he : Tryd.prog.underlying e = some (.int k)) (hc1 : Tryd.prog.cellsOf e = 1) {fuel : Nat} {v : Value} {y : DataW H × List MemPlace} (hf : DataW.trod enc Tryd.prog w base spare held fuel t [v] = some y) :
    ∃ (A : Option Addr) (cap : Nat) (L : List Int), v = .slice A L.length cap ∧ (A = none → cap = 0) ∧ L.length ≤ cap ∧ cap ≤ maxLen ∧ (L = [] ∨ ∃ b off, A = some ⟨b, off, none⟩ ∧ ∀ i x, L[i]? = some x → w.cell? ⟨b, off + i, none⟩ = some (.int k x)) ∧ ∀ x ∈ L, (Lit.int k x).wf = true := by
  rcases open_slice ht hf with ⟨hc, _⟩ | ⟨a, len0, cap0, m, n, D, Pl, hc, _, hl, hm, hmm, _, hx⟩
  · simp at hc
    subst hc
    exact ⟨none, 0, [], rfl, fun _ => rfl, Nat.zero_le _, Nat.zero_le _, .inl rfl, by intro r hr; simp at hr⟩
  · simp at hc
    subst hc
    by_cases hz : len0 = 0
    · subst hz; exact ⟨_, _, [], rfl, by simp, Nat.zero_le _, hm, .inl rfl, by intro r hr; simp at hr⟩
    · have hlm : len0 ≤ m := by rw [hmm]; split <;> omega
      have each : ∀ i, i < m → ∃ q : Int, w.cell? (a.add i) = some (Value.int k q) ∧ (Lit.int k q).wf = true := by
        intro i hi
        obtain ⟨cs', h1, h2⟩ := hx i hi
        rw [hc1] at h1
        obtain ⟨_, hlen, hcell⟩ := World.cells?_some h1
        obtain ⟨q, e0, _, wq⟩ := DataW.trod_int he h2
        refine ⟨q, ?_, wq⟩
        have := hcell 0 (by omega)
        rw [add_add, e0] at this
        simpa using this
      obtain ⟨f, hfq⟩ := choose_lt each
      have h0 := (hfq 0 (by omega)).1
      obtain ⟨b, off, spot⟩ := a
      cases spot with
      | some t =>
        simp [Addr.add, World.cell?] at h0
        exfalso
        split at h0 <;> cases h0
      | none =>
        refine ⟨some ⟨b, off, none⟩, cap0, (List.range len0).map f, by simp, by simp, by simpa using hl, hm, .inr ⟨b, off, rfl, fun k r hk => ?_⟩, fun r hr => ?_⟩
        · have hkl : k < ((List.range len0).map f).length := by
            rcases Nat.lt_or_ge k ((List.range len0).map f).length with h' | h'
            · exact h'
            · rw [List.getElem?_eq_none h'] at hk; cases hk
          simp at hkl
          simp [hkl] at hk
          subst hk
          have hk' := (hfq k (by omega)).1
          rwa [add_lit'] at hk'
        · rw [List.mem_map] at hr
          obtain ⟨k, hk, rfl⟩ := hr
          rw [List.mem_range] at hk
          exact (hfq k (by omega)).2
set_option maxRecDepth 100000 in
theorem open_nums' {k : IntKind} {t e : TypeId} (ht : Tryd.prog.underlying t = some (.slice e)) (he : Tryd.prog.underlying e = some (.int k)) (hc1 : Tryd.prog.cellsOf e = 1) {v : Value} {dd : DataW H} {p : List MemPlace} {b0 : Nat} {r : Reach} (hv : Value.okWide Tryd.prog w r b0 t v) (h : DataW.Trod enc Tryd.prog w base spare held t v dd p) :
    ∃ (A : Option Addr) (cap : Nat) (L : List Int), v = .slice A L.length cap ∧ (A = none → cap = 0) ∧ L.length ≤ cap ∧ cap ≤ maxLen ∧ (L = [] ∨ ∃ b off, A = some ⟨b, off, none⟩ ∧ ∀ i x, L[i]? = some x → w.cell? ⟨b, off + i, none⟩ = some (.int k x)) ∧ ∀ x ∈ L, (Lit.int k x).wf = true := by
  obtain ⟨a0, len0, cap0, rfl⟩ := okWide_slice ht hv
  obtain ⟨fuel, hf⟩ := h
  exact open_numsF ht he hc1 (by simpa [Value.cells] using hf)
end

end Go.Proofs.YthkbenhlhldglaaDoor
