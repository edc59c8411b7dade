/-
  What is proved: what bytes.Clone hands back of bytes. No conditions but a bound.
-/
import Derived.Test.YtaebbkfbapajkaaDoorOba
import Derived.Test.YtaebbkfbapajkaaDoorShc
namespace Go.Proofs.YtaebbkfbapajkaaDoor
open Go.RowKit Go.Sort

theorem clone1 (A : Option Addr) (c : Nat) (L : List Int) (w : World) (hA : RwB w A L) (hl : L.length ≤ 1000000) :
    Calls Tryd.prog 38 #[.slice A L.length c] w fun e w' => ∃ A' c', e = .returned (.slice A' L.length c') ∧ Sv w' (.slice A' L.length c') L ∧ (L = [] ∨ ∃ k, A'.map (·.block) = some k ∧ w.heap.size ≤ k) ∧ Bl w w' := by
  cases A with
  | none =>
    have hL : L = [] := by
      rcases hA with h | ⟨b, off, h, _⟩
      · exact h
      · cases h
    subst hL
    refine (sh_bytes_Clone_nil _ c w).mono ?_
    rintro e w' ⟨rfl, rfl⟩
    exact ⟨none, 0, rfl, Sv.nil _, .inl rfl, Bl.refl _⟩
  | some a =>
    refine (sh_bytes_Clone_at a L.length c L w rfl (by omega) (fun i hi => ?_)).mono ?_
    · rcases hA with h | ⟨b, off, h, hr⟩
      · subst h; simp at hi
      · cases h
        obtain ⟨x, hx⟩ := list_at hi
        rw [add_lit', hr i x hx, List.getD_eq_getElem?_getD, hx]; rfl
    · rintro e w' ⟨v, rfl, own, _, hb⟩
      have own' := own
      rcases own.2 with ⟨rfl, h0⟩ | ⟨g, cap, cur, rfl, hg, _⟩
      · have hL : L = [] := List.eq_nil_of_length_eq_zero h0
        subst hL
        exact ⟨none, 0, rfl, Sv.nil _, .inl rfl, hb⟩
      · exact ⟨some ⟨g, 0, none⟩, cap, rfl, OwB.sv (B := w.heap.size) own', .inr ⟨g, rfl, hg⟩, hb⟩

end Go.Proofs.YtaebbkfbapajkaaDoor
