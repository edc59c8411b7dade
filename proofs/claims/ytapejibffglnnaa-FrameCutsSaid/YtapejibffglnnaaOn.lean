/-
  What is proved: words for the loops of the laws: the bytes of the first messages of a row; a byte of a row that is turned. No program.
-/
import Derived.Test.YtapejibffglnnaaOm
import Derived.Test.YtapejibffglnnaaOc
import Derived.Test.YtapejibffglnnaaOg
namespace Go.Proofs.Ytapejibffglnnaa
open Go.RowKit Go.Sort

/-- The messages of a row, made such as may be. -/
def gl (q : Nat) (X : List (Ms × Value)) : List Ms := X.map fun p => goodM p.1 q
theorem gl_snoc {q : Nat} {X : List (Ms × Value)} {k : Nat} {p : Ms × Value} (h : X[k]? = some p) : gl q (X.take (k + 1)) = gl q (X.take k) ++ [goodM p.1 q] := by
  unfold gl; rw [List.take_add_one, h, List.map_append]; rfl
theorem encs_snoc (l : List Ms) (m : Ms) : encs (l ++ [m]) = encs l ++ encM m := by
  rw [encs_app]; show encs l ++ (encM m ++ encs []) = _; simp [encs]
theorem gl_len (q : Nat) : ∀ X : List (Ms × Value), (encs (gl q X)).length ≤ (7 + q) * X.length
  | [] => by simp [gl, encs]
  | p :: X => by
    have h1 := gl_len q X
    have h2 := encM_len (goodM p.1 q)
    have h3 := goodM_len p.1 q
    show (encM (goodM p.1 q) ++ encs (gl q X)).length ≤ _
    rw [List.length_append, List.length_cons, Nat.mul_add]
    omega
theorem gl_by {q : Nat} (hq : q ≤ 4096) : ∀ X : List (Ms × Value), (∀ p ∈ X, ByL p.1.body) → ByL (encs (gl q X))
  | [], _ => ByL.nil
  | p :: X, h => (encM_by (goodM_ok p.1 hq) ((h p (by simp)).take q)).app (gl_by hq X (fun r hr => h r (by simp [hr])))
theorem gl_ok {q : Nat} (hq : q ≤ 4096) (X : List (Ms × Value)) : ∀ m ∈ gl q X, okM m := fun m hm => by
  unfold gl at hm
  rw [List.mem_map] at hm
  obtain ⟨p, _, rfl⟩ := hm
  exact goodM_ok p.1 hq
theorem RwB.good {w : World} {A : Option Addr} {L : List Int} (h : RwB w A L) (n : Nat) : RwB w A (L.take n) := by
  rcases h with h | ⟨b, off, h, hr⟩
  · exact .inl (by simp [h])
  · exact .inr ⟨b, off, h, hr.take n⟩
/-- A byte of a row that the call owns is turned. -/
theorem OwB.set {w : World} {B g c : Nat} {L : List Int} (h : OwB w B (some ⟨g, 0, none⟩) c L) (i : Nat) (_ : i < L.length) (x : Int) : OwB (w.setCell ⟨g, i, none⟩ (.int .u8 x)) B (some ⟨g, 0, none⟩) c (L.set i x) := by
  obtain ⟨h1, h2⟩ := h
  rcases h2 with ⟨h2, _⟩ | ⟨g', cap, cur, h2, h3, h4, h5, h6, h7, h8⟩
  · cases h2
  · injection h2 with e1 e2 e3
    injection e1 with e1
    injection e1 with e1
    subst e1
    have hb : At w g cur 5 := h4
    have hp := hb.put i (.int .u8 x)
    refine ⟨by simp [cB_len], .inr ⟨g, cap, cur.setIfInBounds i (.int .u8 x), by rw [List.length_set, e3], h3, hp, by rw [List.length_set]; exact h5, h6, by simpa using h7, ?_⟩⟩
    rw [List.length_set]
    rw [Array.toList_setIfInBounds, List.take_set, h8]
    unfold cB
    rw [List.map_set]
theorem OwB.cell {w : World} {B g c : Nat} {L : List Int} (h : OwB w B (some ⟨g, 0, none⟩) c L) (i : Nat) (hi : i < L.length) : (∃ u, w.cell? ⟨g, i, none⟩ = some u) ∧ w.frozen? ⟨g, i, none⟩ = false := by
  obtain ⟨h1, h2⟩ := h
  rcases h2 with ⟨h2, _⟩ | ⟨g', cap, cur, h2, h3, h4, h5, h6, h7, h8⟩
  · cases h2
  · injection h2 with e1 e2 e3
    injection e1 with e1
    injection e1 with e1
    subst e1
    have hb : At w g cur 5 := h4
    have hlt : i < cur.size := by rw [h7]; omega
    exact ⟨⟨cur[i], by rw [hb.cell]; simp [hlt]⟩, hb.free i⟩
theorem ByL.set {L : List Int} (h : ByL L) (i : Nat) {x : Int} (hx : 0 ≤ x ∧ x ≤ 255) : ByL (L.set i x) := fun y hy => by
  rcases List.mem_or_eq_of_mem_set hy with h' | h'
  · exact h y h'
  · rw [h']; exact hx

end Go.Proofs.Ytapejibffglnnaa
