/-
  What is proved: rows of elements of one shape: 'copy' and 'clear' on them, and what a block holds behind a run of stores. No conditions but bounds.
-/
import Derived.Test.YtgjoipndhlngnaaKx
import Derived.Test.YtgjoipndhlngnaaGs
import Derived.Lib.AppendZerosOnto
import Derived.Lib.Overlaps
import Derived.Lib.SliceRun
import Derived.Laws.Externs
import Derived.Laws.IdiomCopy
import Derived.Deep.RegionLaw
namespace Go.Proofs.Ytgjoipndhlngnaa
open Go.ChangeShapes Go.WideShapes Go.ChangeAt Go.RowKit Go.Joins Go.Sort Go.Deep Go.Shelf

theorem setsL_mid : ∀ (us O P Q : List Value), O.length = us.length → setsL (P ++ O ++ Q) P.length us = P ++ us ++ Q
  | [], O, P, Q, h => by
    obtain rfl : O = [] := List.eq_nil_of_length_eq_zero h
    rfl
  | u :: us, [], P, Q, h => by simp at h
  | u :: us, o :: O, P, Q, h => by
    have e : (P ++ o :: O ++ Q).set P.length u = (P ++ [u]) ++ O ++ Q := by simp
    show setsL ((P ++ o :: O ++ Q).set P.length u) (P.length + 1) us = _
    rw [e]
    have := setsL_mid us O (P ++ [u]) Q (by simpa using h)
    rw [List.length_append, List.length_singleton] at this
    rw [this]; simp
theorem At.puts {b : Nat} {t : TypeId} : ∀ (us : List Value) {w : World} {xs : List Value} (i : Nat), At w b xs.toArray t → At (w.setCells b i us) b (setsL xs i us).toArray t
  | [], _, _, _, h => h
  | u :: us, w, xs, i, h => by
    have h1 := h.put i u
    rw [List.setIfInBounds_toArray] at h1
    exact At.puts us (i + 1) h1
theorem run_copy_S {P : Program} (w : World) (dT sT ty elem : TypeId) (s : Nat) (b o dLen dCap : Nat) (a : Addr) (sLen sCap : Nat) (cs : List Value) (n : Nat)
    (hu : P.underlying dT = some (.slice elem)) (hs : (P.info? elem).map (·.size) = some s) (hm : n = Nat.min sLen dLen) (hn : cs.length = n * s)
    (hsrc : ∀ j v, cs[j]? = some v → w.cell? (a.add j) = some v) (hc : ∀ j, j < cs.length → (w.cell? ⟨b, o + j, none⟩).isSome = true) (hf : ∀ j, j < cs.length → w.frozen? ⟨b, o + j, none⟩ = false) (h1 : ∀ v ∈ cs, v.oneCell' = true) :
    (Builtin.copy_ #[dT, sT] ty #[.slice (some ⟨b, o, none⟩) dLen dCap, .slice (some a) sLen sCap]).run P w = .ok (goInt n) (w.setCells b o cs) := by
  have hst := run_storeCells_cells (P := P) b o cs 0 w (by simpa using hc) (by simpa using hf) h1
  have hfc := run_firstCells_some (P := P) w s n a sLen sCap cs hn hsrc
  cases hq : P.info? elem with
  | none => simp [hq] at hs
  | some i =>
    have hi : i.size = s := by simpa [hq] using hs
    simp [Builtin.copy_, run_underlying hu, Builtin.lenOf, sizeOf, typeInfo, hq, hi, ← hm, hfc, hst]
theorem run_clear_1 {P : Program} (w : World) (t e ty : TypeId) (z : Value) (ht : P.underlying t = some (.slice e)) (hv : ∀ w, (zeroValue e).run P w = .ok z w) (h1 : ∀ v ∈ z.cells.toList, v.oneCell' = true) (b o c : Nat)
    (hc : ∀ j, j < z.cells.toList.length → (w.cell? ⟨b, o + j, none⟩).isSome = true) (hf : ∀ j, j < z.cells.toList.length → w.frozen? ⟨b, o + j, none⟩ = false) :
    (Builtin.clear_ #[t] ty #[.slice (some ⟨b, o, none⟩) 1 c]).run P w = .ok (.tuple #[]) (w.setCells b o z.cells.toList) := by
  have hzc : (Builtin.zeroCells z.cells 1).toList = z.cells.toList := by
    simp [Builtin.zeroCells]
    apply List.ext_getElem
    · simp
    · intro i h1 h2
      have h3 : i < z.cells.size := by simpa using h2
      simp [Nat.mod_eq_of_lt h3, getElem!_pos z.cells i h3]
  have hst := run_storeCells_cells (P := P) b o z.cells.toList 0 w (by simpa using hc) (by simpa using hf) h1
  simp only [Nat.add_zero] at hst
  simp [Builtin.clear_, run_underlying ht, hv, hzc, hst]
/-- A row that a call owns, as a block: its elements, then what is spare. -/
theorem Shp.Ow.block {α : Type} {S : Shp α} {T : TypeId} {w : World} {B c g : Nat} {l : List α} (h : S.Ow T w B (some ⟨g, 0, none⟩) c l) :
    ∃ sp : List Value, At w g (S.cs l ++ sp).toArray T ∧ B ≤ g ∧ l.length ≤ c ∧ c ≤ maxLen ∧ sp.length = (c - l.length) * S.n := by
  rcases h.2 with ⟨h1, _⟩ | ⟨g', cap, cur, h1, h2, h3, h4, h5, h6, h7⟩
  · injection h1 with h1; cases h1
  · injection h1 with h1 _ h1'
    injection h1 with h1
    injection h1 with h1
    subst h1 h1'
    have hl : cur.toList.length = c * S.n := by simpa using h6
    refine ⟨cur.toList.drop (l.length * S.n), ?_, h2, h4, h5, ?_⟩
    · unfold At
      rw [h3, ← h7, List.take_append_drop]
    · rw [List.length_drop, hl, Nat.sub_mul]
theorem Shp.Ow.of {α : Type} {S : Shp α} {T : TypeId} {w : World} {B c g : Nat} {l : List α} {sp : List Value} (h : At w g (S.cs l ++ sp).toArray T) (hB : B ≤ g) (h5 : c ≤ maxLen) (hs : (S.cs l ++ sp).length = c * S.n) : S.Ow T w B (some ⟨g, 0, none⟩) c l := by
  have hl := S.cs_len l
  refine ⟨hl, .inr ⟨g, c, _, rfl, hB, h, ?_, h5, by simpa using hs, ?_⟩⟩
  · have hp := S.pos
    have h8 : l.length * S.n ≤ c * S.n := by rw [← hs, List.length_append, hl]; omega
    exact Nat.le_of_mul_le_mul_right h8 hp
  · rw [← hl]; simp

end Go.Proofs.Ytgjoipndhlngnaa
