/-
  What is proved: what 'heights' of package region hands back: all heights of two rows of bands, sorted, each once.
-/
import Derived.Test.YtafceieenhogpaaE
import Derived.Test.YtafceieenhogpaaQ
import Derived.Test.YtafceieenhogpaaSh
import Derived.Lib.OwnBridge
namespace Go.Proofs.Ytafceieenhogpaa
open Go.RowKit Go.Sort

theorem cu_inv (d : Array Int) (hs : ∀ i j, i ≤ j → j < d.size → d[i]! ≤ d[j]!) : ∀ m, m ≤ d.size → Inc (Lib.compactUpTo d m) ∧ (∀ x ∈ Lib.compactUpTo d m, 0 < m ∧ x ≤ d[m - 1]!) ∧ (∀ x, x ∈ Lib.compactUpTo d m ↔ ∃ j, j < m ∧ d[j]! = x)
  | 0, _ => by refine ⟨?_, ?_, ?_⟩ <;> simp [Lib.compactUpTo, Inc]
  | m + 1, hm => by
    obtain ⟨h1, h2, h3⟩ := cu_inv d hs m (by omega)
    rw [Lib.compactUpTo_succ]
    by_cases hk : Lib.keeps d m = true
    · rw [if_pos hk]
      have hlt : ∀ x ∈ Lib.compactUpTo d m, x < d[m]! := by
        intro x hx
        obtain ⟨q1, q2⟩ := h2 x hx
        have q3 := hs (m - 1) m (by omega) (by omega)
        have q4 : d[m]! ≠ d[m - 1]! := by
          simp [Lib.keeps] at hk
          rcases hk with hk | hk
          · omega
          · exact hk
        omega
      refine ⟨List.pairwise_append.2 ⟨h1, by simp, fun x hx y hy => by rw [List.mem_singleton] at hy; subst hy; exact hlt x hx⟩, ?_, ?_⟩
      · intro x hx
        rw [List.mem_append, List.mem_singleton] at hx
        refine ⟨by omega, ?_⟩
        rcases hx with hx | rfl
        · have := hlt x hx; simp; omega
        · simp
      · intro x
        rw [List.mem_append, List.mem_singleton, h3]
        constructor
        · rintro (⟨j, q1, q2⟩ | rfl)
          · exact ⟨j, by omega, q2⟩
          · exact ⟨m, by omega, rfl⟩
        · rintro ⟨j, q1, q2⟩
          by_cases hj : j = m
          · subst hj; exact .inr q2.symm
          · exact .inl ⟨j, by omega, q2⟩
    · rw [if_neg hk, List.append_nil]
      have hk' : 0 < m ∧ d[m]! = d[m - 1]! := by
        simp [Lib.keeps] at hk; exact ⟨by omega, hk.2⟩
      refine ⟨h1, fun x hx => ?_, fun x => ?_⟩
      · obtain ⟨q1, q2⟩ := h2 x hx
        have q3 := hs (m - 1) m (by omega) (by omega)
        simp; omega
      · rw [h3]
        constructor
        · rintro ⟨j, q1, q2⟩; exact ⟨j, by omega, q2⟩
        · rintro ⟨j, q1, q2⟩
          by_cases hj : j = m
          · subst hj; exact ⟨j - 1, by omega, by rw [← hk'.2, q2]⟩
          · exact ⟨j, by omega, q2⟩
def sortI (zs : List Int) : List Int := zs.mergeSort fun x y => decide (x ≤ y)
theorem sortI_mem (zs : List Int) (x : Int) : x ∈ sortI zs ↔ x ∈ zs := List.mem_mergeSort
theorem sortI_len (zs : List Int) : (sortI zs).length = zs.length := List.length_mergeSort _
theorem sortI_le (zs : List Int) : (sortI zs).Pairwise (· ≤ ·) := by
  have := List.pairwise_mergeSort (le := fun (x y : Int) => decide (x ≤ y)) (by intro a b c; simp; omega) (by intro a b; simp; omega) zs
  exact this.imp (by intro a b; simp)
theorem compact_sorted (zs : List Int) : Inc (Lib.compact (sortI zs)) ∧ (∀ x, x ∈ Lib.compact (sortI zs) ↔ x ∈ zs) ∧ (Lib.compact (sortI zs)).length ≤ zs.length := by
  have hp := sortI_le zs
  have hs : ∀ i j, i ≤ j → j < (sortI zs).toArray.size → (sortI zs).toArray[i]! ≤ (sortI zs).toArray[j]! := by
    intro i j hij hj
    simp at hj
    have q1 : (sortI zs).toArray[i]! = (sortI zs)[i] := by simp [getElem!_pos, show i < (sortI zs).length by omega]
    have q2 : (sortI zs).toArray[j]! = (sortI zs)[j] := by simp [getElem!_pos, hj]
    rw [q1, q2]
    rcases Nat.lt_or_ge i j with h | h
    · exact List.pairwise_iff_getElem.1 hp i j (by omega) hj h
    · have : i = j := by omega
      subst this; exact Int.le_refl _
  obtain ⟨h1, _, h3⟩ := cu_inv (sortI zs).toArray hs (sortI zs).length (by simp)
  refine ⟨h1, fun x => ?_, ?_⟩
  · show x ∈ Lib.compactUpTo _ _ ↔ _
    rw [h3, ← sortI_mem zs x, List.mem_iff_getElem]
    constructor
    · rintro ⟨j, q1, q2⟩
      exact ⟨j, q1, by rw [← q2]; simp [getElem!_pos, q1]⟩
    · rintro ⟨j, q1, q2⟩
      exact ⟨j, q1, by rw [← q2]; simp [getElem!_pos, q1]⟩
  · have := Lib.compact_length_le (sortI zs)
    rw [sortI_len] at this; exact this

/-- Sort, and Compact, of a row of ints that the call owns. -/
theorem sort1 (A : Option Addr) (c : Nat) (E : List Int) (w : World) (B : Nat) (h : OwI w B A c E) (hl : E.length ≤ 100000000) (hB : B ≤ w.heap.size) :
    Calls Try.prog 122 #[.slice A E.length c] w fun e w' => e = .returned (.tuple #[]) ∧ OwI w' B A c (sortI E) ∧ Below B w w' := by
  by_cases h0 : E.length = 0
  · have : E = [] := List.eq_nil_of_length_eq_zero h0
    subst this
    refine (sh_Sort_none A c w).mono ?_
    rintro e w' ⟨rfl, rfl⟩
    exact ⟨rfl, by rw [show sortI [] = [] from by simp [sortI]]; exact h, Below.refl _ _⟩
  · obtain ⟨g, cap, h1, h2, h3, h4, h5, h6, h7⟩ := Lib.holds_of_ownsRow (enc := Value.int .i64) (zs := E) h (by intro h; injection h with h h'; omega)
    injection h1 with h1 h1' h1''
    subst h1 h1''
    refine (sh_Sort g 0 c E w h7 h3 (by omega)).mono ?_
    rintro e w' ⟨rfl, n, os, rfl⟩
    have q := Lib.ownsRow_putRow (enc := Value.int .i64) (q := n) (k := E.length) (ys := sortI E) h (sortI_len E) (Nat.le_refl _)
    have q1 : OwI (putRow (Value.int .i64) (Sort.ahead w n) g 0 (sortI E).toArray) B (some ⟨g, 0, none⟩) c (sortI E) := by
      unfold OwI
      rw [sortI_len]
      rw [List.take_of_length_le (by rw [sortI_len]; exact Nat.le_refl _)] at q
      exact q
    exact ⟨rfl, q1.bl ((Bl.refl _).grow os), Below.trans (Lib.below_putRow (Below.refl _ _) h2) (Below.mono ((Bl.refl _).grow os) (by simp [putRow, mapBlock, Sort.ahead]; omega))⟩
theorem compact1 (A : Option Addr) (c : Nat) (E : List Int) (w : World) (B : Nat) (h : OwI w B A c E) (hl : E.length ≤ 100000000) (hB : B ≤ w.heap.size) :
    Calls Try.prog 123 #[.slice A E.length c] w fun e w' => e = .returned (.slice A (Lib.compact E).length c) ∧ OwI w' B A c (Lib.compact E) ∧ Below B w w' := by
  by_cases h0 : E.length = 0
  · have : E = [] := List.eq_nil_of_length_eq_zero h0
    subst this
    refine (sh_Compact_empty A c w).mono ?_
    rintro e w' ⟨rfl, rfl⟩
    exact ⟨rfl, h, Below.refl _ _⟩
  · obtain ⟨g, cap, h1, h2, h3, h4, h5, h6, h7⟩ := Lib.holds_of_ownsRow (enc := Value.int .i64) (zs := E) h (by intro h; injection h with h h'; omega)
    injection h1 with h1 h1' h1''
    subst h1 h1''
    have hcl := Lib.compact_length_le E
    refine (sh_Compact g 0 c E w h7 (by omega) h4).mono ?_
    rintro e w' ⟨rfl, n, rfl⟩
    refine ⟨rfl, ?_, Lib.below_putRow (Below.refl _ _) h2⟩
    have q := Lib.ownsRow_putRow (enc := Value.int .i64) (q := n) (k := (Lib.compact E).length) (ys := Lib.compact E ++ List.replicate (E.length - (Lib.compact E).length) 0) h (by simp; omega) hcl
    rw [List.take_left] at q
    unfold OwI
    exact q

end Go.Proofs.Ytafceieenhogpaa
