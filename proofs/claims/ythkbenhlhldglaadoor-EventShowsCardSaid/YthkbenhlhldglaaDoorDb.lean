/-
  What is proved: plain mathematics of events' texts: decimals and blanks; two events that may be have the same text just if they are the same. No program.
-/
import Derived.Test.YthkbenhlhldglaaDoorDa
import Derived.Lib.ItoaNum
namespace Go.Proofs.YthkbenhlhldglaaDoor
open Go.Lib

/-- The number of a decimal's digits. -/
def dval (l : List UInt8) : Nat := l.foldl (fun n c => n * 10 + (c.toNat - 48)) 0
theorem dval_snoc (l : List UInt8) (c : UInt8) : dval (l ++ [c]) = dval l * 10 + (c.toNat - 48) := by unfold dval; rw [List.foldl_append]; rfl
theorem digit_nat {d : Nat} (h : d < 10) : (UInt8.ofNat (48 + d)).toNat = 48 + d := by
  rw [UInt8.toNat_ofNat']; omega
theorem dval_dec (u : Nat) : dval (decDigits u) = u := by
  induction u using Nat.strongRecOn with
  | _ u ih =>
    rw [decDigits]
    split
    · rename_i h
      show 0 * 10 + ((UInt8.ofNat (48 + u)).toNat - 48) = u
      rw [digit_nat h]; omega
    · rename_i h
      rw [dval_snoc, ih (u / 10) (by omega), digit_nat (by omega)]; omega
theorem dec_dig (u : Nat) : ∀ c ∈ decDigits u, 48 ≤ c.toNat ∧ c.toNat ≤ 57 := by
  induction u using Nat.strongRecOn with
  | _ u ih =>
    rw [decDigits]
    split
    · rename_i h
      intro c hc
      have hc' := List.mem_singleton.1 hc
      subst hc'
      rw [digit_nat h]; omega
    · rename_i h
      intro c hc
      rcases List.mem_append.1 hc with hc | hc
      · exact ih _ (by omega) c hc
      · have hc' := List.mem_singleton.1 hc
        subst hc'
        rw [digit_nat (by omega)]; omega
theorem dec_ne (u : Nat) : decDigits u ≠ [] := by
  rw [decDigits]
  split
  · simp
  · simp
theorem dec_inj {u v : Nat} (h : decDigits u = decDigits v) : u = v := by rw [← dval_dec u, h, dval_dec]
theorem dec_minus (u : Nat) (l : List UInt8) : decDigits u ≠ 45 :: l := fun h => by
  have := dec_dig u 45 (by rw [h]; simp)
  have e : (45 : UInt8).toNat = 45 := rfl
  omega
theorem itoa_inj {n m : Int} (h : itoa n = itoa m) : n = m := by
  unfold itoa at h
  split at h
  · split at h
    · have := dec_inj (List.cons.inj h).2
      omega
    · exact absurd h.symm (dec_minus _ _)
  · split at h
    · exact absurd h (dec_minus _ _)
    · have := dec_inj h
      omega
theorem itoa_blank (n : Int) : ∀ c ∈ itoa n, c ≠ 32 := by
  have key : ∀ u, ∀ c ∈ decDigits u, c ≠ 32 := fun u c hc e => by
    have := dec_dig u c hc
    subst e
    have e : (32 : UInt8).toNat = 32 := rfl
    omega
  intro c hc
  unfold itoa at hc
  split at hc
  · rcases List.mem_cons.1 hc with rfl | hc
    · decide
    · exact key _ c hc
  · exact key _ c hc

/-- Words with a blank behind, or nothing. -/
def hd32 (t : List UInt8) : Prop := t = [] ∨ ∃ s, t = 32 :: s
theorem cut32 : ∀ (x y t s : List UInt8), (∀ c ∈ x, c ≠ 32) → (∀ c ∈ y, c ≠ 32) → hd32 t → hd32 s → x ++ t = y ++ s → x = y ∧ t = s
  | [], [], t, s, _, _, _, _, h => ⟨rfl, h⟩
  | [], c :: y, t, s, _, hy, ht, _, h => by
    rcases ht with rfl | ⟨t', rfl⟩
    · simp at h
    · have := (List.cons.inj h).1
      exact absurd this.symm (hy c (by simp))
  | c :: x, [], t, s, hx, _, _, hs, h => by
    rcases hs with rfl | ⟨s', rfl⟩
    · simp at h
    · have := (List.cons.inj h).1
      exact absurd this (hx c (by simp))
  | c :: x, d :: y, t, s, hx, hy, ht, hs, h => by
    obtain ⟨h1, h2⟩ := List.cons.inj h
    obtain ⟨h3, h4⟩ := cut32 x y t s (fun c' hc => hx c' (by simp [hc])) (fun c' hc => hy c' (by simp [hc])) ht hs h2
    exact ⟨by rw [h1, h3], h4⟩
/-- Numbers, a blank ahead of each. -/
def wordsT : List Int → List UInt8
  | [] => []
  | n :: l => 32 :: (itoa n ++ wordsT l)
theorem wordsT_hd (l : List Int) : hd32 (wordsT l) := by
  cases l with
  | nil => exact .inl rfl
  | cons n l => exact .inr ⟨_, rfl⟩
theorem wordsT_inj : ∀ l m : List Int, wordsT l = wordsT m → l = m
  | [], [], _ => rfl
  | [], n :: l, h => by simp [wordsT] at h
  | n :: l, [], h => by simp [wordsT] at h
  | n :: l, m :: k, h => by
    have h' := (List.cons.inj (show 32 :: (itoa n ++ wordsT l) = 32 :: (itoa m ++ wordsT k) from h)).2
    obtain ⟨h1, h2⟩ := cut32 _ _ _ _ (itoa_blank n) (itoa_blank m) (wordsT_hd l) (wordsT_hd k) h'
    rw [itoa_inj h1, wordsT_inj l k h2]
theorem wordsT_app : ∀ l m : List Int, wordsT (l ++ m) = wordsT l ++ wordsT m
  | [], m => rfl
  | n :: l, m => by
    show 32 :: (itoa n ++ wordsT (l ++ m)) = (32 :: (itoa n ++ wordsT l)) ++ wordsT m
    rw [wordsT_app l m]; simp
/-- The numbers of an event that are shown. -/
def numsE (e : Ev) : List Int := ([e.a, e.b] : List Int).take (efL e.k.toNat).length
def showE (e : Ev) : List UInt8 := if 0 ≤ e.k ∧ e.k ≤ 5 then enL e.k.toNat ++ wordsT (e.id :: numsE e) else []
theorem enL_blank {n : Nat} (h : n < 6) : ∀ c ∈ enL n, c ≠ 32 := by
  have : ∀ m : Fin 6, ∀ c ∈ enL m.1, c ≠ 32 := by decide
  exact this ⟨n, h⟩
theorem enL_inj {n m : Nat} (h : n < 6) (h' : m < 6) (e : enL n = enL m) : n = m := by
  have : ∀ a b : Fin 6, enL a.1 = enL b.1 → a.1 = b.1 := by decide
  exact this ⟨n, h⟩ ⟨m, h'⟩ e
theorem showE_inj {x y : Ev} (hx : okE x) (hy : okE y) (h : showE x = showE y) : x = y := by
  have kx := hx.k
  have ky := hy.k
  unfold showE at h
  rw [if_pos kx, if_pos ky] at h
  obtain ⟨h1, h2⟩ := cut32 _ _ _ _ (enL_blank (kE_lt kx)) (enL_blank (kE_lt ky)) (wordsT_hd _) (wordsT_hd _) h
  have hk := enL_inj (kE_lt kx) (kE_lt ky) h1
  have hl := wordsT_inj _ _ h2
  obtain ⟨k, id, a, b⟩ := x
  obtain ⟨k', id', a', b'⟩ := y
  dsimp only at *
  obtain rfl : k = k' := by omega
  unfold numsE at hl
  dsimp only at hl
  obtain ⟨rfl, hl2⟩ := List.cons.inj hl
  clear hl
  obtain ⟨_, hx⟩ := hx
  obtain ⟨_, hy⟩ := hy
  unfold argE at hx hy
  dsimp only at hx hy
  have h6 : k = 0 ∨ k = 1 ∨ k = 2 ∨ k = 3 ∨ k = 4 ∨ k = 5 := by omega
  rcases h6 with rfl | rfl | rfl | rfl | rfl | rfl
  · have : [a, b] = [a', b'] := hl2
    simp at this; rw [this.1, this.2]
  · have : [a] = [a'] := hl2
    simp at this
    have e1 : b = 0 := by omega
    have e2 : b' = 0 := by omega
    rw [this, e1, e2]
  · have e1 : a = 0 ∧ b = 0 := by omega
    have e2 : a' = 0 ∧ b' = 0 := by omega
    rw [e1.1, e1.2, e2.1, e2.2]
  · have : [a, b] = [a', b'] := hl2
    simp at this; rw [this.1, this.2]
  · have : [a, b] = [a', b'] := hl2
    simp at this; rw [this.1, this.2]
  · have e1 : a = 0 ∧ b = 0 := by omega
    have e2 : a' = 0 ∧ b' = 0 := by omega
    rw [e1.1, e1.2, e2.1, e2.2]
theorem dec_len (u : Nat) : ∀ k, u < 10 ^ (k + 1) → (decDigits u).length ≤ k + 1 := by
  induction u using Nat.strongRecOn with
  | _ u ih =>
    intro k hk
    rw [decDigits]
    split
    · simp
    · rename_i h
      cases k with
      | zero => omega
      | succ k =>
        rw [List.length_append]
        have := ih (u / 10) (by omega) k (by rw [Nat.pow_succ] at hk; omega)
        simp; omega
theorem itoa_len {n : Int} (h0 : -9223372036854775808 ≤ n) (h1 : n ≤ 9223372036854775807) : (itoa n).length ≤ 21 := by
  unfold itoa
  split
  · have := dec_len n.natAbs 18 (by omega)
    simp; omega
  · have := dec_len n.toNat 18 (by omega)
    omega
/-- How a decimal grows, digit by digit. -/
theorem itoa_small {n : Int} (h : -10 < n) (h' : n < 10) : itoa n = if n < 0 then [45, UInt8.ofNat (48 + n.natAbs)] else [UInt8.ofNat (48 + n.natAbs)] := by
  unfold itoa
  split
  · rw [decDigits, dif_pos (by omega)]
  · rw [decDigits, dif_pos (by omega), show n.toNat = n.natAbs by omega]
theorem itoa_big {n : Int} (h : ¬ (-10 < n ∧ n < 10)) : itoa n = itoa (n.tdiv 10) ++ [UInt8.ofNat (48 + (n.tmod 10).natAbs)] := by
  have key : (n.tdiv 10).natAbs = n.natAbs / 10 ∧ (n.tmod 10).natAbs = n.natAbs % 10 := ⟨Int.natAbs_tdiv n 10, Int.natAbs_tmod n 10⟩
  have hneg : n < 0 → n.tdiv 10 < 0 := fun hn => by
    have : n.tdiv 10 = -(((-n).tdiv 10)) := by rw [Int.neg_tdiv]; omega
    have h3 : (-n).tdiv 10 = (-n) / 10 := Int.tdiv_eq_ediv_of_nonneg (by omega)
    omega
  have hpos : ¬ n < 0 → ¬ n.tdiv 10 < 0 := fun hn => by
    have h3 : n.tdiv 10 = n / 10 := Int.tdiv_eq_ediv_of_nonneg (by omega)
    omega
  unfold itoa
  by_cases hn : n < 0
  · rw [if_pos hn, if_pos (hneg hn), key.1, key.2, decDigits, dif_neg (by omega)]; rfl
  · have e := hpos hn
    rw [if_neg hn, if_neg e]
    rw [decDigits, dif_neg (by omega), key.2, show (n.tdiv 10).toNat = n.natAbs / 10 by omega, show n.toNat = n.natAbs by omega]

end Go.Proofs.YthkbenhlhldglaaDoor
