/-
  What is proved: plain mathematics of rows: what is filled row by row is what is filled point by point, and how many points that are.
-/
import Derived.Test.YtackojmckloacaaIq
import Derived.Test.YtackojmckloacaaIv
namespace Go.Proofs.Ytackojmckloacaa
open Go.RowKit Go.Sort

/-- What a rectangle has of an image's box. -/
theorem cut_nat (a b c d : Int) (W H : Nat) : ∃ x0 y0 x1 y1 : Nat, cutR a b c d 0 0 W H = ⟨x0, y0, x1, y1⟩ ∧ x0 ≤ x1 ∧ (y0 < y1 → x0 < x1) ∧ x1 ≤ W ∧ y0 ≤ y1 ∧ y1 ≤ H ∧
    ∀ i j : Nat, i < W → j < H → hasB a b c d i j = decide (x0 ≤ i ∧ i < x1 ∧ y0 ≤ j ∧ j < y1) := by
  by_cases e : emptyB (max a 0) (max b 0) (min c W) (min d H) = true
  · refine ⟨0, 0, 0, 0, by unfold cutR; rw [if_pos e]; rfl, by omega, by omega, by omega, by omega, by omega, fun i j hi hj => ?_⟩
    simp [emptyB] at e
    rw [hasB, Bool.eq_iff_iff]
    simp
    omega
  · have e' := e
    simp [emptyB] at e'
    refine ⟨(max a 0).toNat, (max b 0).toNat, (min c W).toNat, (min d H).toNat, ?_, by omega, by omega, by omega, by omega, by omega, fun i j hi hj => ?_⟩
    · unfold cutR; rw [if_neg e]
      rw [show (((max a 0).toNat : Nat) : Int) = max a 0 by omega, show (((max b 0).toNat : Nat) : Int) = max b 0 by omega, show (((min c W).toNat : Nat) : Int) = min c W by omega, show (((min d H).toNat : Nat) : Int) = min d H by omega]
    · rw [hasB, Bool.eq_iff_iff]
      simp
      omega

/-- Row y, from x0 up to x1: which places these are. -/
theorem row_iff {W x0 x1 y i : Nat} (hx : x0 ≤ x1) (hw : x1 ≤ W) (h1 : 1 ≤ W) : (y * W + x0 ≤ i ∧ i < y * W + x0 + (x1 - x0)) ↔ (i / W = y ∧ x0 ≤ i % W ∧ i % W < x1) := by
  have hd := Nat.div_add_mod i W
  have hm := Nat.mod_lt i (show W > 0 by omega)
  rw [Nat.mul_comm] at hd
  constructor
  · rintro ⟨h, k⟩
    have e : i / W = y := by
      rw [Nat.div_eq_iff (by omega)]
      have := Nat.add_mul y 1 W
      omega
    rw [e] at hd
    omega
  · rintro ⟨rfl, h, k⟩
    omega
theorem fillR_get (W x0 x1 : Nat) (q : Int) (hx : x0 ≤ x1) (hw : x1 ≤ W) (h1 : 1 ≤ W) : ∀ (ys : List Nat) (L : List Int) (i : Nat), (fillR W x0 x1 q L ys)[i]? = if i < L.length ∧ x0 ≤ i % W ∧ i % W < x1 ∧ i / W ∈ ys then some q else L[i]?
  | [], L, i => by rw [if_neg (by simp)]; rfl
  | y :: ys, L, i => by
    show (fillR W x0 x1 q (putRun L (y * W + x0) (List.replicate (x1 - x0) q)) ys)[i]? = _
    rw [fillR_get W x0 x1 q hx hw h1 ys, putRun_len, putRun_get, List.length_replicate]
    have r := row_iff (y := y) (i := i) hx hw h1
    by_cases h : i < L.length ∧ x0 ≤ i % W ∧ i % W < x1 ∧ i / W ∈ ys
    · rw [if_pos h, if_pos ⟨h.1, h.2.1, h.2.2.1, List.mem_cons_of_mem _ h.2.2.2⟩]
    · rw [if_neg h]
      by_cases k : y * W + x0 ≤ i ∧ i < y * W + x0 + (x1 - x0) ∧ i < L.length
      · obtain ⟨k1, k2, k3⟩ := r.1 ⟨k.1, k.2.1⟩
        rw [if_pos k, if_pos ⟨k.2.2, k2, k3, by rw [k1]; exact List.mem_cons_self⟩, List.getElem?_replicate, if_pos (by omega)]
      · rw [if_neg k, if_neg]
        rintro ⟨l1, l2, l3, l4⟩
        rcases List.mem_cons.1 l4 with l | l
        · have := r.2 ⟨l, l2, l3⟩; omega
        · exact h ⟨l1, l2, l3, l⟩
theorem mem_range'' (y y0 y1 : Nat) (h : y0 ≤ y1) : y ∈ List.range' y0 (y1 - y0) ↔ y0 ≤ y ∧ y < y1 := by
  rw [List.mem_range'_1]; omega
/-- What is filled row by row is filled point by point. -/
theorem fill_eq {W H x0 x1 y0 y1 : Nat} {q : Int} {L : List Int} {p : Nat → Nat → Bool} (hl : L.length = W * H) (h1 : 1 ≤ W) (hx : x0 ≤ x1) (hw : x1 ≤ W) (hy : y0 ≤ y1)
    (hp : ∀ i j : Nat, i < W → j < H → p i j = decide (x0 ≤ i ∧ i < x1 ∧ y0 ≤ j ∧ j < y1)) :
    fillR W x0 x1 q L (List.range' y0 (y1 - y0)) = upto (fun i => if p (i % W) (i / W) = true then q else L.getD i 0) L.length := by
  apply List.ext_getElem?
  intro i
  rw [fillR_get W x0 x1 q hx hw h1, upto_get]
  by_cases hi : i < L.length
  · obtain ⟨d1, d2, _⟩ := div_of (k := i) (H := H) h1 (by omega)
    rw [if_pos hi, hp _ _ d1 d2]
    by_cases h : x0 ≤ i % W ∧ i % W < x1 ∧ y0 ≤ i / W ∧ i / W < y1
    · rw [if_pos ⟨hi, h.1, h.2.1, (mem_range'' _ _ _ hy).2 h.2.2⟩, if_pos (by simpa using h)]
    · rw [if_neg (fun k => h ⟨k.2.1, k.2.2.1, (mem_range'' _ _ _ hy).1 k.2.2.2⟩), if_neg (by simpa using h), List.getElem?_eq_getElem hi, List.getD, List.getElem?_eq_getElem hi]; rfl
  · rw [if_neg (fun k => hi k.1), if_neg hi, List.getElem?_eq_none (by omega)]

theorem cnt_rows {W x0 x1 y0 y1 H : Nat} {p : Nat → Nat → Bool} (h1 : 1 ≤ W) (hx : x0 ≤ x1) (hw : x1 ≤ W) (hy : y0 ≤ y1)
    (hp : ∀ i j : Nat, i < W → j < H → p i j = decide (x0 ≤ i ∧ i < x1 ∧ y0 ≤ j ∧ j < y1)) :
    ∀ j : Nat, j ≤ H → cntI (fun i => p (i % W) (i / W)) (j * W) = (min j y1 - y0) * (x1 - x0) := by
  intro j
  induction j with
  | zero => intro _; simp [cntI]
  | succ j ih =>
    intro hj
    have row : ∀ i, i ≤ W → cntI (fun i => p (i % W) (i / W)) (j * W + i) = (min j y1 - y0) * (x1 - x0) + if y0 ≤ j ∧ j < y1 then min i x1 - x0 else 0 := by
      intro i
      induction i with
      | zero => intro _; rw [Nat.add_zero, ih (by omega)]; split <;> simp
      | succ i ih2 =>
        intro hi
        rw [← Nat.add_assoc, cntI_succ, ih2 (by omega)]
        have e1 : (j * W + i) % W = i := by rw [Nat.mul_comm, Nat.mul_add_mod]; exact Nat.mod_eq_of_lt (by omega)
        have e2 : (j * W + i) / W = j := by rw [Nat.mul_comm, Nat.mul_add_div (by omega), Nat.div_eq_of_lt (by omega), Nat.add_zero]
        rw [e1, e2, hp i j (by omega) (by omega)]
        by_cases h : y0 ≤ j ∧ j < y1
        · rw [if_pos h, if_pos h]
          by_cases k : x0 ≤ i ∧ i < x1
          · rw [if_pos (by simp; omega)]; omega
          · rw [if_neg (by simp; omega)]; omega
        · rw [if_neg h, if_neg h, if_neg (by simp; omega)]
    rw [Nat.add_mul, Nat.one_mul, row W (Nat.le_refl _)]
    by_cases h : y0 ≤ j ∧ j < y1
    · rw [if_pos h, show min (j + 1) y1 - y0 = (min j y1 - y0) + 1 by omega, Nat.add_mul]; omega
    · rw [if_neg h, show min (j + 1) y1 - y0 = min j y1 - y0 by omega]; omega
theorem cnt_area {W H x0 x1 y0 y1 : Nat} {p : Nat → Nat → Bool} (h1 : 1 ≤ W) (hx : x0 ≤ x1) (hw : x1 ≤ W) (hy : y0 ≤ y1) (hh : y1 ≤ H)
    (hp : ∀ i j : Nat, i < W → j < H → p i j = decide (x0 ≤ i ∧ i < x1 ∧ y0 ≤ j ∧ j < y1)) :
    ((cntI (fun i => p (i % W) (i / W)) (W * H) : Nat) : Int) = areaI x0 y0 x1 y1 := by
  rw [Nat.mul_comm, cnt_rows h1 hx hw hy hp H (Nat.le_refl _), show min H y1 = y1 by omega]
  unfold areaI
  rw [Int.natCast_mul, Int.mul_comm, Int.natCast_sub hx, Int.natCast_sub hy]

/-- Whether all of a rectangle's points are solid, point by point. -/
theorem rowS_iff (L : List Int) (p k : Nat) : rowS L p k = true ↔ ∀ i, p ≤ i → i < p + k → ∀ c, L[i]? = some c → pA c = 255 := by
  unfold rowS
  rw [List.all_eq_true]
  constructor
  · intro h i h1 h2 c hc
    have : c ∈ (L.drop p).take k := by
      apply List.mem_of_getElem? (i := i - p)
      rw [List.getElem?_take, if_pos (by omega), List.getElem?_drop, show p + (i - p) = i by omega, hc]
    simpa using h c this
  · intro h c hc
    obtain ⟨i, hi⟩ := List.getElem?_of_mem hc
    rw [List.getElem?_take] at hi
    split at hi
    · rename_i hk
      rw [List.getElem?_drop] at hi
      simpa using h (p + i) (by omega) (by omega) c hi
    · cases hi
theorem allS_iff {W H x0 x1 y0 y1 : Nat} {L : List Int} (_hl : L.length = W * H) (h1 : 1 ≤ W) (hx : x0 ≤ x1) (hw : x1 ≤ W) (hy : y0 ≤ y1) :
    allS W x0 x1 L (List.range' y0 (y1 - y0)) = true ↔ ∀ i c, L[i]? = some c → (x0 ≤ i % W ∧ i % W < x1 ∧ y0 ≤ i / W ∧ i / W < y1) → pA c = 255 := by
  unfold allS
  rw [List.all_eq_true]
  constructor
  · intro h i c hc ⟨k1, k2, k3, k4⟩
    have r := (row_iff (y := i / W) (i := i) hx hw h1).2 ⟨rfl, k1, k2⟩
    exact (rowS_iff _ _ _).1 (h (i / W) ((mem_range'' _ _ _ hy).2 ⟨k3, k4⟩)) i r.1 r.2 c hc
  · intro h y hy'
    rw [mem_range'' _ _ _ hy] at hy'
    rw [rowS_iff]
    intro i k1 k2 c hc
    obtain ⟨r1, r2, r3⟩ := (row_iff (y := y) (i := i) hx hw h1).1 ⟨k1, k2⟩
    exact h i c hc ⟨r2, r3, by omega, by omega⟩

end Go.Proofs.Ytackojmckloacaa
