/-
  What is proved: plain mathematics of colors read and written. No program.
-/
import Derived.Test.YtackojmckloacaaQw
import Derived.Test.YtackojmckloacaaQr
import Derived.Test.YtackojmckloacaaIn
namespace Go.Proofs.Ytackojmckloacaa

/-- The colors of rows y of W, m of each from x0 on. -/
def rowsL (W x0 m : Nat) (L : List Int) (ys : List Nat) : List Int := ys.flatMap fun y => (L.drop (y * W + x0)).take m
theorem readR_rows (W x0 x1 : Nat) (L : List Int) (ys : List Nat) : readR W x0 x1 L ys = (rowsL W x0 (x1 - x0) L ys).flatMap px := by
  unfold readR rowsL rowPx
  rw [List.flatMap_assoc]
theorem colB_px (c : Int) : colB (pA c) (pR c) (pG c) (pB c) = c := by
  unfold colB pA pR pG pB
  omega
theorem colAt_next (c : Int) (r : List Int) (k : Nat) : colAt (px c ++ r) (k + 1) = colAt r k := by
  unfold colAt
  have e : ∀ j, (px c ++ r).getD (4 * (k + 1) + j) 0 = r.getD (4 * k + j) 0 := fun j => by
    rw [List.getD_eq_getElem?_getD, List.getD_eq_getElem?_getD, List.getElem?_append_right (by simp [px]; omega)]
    congr 2
    simp [px]; omega
  have e0 := e 0
  simp only [Nat.add_zero] at e0
  rw [e0, e 1, e 2, e 3]
theorem colAt_px : ∀ (l : List Int), (∀ c ∈ l, C32 c) → ∀ k, k < l.length → colAt (l.flatMap px) k = l.getD k 0
  | [], _, k, hk => by simp at hk
  | c :: l, _, 0, _ => by
    rw [List.flatMap_cons]
    show colB (pA c) (pR c) (pG c) (pB c) = c
    exact colB_px c
  | c :: l, h, k + 1, hk => by
    rw [List.flatMap_cons, colAt_next, colAt_px l (fun d hd => h d (List.mem_cons_of_mem _ hd)) k (by simpa using hk)]
    rfl
theorem colsL_px (l : List Int) (h : ∀ c ∈ l, C32 c) : colsL (l.flatMap px) l.length = l := by
  apply List.ext_getElem?
  intro i
  by_cases hi : i < l.length
  · rw [colsL_at hi, colAt_px l h i hi, List.getD, List.getElem?_eq_getElem hi]; rfl
  · rw [List.getElem?_eq_none (by rw [colsL_len]; omega), List.getElem?_eq_none (by omega)]
theorem rowsL_mem {W x0 m : Nat} {L : List Int} {ys : List Nat} {c : Int} (h : c ∈ rowsL W x0 m L ys) : c ∈ L := by
  unfold rowsL at h
  obtain ⟨y, _, hc⟩ := List.mem_flatMap.1 h
  exact List.mem_of_mem_drop (List.mem_of_mem_take hc)
theorem rowsL_len (W x0 m : Nat) (L : List Int) : ∀ (ys : List Nat), (∀ y ∈ ys, y * W + x0 + m ≤ L.length) → (rowsL W x0 m L ys).length = m * ys.length
  | [], _ => by simp [rowsL]
  | y :: l, h => by
    show (((L.drop (y * W + x0)).take m) ++ rowsL W x0 m L l).length = _
    have := h y (by simp)
    rw [List.length_append, rowsL_len W x0 m L l (fun z hz => h z (List.mem_cons_of_mem _ hz)), List.length_take, List.length_drop, List.length_cons, Nat.mul_add]
    omega
theorem wrS_get {W x0 x1 : Nat} {L : List Int} (h1 : 1 ≤ W) (hx : x0 ≤ x1) (hw : x1 ≤ W) : ∀ (ys : List Nat) (Z : List Int), (∀ y ∈ ys, y * W + x0 + (x1 - x0) ≤ L.length) → Z.length = L.length → ∀ i,
    (wrS W x0 (x1 - x0) (Z, rowsL W x0 (x1 - x0) L ys) ys).1[i]? = if x0 ≤ i % W ∧ i % W < x1 ∧ i / W ∈ ys then L[i]? else Z[i]?
  | [], Z, _, _, i => by simp [wrS]
  | y :: l, Z, h, hZ, i => by
    have hy := h y (by simp)
    have hrl : ((L.drop (y * W + x0)).take (x1 - x0)).length = x1 - x0 := by rw [List.length_take, List.length_drop]; omega
    show (wrS W x0 (x1 - x0) (putRun Z (y * W + x0) ((((L.drop (y * W + x0)).take (x1 - x0)) ++ rowsL W x0 (x1 - x0) L l).take (x1 - x0)), (((L.drop (y * W + x0)).take (x1 - x0)) ++ rowsL W x0 (x1 - x0) L l).drop (x1 - x0)) l).1[i]? = _
    have e1 : (((L.drop (y * W + x0)).take (x1 - x0)) ++ rowsL W x0 (x1 - x0) L l).take (x1 - x0) = (L.drop (y * W + x0)).take (x1 - x0) := by
      conv => lhs; rw [← hrl]
      rw [hrl, List.take_append_of_le_length (by omega), List.take_take, Nat.min_self]
    have e2 : (((L.drop (y * W + x0)).take (x1 - x0)) ++ rowsL W x0 (x1 - x0) L l).drop (x1 - x0) = rowsL W x0 (x1 - x0) L l := by
      rw [List.drop_append, hrl, Nat.sub_self, List.drop_zero, List.drop_eq_nil_of_le (by omega), List.nil_append]
    rw [e1, e2, wrS_get h1 hx hw l _ (fun z hz => h z (List.mem_cons_of_mem _ hz)) (by rw [putRun_len]; exact hZ) i, putRun_get, hrl]
    have hri := row_iff (y := y) (i := i) hx hw h1
    by_cases hin : x0 ≤ i % W ∧ i % W < x1 ∧ i / W ∈ l
    · rw [if_pos hin, if_pos ⟨hin.1, hin.2.1, List.mem_cons_of_mem _ hin.2.2⟩]
    · rw [if_neg hin]
      by_cases hq : i / W = y ∧ x0 ≤ i % W ∧ i % W < x1
      · obtain ⟨a1, a2⟩ := hri.2 hq
        rw [if_pos ⟨a1, a2, by omega⟩, if_pos ⟨hq.2.1, hq.2.2, by rw [hq.1]; simp⟩, List.getElem?_take, if_pos (by omega), List.getElem?_drop]
        congr 1
        omega
      · rw [if_neg (fun h3 => hq (hri.1 ⟨h3.1, h3.2.1⟩)), if_neg]
        rintro ⟨b1, b2, b3⟩
        rcases List.mem_cons.1 b3 with b3 | b3
        · exact hq ⟨b3, b1, b2⟩
        · exact hin ⟨b1, b2, b3⟩
/-- What is written as it was read is as solid as it was. -/
theorem write_solid {W H x0 x1 y0 y1 : Nat} {L Z : List Int} (hl : L.length = W * H) (hZ : Z.length = W * H) (h32 : ∀ c ∈ L, C32 c) (h1 : 1 ≤ W) (hx : x0 < x1) (hw : x1 ≤ W) (hy : y0 < y1) (hh : y1 ≤ H) {N : Nat} (hN : N = (x1 - x0) * (y1 - y0)) :
    allS W x0 x1 (wrS W x0 (x1 - x0) (Z, colsL (readR W x0 x1 L (List.range' y0 (y1 - y0))) N) (List.range' y0 (y1 - y0))).1 (List.range' y0 (y1 - y0)) = allS W x0 x1 L (List.range' y0 (y1 - y0)) := by
  have hrow : ∀ y ∈ List.range' y0 (y1 - y0), y * W + x0 + (x1 - x0) ≤ L.length := fun y hy' => by
    have h3 := List.mem_range'_1.1 hy'
    have := row_of (show x1 - 1 < W by omega) (show y < H by omega)
    rw [hl]; omega
  have hlen := rowsL_len W x0 (x1 - x0) L _ hrow
  rw [List.length_range', ← hN] at hlen
  rw [readR_rows, ← hlen, colsL_px _ (fun c hc => h32 c (rowsL_mem hc))]
  have hg := wrS_get h1 (Nat.le_of_lt hx) hw (List.range' y0 (y1 - y0)) Z hrow (by rw [hZ, hl])
  have hfl : (wrS W x0 (x1 - x0) (Z, rowsL W x0 (x1 - x0) L (List.range' y0 (y1 - y0))) (List.range' y0 (y1 - y0))).1.length = W * H := by rw [wrS_len]; exact hZ
  rw [Bool.eq_iff_iff, allS_iff (H := H) hfl h1 (Nat.le_of_lt hx) hw (Nat.le_of_lt hy), allS_iff (H := H) hl h1 (Nat.le_of_lt hx) hw (Nat.le_of_lt hy)]
  constructor
  · intro h i c hc hin
    exact h i c (by rw [hg, if_pos ⟨hin.1, hin.2.1, (mem_range'' _ _ _ (Nat.le_of_lt hy)).2 hin.2.2⟩]; exact hc) hin
  · intro h i c hc hin
    rw [hg, if_pos ⟨hin.1, hin.2.1, (mem_range'' _ _ _ (Nat.le_of_lt hy)).2 hin.2.2⟩] at hc
    exact h i c hc hin
/-- What is read may be written. -/
theorem read_may {W H x0 x1 y0 y1 : Nat} {L : List Int} (hl : L.length = W * H) (hM : ∀ c ∈ L, C32 c ∧ mayC c = true) (hx : x0 < x1) (hw : x1 ≤ W) (hh : y1 ≤ H) {N : Nat} (hN : N = (x1 - x0) * (y1 - y0)) :
    ∀ j, j < N → mayC (colAt (readR W x0 x1 L (List.range' y0 (y1 - y0))) j) = true := by
  intro j hj
  have hrow : ∀ y ∈ List.range' y0 (y1 - y0), y * W + x0 + (x1 - x0) ≤ L.length := fun y hy' => by
    have h3 := List.mem_range'_1.1 hy'
    have := row_of (show x1 - 1 < W by omega) (show y < H by omega)
    rw [hl]; omega
  have hlen := rowsL_len W x0 (x1 - x0) L _ hrow
  rw [List.length_range', ← hN] at hlen
  rw [readR_rows, colAt_px _ (fun c hc => (hM c (rowsL_mem hc)).1) j (by omega)]
  have hjl : j < (rowsL W x0 (x1 - x0) L (List.range' y0 (y1 - y0))).length := by omega
  have : (rowsL W x0 (x1 - x0) L (List.range' y0 (y1 - y0)))[j]? = some ((rowsL W x0 (x1 - x0) L (List.range' y0 (y1 - y0))).getD j 0) := by rw [List.getD, List.getElem?_eq_getElem hjl]; rfl
  exact (hM _ (rowsL_mem (List.mem_of_getElem? this))).2
/-- What is read is bytes. -/
theorem read_u8 {W x0 x1 : Nat} {L : List Int} {ys : List Nat} (h : ∀ c ∈ L, C32 c) : ∀ x ∈ readR W x0 x1 L ys, U8 x := by
  intro x hx
  rw [readR_rows] at hx
  obtain ⟨c, hc, hx⟩ := List.mem_flatMap.1 hx
  have := h c (rowsL_mem hc)
  unfold C32 at this
  unfold U8
  simp [px, pA, pR, pG, pB] at hx
  omega
end Go.Proofs.Ytackojmckloacaa
