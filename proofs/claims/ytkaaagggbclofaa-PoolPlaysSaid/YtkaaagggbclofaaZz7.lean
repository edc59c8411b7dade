/-
  What is proved: plain mathematics of colors read and written. No program. plain mathematics: what is copied row by row, and written row by row, is what the document copies, and writes, point by point. No program. what a clone of an image is, and when two images are the same, by package image and by the document. No conditions but bounds. what Put, Set and Same of the document's images hand back. No conditions but bounds. the document's Read of an image. the document's Write of an image. Conditions: sides of an image; what is written are bytes.
-/
import Derived.Test.YtkaaagggbclofaaZz6
import Derived.Test.YtkaaagggbclofaaZz5
import Derived.Test.YtkaaagggbclofaaZz4
import Derived.Test.YtkaaagggbclofaaZz2
import Derived.Test.YtkaaagggbclofaaZz3
import Derived.Deep.RegionHeld3
import Derived.WalkSpells
namespace Go.Proofs.Ytkaaagggbclofaa

/-- The colors of rows y of W, m of each from x0 on. -/
def rowsL (W x0 m : Nat) (L : List Int) (ys : List Nat) : List Int := ys.flatMap fun y => (L.drop (y * W + x0)).take m
theorem readR_rows (W x0 x1 : Nat) (L : List Int) (ys : List Nat) : readR W x0 x1 L ys = (rowsL W x0 (x1 - x0) L ys).flatMap px := by
  unfold readR rowsL rowPx
  rw [List.flatMap_assoc]
theorem colB_px (c : Int) : colB (pA c) (pR c) (pG c) (pB c) = c := by
  unfold colB pA pR pG pB
  omega
theorem colAt_next (c : Int) (r : List Int) (k : Nat) : colAt (px c ++ r) (k + 1) = colAt r k := by
  unfold colAt
  have e : ∀ j, (px c ++ r).getD (4 * (k + 1) + j) 0 = r.getD (4 * k + j) 0 := fun j => by
    rw [List.getD_eq_getElem?_getD, List.getD_eq_getElem?_getD, List.getElem?_append_right (by simp [px]; omega)]
    congr 2
    simp [px]; omega
  have e0 := e 0
  simp only [Nat.add_zero] at e0
  rw [e0, e 1, e 2, e 3]
theorem colAt_px : ∀ (l : List Int), (∀ c ∈ l, C32 c) → ∀ k, k < l.length → colAt (l.flatMap px) k = l.getD k 0
  | [], _, k, hk => by simp at hk
  | c :: l, _, 0, _ => by
    rw [List.flatMap_cons]
    show colB (pA c) (pR c) (pG c) (pB c) = c
    exact colB_px c
  | c :: l, h, k + 1, hk => by
    rw [List.flatMap_cons, colAt_next, colAt_px l (fun d hd => h d (List.mem_cons_of_mem _ hd)) k (by simpa using hk)]
    rfl
theorem colsL_px (l : List Int) (h : ∀ c ∈ l, C32 c) : colsL (l.flatMap px) l.length = l := by
  apply List.ext_getElem?
  intro i
  by_cases hi : i < l.length
  · rw [colsL_at hi, colAt_px l h i hi, List.getD, List.getElem?_eq_getElem hi]; rfl
  · rw [List.getElem?_eq_none (by rw [colsL_len]; omega), List.getElem?_eq_none (by omega)]
theorem rowsL_mem {W x0 m : Nat} {L : List Int} {ys : List Nat} {c : Int} (h : c ∈ rowsL W x0 m L ys) : c ∈ L := by
  unfold rowsL at h
  obtain ⟨y, _, hc⟩ := List.mem_flatMap.1 h
  exact List.mem_of_mem_drop (List.mem_of_mem_take hc)
theorem rowsL_len (W x0 m : Nat) (L : List Int) : ∀ (ys : List Nat), (∀ y ∈ ys, y * W + x0 + m ≤ L.length) → (rowsL W x0 m L ys).length = m * ys.length
  | [], _ => by simp [rowsL]
  | y :: l, h => by
    show (((L.drop (y * W + x0)).take m) ++ rowsL W x0 m L l).length = _
    have := h y (by simp)
    rw [List.length_append, rowsL_len W x0 m L l (fun z hz => h z (List.mem_cons_of_mem _ hz)), List.length_take, List.length_drop, List.length_cons, Nat.mul_add]
    omega
theorem wrS_get {W x0 x1 : Nat} {L : List Int} (h1 : 1 ≤ W) (hx : x0 ≤ x1) (hw : x1 ≤ W) : ∀ (ys : List Nat) (Z : List Int), (∀ y ∈ ys, y * W + x0 + (x1 - x0) ≤ L.length) → Z.length = L.length → ∀ i,
    (wrS W x0 (x1 - x0) (Z, rowsL W x0 (x1 - x0) L ys) ys).1[i]? = if x0 ≤ i % W ∧ i % W < x1 ∧ i / W ∈ ys then L[i]? else Z[i]?
  | [], Z, _, _, i => by simp [wrS]
  | y :: l, Z, h, hZ, i => by
    have hy := h y (by simp)
    have hrl : ((L.drop (y * W + x0)).take (x1 - x0)).length = x1 - x0 := by rw [List.length_take, List.length_drop]; omega
    show (wrS W x0 (x1 - x0) (putRun Z (y * W + x0) ((((L.drop (y * W + x0)).take (x1 - x0)) ++ rowsL W x0 (x1 - x0) L l).take (x1 - x0)), (((L.drop (y * W + x0)).take (x1 - x0)) ++ rowsL W x0 (x1 - x0) L l).drop (x1 - x0)) l).1[i]? = _
    have e1 : (((L.drop (y * W + x0)).take (x1 - x0)) ++ rowsL W x0 (x1 - x0) L l).take (x1 - x0) = (L.drop (y * W + x0)).take (x1 - x0) := by
      conv => lhs; rw [← hrl]
      rw [hrl, List.take_append_of_le_length (by omega), List.take_take, Nat.min_self]
    have e2 : (((L.drop (y * W + x0)).take (x1 - x0)) ++ rowsL W x0 (x1 - x0) L l).drop (x1 - x0) = rowsL W x0 (x1 - x0) L l := by
      rw [List.drop_append, hrl, Nat.sub_self, List.drop_zero, List.drop_eq_nil_of_le (by omega), List.nil_append]
    rw [e1, e2, wrS_get h1 hx hw l _ (fun z hz => h z (List.mem_cons_of_mem _ hz)) (by rw [putRun_len]; exact hZ) i, putRun_get, hrl]
    have hri := row_iff (y := y) (i := i) hx hw h1
    by_cases hin : x0 ≤ i % W ∧ i % W < x1 ∧ i / W ∈ l
    · rw [if_pos hin, if_pos ⟨hin.1, hin.2.1, List.mem_cons_of_mem _ hin.2.2⟩]
    · rw [if_neg hin]
      by_cases hq : i / W = y ∧ x0 ≤ i % W ∧ i % W < x1
      · obtain ⟨a1, a2⟩ := hri.2 hq
        rw [if_pos ⟨a1, a2, by omega⟩, if_pos ⟨hq.2.1, hq.2.2, by rw [hq.1]; simp⟩, List.getElem?_take, if_pos (by omega), List.getElem?_drop]
        congr 1
        omega
      · rw [if_neg (fun h3 => hq (hri.1 ⟨h3.1, h3.2.1⟩)), if_neg]
        rintro ⟨b1, b2, b3⟩
        rcases List.mem_cons.1 b3 with b3 | b3
        · exact hq ⟨b3, b1, b2⟩
        · exact hin ⟨b1, b2, b3⟩
/-- What is written as it was read is as solid as it was. -/
theorem write_solid {W H x0 x1 y0 y1 : Nat} {L Z : List Int} (hl : L.length = W * H) (hZ : Z.length = W * H) (h32 : ∀ c ∈ L, C32 c) (h1 : 1 ≤ W) (hx : x0 < x1) (hw : x1 ≤ W) (hy : y0 < y1) (hh : y1 ≤ H) {N : Nat} (hN : N = (x1 - x0) * (y1 - y0)) :
    allS W x0 x1 (wrS W x0 (x1 - x0) (Z, colsL (readR W x0 x1 L (List.range' y0 (y1 - y0))) N) (List.range' y0 (y1 - y0))).1 (List.range' y0 (y1 - y0)) = allS W x0 x1 L (List.range' y0 (y1 - y0)) := by
  have hrow : ∀ y ∈ List.range' y0 (y1 - y0), y * W + x0 + (x1 - x0) ≤ L.length := fun y hy' => by
    have h3 := List.mem_range'_1.1 hy'
    have := row_of (show x1 - 1 < W by omega) (show y < H by omega)
    rw [hl]; omega
  have hlen := rowsL_len W x0 (x1 - x0) L _ hrow
  rw [List.length_range', ← hN] at hlen
  rw [readR_rows, ← hlen, colsL_px _ (fun c hc => h32 c (rowsL_mem hc))]
  have hg := wrS_get h1 (Nat.le_of_lt hx) hw (List.range' y0 (y1 - y0)) Z hrow (by rw [hZ, hl])
  have hfl : (wrS W x0 (x1 - x0) (Z, rowsL W x0 (x1 - x0) L (List.range' y0 (y1 - y0))) (List.range' y0 (y1 - y0))).1.length = W * H := by rw [wrS_len]; exact hZ
  rw [Bool.eq_iff_iff, allS_iff (H := H) hfl h1 (Nat.le_of_lt hx) hw (Nat.le_of_lt hy), allS_iff (H := H) hl h1 (Nat.le_of_lt hx) hw (Nat.le_of_lt hy)]
  constructor
  · intro h i c hc hin
    exact h i c (by rw [hg, if_pos ⟨hin.1, hin.2.1, (mem_range'' _ _ _ (Nat.le_of_lt hy)).2 hin.2.2⟩]; exact hc) hin
  · intro h i c hc hin
    rw [hg, if_pos ⟨hin.1, hin.2.1, (mem_range'' _ _ _ (Nat.le_of_lt hy)).2 hin.2.2⟩] at hc
    exact h i c hc hin
/-- What is read may be written. -/
theorem read_may {W H x0 x1 y0 y1 : Nat} {L : List Int} (hl : L.length = W * H) (hM : ∀ c ∈ L, C32 c ∧ mayC c = true) (hx : x0 < x1) (hw : x1 ≤ W) (hh : y1 ≤ H) {N : Nat} (hN : N = (x1 - x0) * (y1 - y0)) :
    ∀ j, j < N → mayC (colAt (readR W x0 x1 L (List.range' y0 (y1 - y0))) j) = true := by
  intro j hj
  have hrow : ∀ y ∈ List.range' y0 (y1 - y0), y * W + x0 + (x1 - x0) ≤ L.length := fun y hy' => by
    have h3 := List.mem_range'_1.1 hy'
    have := row_of (show x1 - 1 < W by omega) (show y < H by omega)
    rw [hl]; omega
  have hlen := rowsL_len W x0 (x1 - x0) L _ hrow
  rw [List.length_range', ← hN] at hlen
  rw [readR_rows, colAt_px _ (fun c hc => (hM c (rowsL_mem hc)).1) j (by omega)]
  have hjl : j < (rowsL W x0 (x1 - x0) L (List.range' y0 (y1 - y0))).length := by omega
  have : (rowsL W x0 (x1 - x0) L (List.range' y0 (y1 - y0)))[j]? = some ((rowsL W x0 (x1 - x0) L (List.range' y0 (y1 - y0))).getD j 0) := by rw [List.getD, List.getElem?_eq_getElem hjl]; rfl
  exact (hM _ (rowsL_mem (List.mem_of_getElem? this))).2
/-- What is read is bytes. -/
theorem read_u8 {W x0 x1 : Nat} {L : List Int} {ys : List Nat} (h : ∀ c ∈ L, C32 c) : ∀ x ∈ readR W x0 x1 L ys, U8 x := by
  intro x hx
  rw [readR_rows] at hx
  obtain ⟨c, hc, hx⟩ := List.mem_flatMap.1 hx
  have := h c (rowsL_mem hc)
  unfold C32 at this
  unfold U8
  simp [px, pA, pR, pG, pB] at hx
  omega
end Go.Proofs.Ytkaaagggbclofaa
namespace Go.Proofs.Ytkaaagggbclofaa
open Go.RowKit Go.Sort

/-- Does a point get a color of the other image; and which one it has then. -/
def cpP (W W2 H2 : Nat) (a b c d dx dy : Int) (k : Nat) : Bool := hasB 0 0 W2 H2 ((k % W : Nat) - dx) ((k / W : Nat) - dy) && hasB a b c d ((k % W : Nat) - dx) ((k / W : Nat) - dy)
def cpF (W W2 H2 : Nat) (a b c d dx dy : Int) (L L2 : List Int) (k : Nat) : Int := if cpP W W2 H2 a b c d dx dy k = true then L2.getD (((k / W : Nat) - dy).toNat * W2 + ((k % W : Nat) - dx).toNat) 0 else L.getD k 0

theorem cpP_iff {W H W2 H2 a0 b0 a1 b1 x0 y0 x1 y1 u0 v0 : Nat} {a b c d dx dy : Int} (w1 : 1 ≤ W) (ha : a1 ≤ W2) (hb : b1 ≤ H2)
    (h1 : ∀ p q : Nat, p < W2 → q < H2 → hasB a b c d p q = decide (a0 ≤ p ∧ p < a1 ∧ b0 ≤ q ∧ q < b1))
    (h2 : ∀ p q : Nat, p < W → q < H → ((a0 : Int) ≤ p - dx ∧ (p : Int) - dx < a1 ∧ (b0 : Int) ≤ q - dy ∧ (q : Int) - dy < b1 ↔ y0 < y1 ∧ u0 ≤ p ∧ p < u0 + (x1 - x0) ∧ v0 ≤ q ∧ q < v0 + (y1 - y0)))
    {k : Nat} (hk : k < W * H) : cpP W W2 H2 a b c d dx dy k = true ↔ y0 < y1 ∧ u0 ≤ k % W ∧ k % W < u0 + (x1 - x0) ∧ v0 ≤ k / W ∧ k / W < v0 + (y1 - y0) := by
  obtain ⟨d1, d2, _⟩ := div_of w1 hk
  rw [← h2 _ _ d1 d2]
  unfold cpP
  generalize ((k % W : Nat) : Int) - dx = px
  generalize ((k / W : Nat) : Int) - dy = qy
  rw [Bool.and_eq_true]
  constructor
  · rintro ⟨h3, h4⟩
    simp [hasB] at h3
    have := h1 px.toNat qy.toNat (by omega) (by omega)
    rw [show ((px.toNat : Nat) : Int) = px by omega, show ((qy.toNat : Nat) : Int) = qy by omega] at this
    rw [this] at h4
    have := of_decide_eq_true h4
    omega
  · intro h3
    have h5 : hasB 0 0 W2 H2 px qy = true := by simp [hasB]; omega
    refine ⟨h5, ?_⟩
    have := h1 px.toNat qy.toNat (by omega) (by omega)
    rw [show ((px.toNat : Nat) : Int) = px by omega, show ((qy.toNat : Nat) : Int) = qy by omega] at this
    rw [this]
    exact decide_eq_true (by omega)

theorem cp_eq {W H W2 H2 a0 b0 a1 b1 x0 y0 x1 y1 u0 v0 : Nat} {a b c d dx dy : Int} {L L2 : List Int} {ts : List Nat} (hl : L.length = W * H) (hl2 : L2.length = W2 * H2) (w1 : 1 ≤ W) (ha : a1 ≤ W2) (hb : b1 ≤ H2) (hx : y0 < y1 → x0 < x1) (hw : x1 ≤ W2) (hh : y1 ≤ H2)
    (hu : y0 < y1 → (u0 : Int) = x0 + dx ∧ (v0 : Int) = y0 + dy ∧ u0 + (x1 - x0) ≤ W) (hts : ∀ t, t ∈ ts ↔ t < y1 - y0)
    (h1 : ∀ p q : Nat, p < W2 → q < H2 → hasB a b c d p q = decide (a0 ≤ p ∧ p < a1 ∧ b0 ≤ q ∧ q < b1))
    (h2 : ∀ p q : Nat, p < W → q < H → ((a0 : Int) ≤ p - dx ∧ (p : Int) - dx < a1 ∧ (b0 : Int) ≤ q - dy ∧ (q : Int) - dy < b1 ↔ y0 < y1 ∧ u0 ≤ p ∧ p < u0 + (x1 - x0) ∧ v0 ≤ q ∧ q < v0 + (y1 - y0))) :
    cpAll W W2 u0 v0 x0 y0 (x1 - x0) L2 L ts = upto (cpF W W2 H2 a b c d dx dy L L2) L.length := by
  apply List.ext_getElem?
  intro k
  rw [upto_get]
  by_cases hk : k < L.length
  · rw [if_pos hk]
    have hk' : k < W * H := by omega
    rw [cp_point hl w1 hx hw (row_in (by rw [hl2, Nat.mul_comm] : L2.length = W2 * H2) hw hh) hu hts hk']
    have hi := cpP_iff w1 ha hb h1 h2 hk'
    unfold cpF
    by_cases hp : cpP W W2 H2 a b c d dx dy k = true
    · rw [if_pos hp]
      have hc := hi.1 hp
      rw [if_pos hc]
      obtain ⟨e1, e2, e3⟩ := hu hc.1
      have hxx := hx hc.1
      have hlt : (((k / W : Nat) : Int) - dy).toNat * W2 + (((k % W : Nat) : Int) - dx).toNat < L2.length := by
        rw [hl2]
        exact row_of (by omega) (by omega)
      rw [List.getD_eq_getElem?_getD, List.getElem?_eq_getElem hlt]; rfl
    · rw [if_neg hp, if_neg (fun h => hp (hi.2 h)), List.getD_eq_getElem?_getD, List.getElem?_eq_getElem hk]; rfl
  · rw [if_neg hk, List.getElem?_eq_none (by rw [cpAll_len]; omega)]

theorem cntI_congr {p q : Nat → Bool} : ∀ {n : Nat}, (∀ k, k < n → p k = q k) → cntI p n = cntI q n
  | 0, _ => by simp [cntI]
  | n + 1, h => by rw [cntI_succ, cntI_succ, cntI_congr (fun k hk => h k (by omega)), h n (by omega)]
theorem cntI_none {p : Nat → Bool} : ∀ {n : Nat}, (∀ k, k < n → p k = false) → cntI p n = 0
  | 0, _ => by simp [cntI]
  | n + 1, h => by rw [cntI_succ, cntI_none (fun k hk => h k (by omega)), h n (by omega)]; rfl
theorem cp_cnt {W H W2 H2 a0 b0 a1 b1 x0 y0 x1 y1 u0 v0 : Nat} {a b c d dx dy : Int} (w1 : 1 ≤ W) (ha : a1 ≤ W2) (hb : b1 ≤ H2) (hx0 : x0 ≤ x1) (hy : y0 ≤ y1)
    (hu : y0 < y1 → u0 + (x1 - x0) ≤ W ∧ v0 + (y1 - y0) ≤ H)
    (h1 : ∀ p q : Nat, p < W2 → q < H2 → hasB a b c d p q = decide (a0 ≤ p ∧ p < a1 ∧ b0 ≤ q ∧ q < b1))
    (h2 : ∀ p q : Nat, p < W → q < H → ((a0 : Int) ≤ p - dx ∧ (p : Int) - dx < a1 ∧ (b0 : Int) ≤ q - dy ∧ (q : Int) - dy < b1 ↔ y0 < y1 ∧ u0 ≤ p ∧ p < u0 + (x1 - x0) ∧ v0 ≤ q ∧ q < v0 + (y1 - y0))) :
    ((cntI (cpP W W2 H2 a b c d dx dy) (W * H) : Nat) : Int) = areaI x0 y0 x1 y1 := by
  by_cases hyy : y0 < y1
  · obtain ⟨e1, e2⟩ := hu hyy
    have hc := cnt_area (W := W) (H := H) (x0 := u0) (x1 := u0 + (x1 - x0)) (y0 := v0) (y1 := v0 + (y1 - y0)) (p := fun i j => decide (u0 ≤ i ∧ i < u0 + (x1 - x0) ∧ v0 ≤ j ∧ j < v0 + (y1 - y0))) w1 (by omega) e1 (by omega) e2 (fun i j _ _ => rfl)
    have hcc : cntI (cpP W W2 H2 a b c d dx dy) (W * H) = cntI (fun i => decide (u0 ≤ i % W ∧ i % W < u0 + (x1 - x0) ∧ v0 ≤ i / W ∧ i / W < v0 + (y1 - y0))) (W * H) := by
      refine cntI_congr (fun k hk => ?_)
      rw [Bool.eq_iff_iff, cpP_iff w1 ha hb h1 h2 hk, decide_eq_true_iff]
      exact ⟨fun h => h.2, fun h => ⟨hyy, h⟩⟩
    rw [hcc, hc]
    unfold areaI
    rw [show ((u0 + (x1 - x0) : Nat) : Int) - (u0 : Int) = (x1 : Int) - x0 by omega, show ((v0 + (y1 - y0) : Nat) : Int) - (v0 : Int) = (y1 : Int) - y0 by omega]
  · have hz : y0 = y1 := by omega
    have hcc : cntI (cpP W W2 H2 a b c d dx dy) (W * H) = 0 := by
      refine cntI_none (fun k hk => ?_)
      have := cpP_iff w1 ha hb h1 h2 hk
      cases hp : cpP W W2 H2 a b c d dx dy k
      · rfl
      · exact absurd (this.1 hp).1 hyy
    rw [hcc]
    unfold areaI
    rw [hz]; simp

/-- What the document writes, point by point. -/
def wrL (W x0 y0 m : Nat) (L bs : List Int) (k : Nat) : List Int := (List.range k).foldl (fun l i => l.set ((y0 + i / m) * W + x0 + i % m) (colAt bs i)) L
theorem wrL_succ (W x0 y0 m : Nat) (L bs : List Int) (k : Nat) : wrL W x0 y0 m L bs (k + 1) = (wrL W x0 y0 m L bs k).set ((y0 + k / m) * W + x0 + k % m) (colAt bs k) := by
  unfold wrL; rw [List.range_succ, List.foldl_append]; rfl
theorem wrL_len (W x0 y0 m : Nat) (L bs : List Int) : ∀ k, (wrL W x0 y0 m L bs k).length = L.length
  | 0 => rfl
  | k + 1 => by rw [wrL_succ, List.length_set, wrL_len W x0 y0 m L bs k]
theorem idx_iff {W x0 y0 m p k : Nat} (h1 : 1 ≤ W) (hm : 0 < m) (hx : x0 + m ≤ W) : (y0 + k / m) * W + x0 + k % m = p ↔ x0 ≤ p % W ∧ p % W < x0 + m ∧ y0 ≤ p / W ∧ (p / W - y0) * m + (p % W - x0) = k := by
  have hk := Nat.div_add_mod k m
  have hkm := Nat.mod_lt k hm
  have hp := Nat.div_add_mod p W
  constructor
  · intro h
    have hlt : x0 + k % m < W := by omega
    have h' : W * (y0 + k / m) + (x0 + k % m) = p := by rw [← h, Nat.mul_comm W]; omega
    have e1 : p / W = y0 + k / m := by
      rw [← h', Nat.mul_add_div (show 0 < W by omega), Nat.div_eq_of_lt hlt]; omega
    have e2 : p % W = x0 + k % m := by
      rw [← h', Nat.mul_add_mod, Nat.mod_eq_of_lt hlt]
    refine ⟨by omega, by omega, by rw [e1]; exact Nat.le_add_right _ _, ?_⟩
    rw [e1, e2, Nat.add_sub_cancel_left, Nat.add_sub_cancel_left, Nat.mul_comm (k / m) m]; exact hk
  · rintro ⟨q1, q2, q3, q4⟩
    have hlt : p % W - x0 < m := by omega
    have h' : m * (p / W - y0) + (p % W - x0) = k := by rw [← q4, Nat.mul_comm m]
    have e1 : k / m = p / W - y0 := by
      rw [← h', Nat.mul_add_div hm, Nat.div_eq_of_lt hlt]; omega
    have e2 : k % m = p % W - x0 := by
      rw [← h', Nat.mul_add_mod, Nat.mod_eq_of_lt hlt]
    rw [e1, e2, show y0 + (p / W - y0) = p / W by omega, Nat.add_assoc, show x0 + (p % W - x0) = p % W by omega, Nat.mul_comm (p / W) W]; exact hp
theorem wrL_get {W x0 y0 m : Nat} {L bs : List Int} (h1 : 1 ≤ W) (hm : 0 < m) (hx : x0 + m ≤ W) (p : Nat) : ∀ k, (wrL W x0 y0 m L bs k)[p]? = if p < L.length ∧ x0 ≤ p % W ∧ p % W < x0 + m ∧ y0 ≤ p / W ∧ (p / W - y0) * m + (p % W - x0) < k then some (colAt bs ((p / W - y0) * m + (p % W - x0))) else L[p]?
  | 0 => by rw [if_neg (by omega)]; rfl
  | k + 1 => by
    have hi := idx_iff (y0 := y0) (p := p) (k := k) h1 hm hx
    rw [wrL_succ, List.getElem?_set, wrL_len]
    by_cases hq : (y0 + k / m) * W + x0 + k % m = p
    · obtain ⟨q1, q2, q3, q4⟩ := hi.1 hq
      rw [if_pos hq]
      by_cases hp : p < L.length
      · rw [if_pos (by rw [hq]; exact hp), if_pos ⟨hp, q1, q2, q3, by omega⟩, q4]
      · rw [if_neg (by rw [hq]; exact hp), if_neg (fun h => hp h.1), List.getElem?_eq_none (by omega)]
    · rw [if_neg hq, wrL_get h1 hm hx p k]
      by_cases hc : p < L.length ∧ x0 ≤ p % W ∧ p % W < x0 + m ∧ y0 ≤ p / W ∧ (p / W - y0) * m + (p % W - x0) < k
      · rw [if_pos hc, if_pos ⟨hc.1, hc.2.1, hc.2.2.1, hc.2.2.2.1, by omega⟩]
      · rw [if_neg hc, if_neg]
        rintro ⟨c1, c2, c3, c4, c5⟩
        rcases Nat.lt_or_ge ((p / W - y0) * m + (p % W - x0)) k with h | h
        · exact hc ⟨c1, c2, c3, c4, h⟩
        · exact hq (hi.2 ⟨c2, c3, c4, by omega⟩)
theorem rows_cols {W H x0 y0 m N : Nat} {L bs : List Int} (h1 : 1 ≤ W) (hm : 0 < m) (hx : x0 + m ≤ W) (hl : L.length = W * H) : ∀ h, y0 + h ≤ H → m * h ≤ N → rowsL W x0 m (wrL W x0 y0 m L bs N) (List.range' y0 h) = colsL bs (m * h)
  | 0, _, _ => by simp [rowsL, colsL]
  | h + 1, hh, hN => by
    have hmh : m * (h + 1) = m * h + m := Nat.mul_succ m h
    have ih := rows_cols (H := H) (y0 := y0) (bs := bs) (N := N) h1 hm hx hl h (by omega) (by omega)
    have hstep : rowsL W x0 m (wrL W x0 y0 m L bs N) (List.range' y0 (h + 1)) = rowsL W x0 m (wrL W x0 y0 m L bs N) (List.range' y0 h) ++ ((wrL W x0 y0 m L bs N).drop ((y0 + h) * W + x0)).take m := by
      rw [List.range'_1_concat]; simp [rowsL]
    rw [hstep, ih]
    apply List.ext_getElem?
    intro t
    by_cases ht : t < m * h
    · rw [List.getElem?_append_left (by rw [colsL_len]; exact ht), colsL_at ht, colsL_at (by omega)]
    · rw [List.getElem?_append_right (by rw [colsL_len]; omega), colsL_len, List.getElem?_take]
      by_cases ht2 : t - m * h < m
      · rw [if_pos ht2, List.getElem?_drop, wrL_get h1 hm hx]
        have hp := row_of (show x0 + (t - m * h) < W by omega) (show y0 + h < H by omega)
        have e0 : (y0 + h) * W + x0 + (t - m * h) = W * (y0 + h) + (x0 + (t - m * h)) := by rw [Nat.mul_comm]; omega
        have e1 : ((y0 + h) * W + x0 + (t - m * h)) / W = y0 + h := by rw [e0, Nat.mul_add_div (by omega), Nat.div_eq_of_lt (by omega), Nat.add_zero]
        have e2 : ((y0 + h) * W + x0 + (t - m * h)) % W = x0 + (t - m * h) := by rw [e0, Nat.mul_add_mod, Nat.mod_eq_of_lt (by omega)]
        rw [e1, e2, show y0 + h - y0 = h by omega, show x0 + (t - m * h) - x0 = t - m * h by omega, Nat.mul_comm h m, show m * h + (t - m * h) = t by omega, if_pos ⟨by omega, by omega, by omega, by omega, by omega⟩, colsL_at (by omega)]
      · rw [if_neg ht2, List.getElem?_eq_none (by rw [colsL_len]; omega)]
theorem wr_eq {W H x0 x1 y0 y1 N : Nat} {L bs : List Int} (hl : L.length = W * H) (h1 : 1 ≤ W) (hx : x0 < x1) (hw : x1 ≤ W) (hy : y0 < y1) (hh : y1 ≤ H) (hN : N = (x1 - x0) * (y1 - y0)) :
    (wrS W x0 (x1 - x0) (L, colsL bs N) (List.range' y0 (y1 - y0))).1 = wrL W x0 y0 (x1 - x0) L bs N := by
  have hr := rows_cols (H := H) (x0 := x0) (y0 := y0) (m := x1 - x0) (bs := bs) (N := N) h1 (by omega) (by omega) hl (y1 - y0) (by omega) (by omega)
  rw [← hN] at hr
  rw [← hr]
  apply List.ext_getElem?
  intro p
  rw [wrS_get h1 (by omega) hw (List.range' y0 (y1 - y0)) L (fun y hy => by
    have h3 := List.mem_range'_1.1 hy
    have := row_of (show x1 - 1 < W by omega) (show y < H by omega)
    rw [wrL_len, hl]; omega) (wrL_len _ _ _ _ _ _ _).symm p]
  by_cases hc : x0 ≤ p % W ∧ p % W < x1 ∧ p / W ∈ List.range' y0 (y1 - y0)
  · rw [if_pos hc]
  · rw [if_neg hc, wrL_get h1 (by omega) (by omega), if_neg]
    rintro ⟨c1, c2, c3, c4, c5⟩
    refine hc ⟨c2, by omega, List.mem_range'_1.2 ⟨c4, ?_⟩⟩
    rw [hN] at c5
    rcases Nat.lt_or_ge (p / W) (y0 + (y1 - y0)) with h | h
    · exact h
    · have := Nat.mul_le_mul_left (x1 - x0) (show y1 - y0 ≤ p / W - y0 by omega)
      rw [Nat.mul_comm (x1 - x0) (p / W - y0)] at this
      omega

end Go.Proofs.Ytkaaagggbclofaa
namespace Go.Proofs.Ytkaaagggbclofaa
open Go.RowKit Go.Sort Go.Deep

theorem row_at {w : World} {g c : Nat} {L : List Int} {B : Nat} (h : OwN .u32 56 w B (some ⟨g, 0, none⟩) c L) : ∃ X : List Value, c = L.length + X.length ∧ At w g (L.map (Value.int .u32) ++ X).toArray 56 := by
  rcases h.2 with ⟨h1, _⟩ | ⟨g', cap, cur, h1, _, h3, h4, _, h6, h7⟩
  · injection h1 with h1; cases h1
  · injection h1 with a _ b
    injection a with a
    injection a with a
    subst a b
    refine ⟨cur.toList.drop L.length, ?_, ?_⟩
    · have hz : cur.toList.length = c := by simpa using h6
      rw [List.length_drop, hz]; omega
    · unfold At
      rw [h3]
      have : L.map (Value.int .u32) ++ cur.toList.drop L.length = cur.toList := by
        rw [← h7, Nat.mul_one, List.take_append_drop]
      rw [this]

end Go.Proofs.Ytkaaagggbclofaa
namespace Go.Proofs.Ytkaaagggbclofaa
open Go.RowKit Go.Sort Go.Deep

theorem row_set {w : World} {g k : Nat} {L : List Int} {X : List Value} {t : TypeId} {q : Int} (C : At w g ((L.map (Value.int .u32) ++ X).toArray.setIfInBounds k (.int .u32 q)) t) (hk : k < L.length) : RowN .u32 w g 0 (L.set k q) := by
  have hm : (L.set k q).map (Value.int .u32) ++ X = (L.map (Value.int .u32) ++ X).set k (.int .u32 q) := by
    rw [List.set_append_left _ _ (by simpa using hk), List.map_set]
  rw [List.setIfInBounds_toArray, ← hm] at C
  intro i x hi
  have hl : i < (L.set k q).length := (get_of hi).2
  rw [Nat.zero_add, C.cell i, List.getElem?_toArray, List.getElem?_append_left (by simpa using hl), List.getElem?_map, hi]; rfl
theorem own_low {k : IntKind} {e : TypeId} {w : World} {B g c : Nat} {L : List Int} (h : OwN k e w B (some ⟨g, 0, none⟩) c L) : B ≤ g := by
  rcases h.addr with ⟨h, _⟩ | ⟨g', h, h3, _⟩
  · cases h
  · injection h with h; injection h with h; omega
theorem cell_at {w : World} {g k : Nat} {L : List Int} {X : List Value} {t : TypeId} (C : At w g (L.map (Value.int .u32) ++ X).toArray t) (hk : k < L.length) : ∃ old, w.cell? ⟨g, k, none⟩ = some (.int .u32 old) :=
  ⟨L[k], by rw [C.cell k, List.getElem?_toArray, List.getElem?_append_left (by simpa using hk), List.getElem?_map, List.getElem?_eq_getElem hk]; rfl⟩

/-- What Set of the document does: the list behind, and the error. -/
def setL (L : List Int) (k : Nat) (q : Int) : List Int := if mayC q = true then L.set k q else L
def setE (q : Int) : Int := if mayC q = true then 0 else 1

end Go.Proofs.Ytkaaagggbclofaa
namespace Go.Proofs.Ytkaaagggbclofaa
open Go.RowKit Go.Sort Go.Shelf

theorem idx_w {y W x : Nat} (h : y * W + x ≤ 1000000) : wrap64 ((y : Int) * (W : Int)) = ((y * W : Nat) : Int) ∧ wrap64 (((y * W : Nat) : Int) + (x : Int)) = ((y * W + x : Nat) : Int) :=
  ⟨by rw [← Int.natCast_mul]; exact w64 (by omega) (by omega), by rw [← Int.natCast_add]; exact w64 (by omega) (by omega)⟩

theorem px_cell {cc v : Int} {k : Nat} (h : (px cc)[k]? = some v) : (#[.int .i64 (pA cc), .int .i64 (pR cc), .int .i64 (pG cc), .int .i64 (pB cc)] : Array Value)[k]? = some (.int .i64 v) := by
  match k with
  | 0 => simp [px] at h; simp [h]
  | 1 => simp [px] at h; simp [h]
  | 2 => simp [px] at h; simp [h]
  | 3 => simp [px] at h; simp [h]
  | n + 4 => simp [px] at h
theorem px_by {cc v : Int} {k : Nat} (hc : C32 cc) (h : (px cc)[k]? = some v) : 0 ≤ v ∧ v < 256 := by
  unfold C32 at hc
  match k with
  | 0 => simp [px, pA] at h; omega
  | 1 => simp [px, pR] at h; omega
  | 2 => simp [px, pG] at h; omega
  | 3 => simp [px, pB] at h; omega
  | n + 4 => simp [px] at h
theorem app_ne {w : World} {B bp c : Nat} {A : Option Addr} {L : List Int} {v a r g b : Int} {t e : TypeId} (h : OwN .u8 e w B A c (L ++ [v])) (hA : ∃ g, A = some ⟨g, 0, none⟩) (X : At w bp #[.int .i64 a, .int .i64 r, .int .i64 g, .int .i64 b] t) : some bp ≠ A.map (·.block) := by
  obtain ⟨k, rfl⟩ := hA
  intro he
  simp at he
  subst he
  obtain ⟨y, hy⟩ := list_at (l := L ++ [v]) (k := 0) (by simp)
  have h1 := h.row 0 y hy
  rw [Nat.zero_add, X.cell 0] at h1
  simp at h1

end Go.Proofs.Ytkaaagggbclofaa
namespace Go.Proofs.Ytkaaagggbclofaa
open Go.RowKit Go.Sort Go.Shelf

set_option maxRecDepth 100000 in
set_option maxHeartbeats 2000000 in
theorem rwriteR {W H g cc n nb cb : Nat} {A : Option Addr} (w : World) (a b c d : Int) (h : (!emptyB a b c d && coversB 0 0 W H a b c d) = false) :
    Calls Try.prog 38 #[.agg #[.int .i64 W, .int .i64 H, .slice (some ⟨g, 0, none⟩) n cc], .agg #[.int .i64 a, .int .i64 b, .int .i64 c, .int .i64 d], .slice A nb cb] w (Rt w (.tuple #[.agg #[.int .i64 W, .int .i64 H, .slice (some ⟨g, 0, none⟩) n cc], .int .i64 4])) := by
  have cbx := fun w => refBox1 (W := W) (H := H) (A := some ⟨g, 0, none⟩) (n := n) (c := cc) w
  have cv := fun w => refcovers1 0 0 W H a b c d w
  have ce := fun w => refempty1 a b c d w
  have G0 := ((((Gr.refl w).alloc (.cells #[.int .i64 W, .int .i64 H, .slice (some ⟨g, 0, none⟩) n cc] 78)).alloc (.cells #[.int .i64 a, .int .i64 b, .int .i64 c, .int .i64 d] 31)).alloc (.cells #[.int .i64 0, .int .i64 0, .slice none 0 0] 78))
  have M0 := ((At.new w #[.int .i64 W, .int .i64 H, .slice (some ⟨g, 0, none⟩) n cc] 78).alloc (.cells #[.int .i64 a, .int .i64 b, .int .i64 c, .int .i64 d] 31)).alloc (.cells #[.int .i64 0, .int .i64 0, .slice none 0 0] 78)
  have E0 := (At.newAt (w := w.alloc (.cells #[.int .i64 W, .int .i64 H, .slice (some ⟨g, 0, none⟩) n cc] 78)) (n := w.heap.size + 1) (by simp) #[.int .i64 a, .int .i64 b, .int .i64 c, .int .i64 d] 31).alloc (.cells #[.int .i64 0, .int .i64 0, .slice none 0 0] 78)
  have R0 := At.newAt (w := (w.alloc (.cells #[.int .i64 W, .int .i64 H, .slice (some ⟨g, 0, none⟩) n cc] 78)).alloc (.cells #[.int .i64 a, .int .i64 b, .int .i64 c, .int .i64 d] 31)) (n := w.heap.size + 1 + 1) (by simp) #[.int .i64 0, .int .i64 0, .slice none 0 0] 78
  go_enter Try.func38, Try.ntmps38
  go_wp2_with fail
  have m0 := fun q os => M0.cells q os 0; have m1 := fun q os => M0.cells q os 1; have m2 := fun q os => M0.cells q os 2
  have e0 := fun q os => E0.cells q os 0; have e1 := fun q os => E0.cells q os 1; have e2 := fun q os => E0.cells q os 2; have e3 := fun q os => E0.cells q os 3
  simp at m0 m1 m2 e0 e1 e2 e3
  refine wp_region_quiet_grown (by kernel_rfl) (by kernel_rfl) ?_
  repeat (first | go_big_quiet_step ((first | (go_at_call 31; exact Calls.grown (cbx _)) | (go_at_call 47; exact Calls.grown (cv _)))) | quiet_step ((first | (go_at_call 31; exact Calls.grown (cbx _)) | (go_at_call 47; exact Calls.grown (cv _)))))
  refine wpQuiet_nil ?_
  intro V g9
  replace g9 : Gr _ V := g9
  replace M0 := M0.gr g9
  replace E0 := E0.gr g9
  replace R0 := R0.gr g9
  replace G0 := G0.trans g9
  clear m0 m1 m2 e0 e1 e2 e3 g9 cbx cv
  obtain ⟨e0, e1, e2, e3⟩ := cells4 E0
  go_wp2_with fail
  refine (ce _).mono ?_
  rintro e v1 ⟨rfl, g1⟩
  replace M0 := M0.gr g1
  replace E0 := E0.gr g1
  replace R0 := R0.gr g1
  replace G0 := G0.trans g1
  clear e0 e1 e2 e3 g1 ce
  obtain ⟨e0, e1, e2, e3⟩ := cells4 E0
  obtain ⟨m0, m1, m2⟩ := cells3 M0
  obtain ⟨r0, r1, r2⟩ := cells3 R0
  obtain ⟨f0, f1, f2, _⟩ := free4 R0
  cases hE : emptyB a b c d
  · have hC : coversB 0 0 W H a b c d = false := by rw [hE] at h; simpa using h
    clear h
    go_wp2
    have P := R0.put3 (.int .i64 W) (.int .i64 H) (.slice (some ⟨g, 0, none⟩) n cc)
    have G := G0.put3 (k := w.heap.size + 1 + 1) (by omega) (.int .i64 W) (.int .i64 H) (.slice (some ⟨g, 0, none⟩) n cc)
    generalize ((v1.setCell ⟨w.heap.size + 1 + 1, 0, none⟩ (.int .i64 W)).setCell ⟨w.heap.size + 1 + 1, 1, none⟩ (.int .i64 H)).setCell ⟨w.heap.size + 1 + 1, 2, none⟩ (.slice (some ⟨g, 0, none⟩) n cc) = V9 at P G ⊢
    obtain ⟨d0, d1, d2⟩ := cells3 P
    exact bodyPost_ret (v := .tuple #[.agg #[.int .i64 W, .int .i64 H, .slice (some ⟨g, 0, none⟩) n cc], .int .i64 4]) (by simp [results, Try.results38, go_sem, d0, d1, d2]) rfl ⟨rfl, G⟩
  · clear h
    go_wp2
    have P := R0.put3 (.int .i64 W) (.int .i64 H) (.slice (some ⟨g, 0, none⟩) n cc)
    have G := G0.put3 (k := w.heap.size + 1 + 1) (by omega) (.int .i64 W) (.int .i64 H) (.slice (some ⟨g, 0, none⟩) n cc)
    generalize ((v1.setCell ⟨w.heap.size + 1 + 1, 0, none⟩ (.int .i64 W)).setCell ⟨w.heap.size + 1 + 1, 1, none⟩ (.int .i64 H)).setCell ⟨w.heap.size + 1 + 1, 2, none⟩ (.slice (some ⟨g, 0, none⟩) n cc) = V9 at P G ⊢
    obtain ⟨d0, d1, d2⟩ := cells3 P
    exact bodyPost_ret (v := .tuple #[.agg #[.int .i64 W, .int .i64 H, .slice (some ⟨g, 0, none⟩) n cc], .int .i64 4]) (by simp [results, Try.results38, go_sem, d0, d1, d2]) rfl ⟨rfl, G⟩

set_option maxRecDepth 100000 in
set_option maxHeartbeats 2000000 in
theorem rwriteL {W H g cc n nb cb : Nat} {A : Option Addr} (w : World) (w2 : W ≤ 256) (h2 : H ≤ 256) (a b c d : Int) (h : (!emptyB a b c d && coversB 0 0 W H a b c d) = true) (v : Int)
    (hv : ((nb : Int) < 4 * areaI a b c d ∧ v = 3) ∨ (4 * areaI a b c d < (nb : Int) ∧ v = 2)) :
    Calls Try.prog 38 #[.agg #[.int .i64 W, .int .i64 H, .slice (some ⟨g, 0, none⟩) n cc], .agg #[.int .i64 a, .int .i64 b, .int .i64 c, .int .i64 d], .slice A nb cb] w (Rt w (.tuple #[.agg #[.int .i64 W, .int .i64 H, .slice (some ⟨g, 0, none⟩) n cc], .int .i64 v])) := by
  obtain ⟨hmay, hb⟩ := may_in h w2 h2
  have hbd := area_bd hmay
  have car := fun w => refarea1 a b c d w hmay
  change 0 ≤ areaI a b c d ∧ areaI a b c d ≤ 4398046511104 at hbd
  obtain ⟨hbd1, hbd2⟩ := hbd
  have hE : emptyB a b c d = false := by
    cases hE : emptyB a b c d
    · rfl
    · rw [hE] at h; cases h
  have hC : coversB 0 0 W H a b c d = true := by rw [hE] at h; simpa using h
  clear h hmay hb
  generalize areaI a b c d = ar at *
  have wr4 : IntKind.i64.wrap (4 * ar) = 4 * ar := IntWalk.i64_in _ (by omega)
  have cbx := fun w => refBox1 (W := W) (H := H) (A := some ⟨g, 0, none⟩) (n := n) (c := cc) w
  have cv := fun w => refcovers1 0 0 W H a b c d w
  have ce := fun w => refempty1 a b c d w
  have G0 := ((((Gr.refl w).alloc (.cells #[.int .i64 W, .int .i64 H, .slice (some ⟨g, 0, none⟩) n cc] 78)).alloc (.cells #[.int .i64 a, .int .i64 b, .int .i64 c, .int .i64 d] 31)).alloc (.cells #[.int .i64 0, .int .i64 0, .slice none 0 0] 78))
  have M0 := ((At.new w #[.int .i64 W, .int .i64 H, .slice (some ⟨g, 0, none⟩) n cc] 78).alloc (.cells #[.int .i64 a, .int .i64 b, .int .i64 c, .int .i64 d] 31)).alloc (.cells #[.int .i64 0, .int .i64 0, .slice none 0 0] 78)
  have E0 := (At.newAt (w := w.alloc (.cells #[.int .i64 W, .int .i64 H, .slice (some ⟨g, 0, none⟩) n cc] 78)) (n := w.heap.size + 1) (by simp) #[.int .i64 a, .int .i64 b, .int .i64 c, .int .i64 d] 31).alloc (.cells #[.int .i64 0, .int .i64 0, .slice none 0 0] 78)
  have R0 := At.newAt (w := (w.alloc (.cells #[.int .i64 W, .int .i64 H, .slice (some ⟨g, 0, none⟩) n cc] 78)).alloc (.cells #[.int .i64 a, .int .i64 b, .int .i64 c, .int .i64 d] 31)) (n := w.heap.size + 1 + 1) (by simp) #[.int .i64 0, .int .i64 0, .slice none 0 0] 78
  go_enter Try.func38, Try.ntmps38
  go_wp2_with fail
  have m0 := fun q os => M0.cells q os 0; have m1 := fun q os => M0.cells q os 1; have m2 := fun q os => M0.cells q os 2
  have e0 := fun q os => E0.cells q os 0; have e1 := fun q os => E0.cells q os 1; have e2 := fun q os => E0.cells q os 2; have e3 := fun q os => E0.cells q os 3
  simp at m0 m1 m2 e0 e1 e2 e3
  refine wp_region_quiet_grown (by kernel_rfl) (by kernel_rfl) ?_
  repeat (first | go_big_quiet_step ((first | (go_at_call 31; exact Calls.grown (cbx _)) | (go_at_call 47; exact Calls.grown (cv _)))) | quiet_step ((first | (go_at_call 31; exact Calls.grown (cbx _)) | (go_at_call 47; exact Calls.grown (cv _)))))
  refine wpQuiet_nil ?_
  intro V g9
  replace g9 : Gr _ V := g9
  replace M0 := M0.gr g9
  replace E0 := E0.gr g9
  replace R0 := R0.gr g9
  replace G0 := G0.trans g9
  clear m0 m1 m2 e0 e1 e2 e3 g9 cbx cv
  obtain ⟨e0, e1, e2, e3⟩ := cells4 E0
  go_wp2_with fail
  refine (ce _).mono ?_
  rintro e v1 ⟨rfl, g1⟩
  replace M0 := M0.gr g1
  replace E0 := E0.gr g1
  replace R0 := R0.gr g1
  replace G0 := G0.trans g1
  clear e0 e1 e2 e3 g1 ce
  obtain ⟨e0, e1, e2, e3⟩ := cells4 E0
  obtain ⟨m0, m1, m2⟩ := cells3 M0
  obtain ⟨r0, r1, r2⟩ := cells3 R0
  obtain ⟨f0, f1, f2, _⟩ := free4 R0
  go_wp2_with fail
  refine (car _).mono ?_
  rintro e v2 ⟨rfl, g2⟩
  replace M0 := M0.gr g2
  replace R0 := R0.gr g2
  replace G0 := G0.trans g2
  clear e0 e1 e2 e3 m0 m1 m2 r0 r1 r2 f0 f1 f2 g2 car E0
  obtain ⟨m0, m1, m2⟩ := cells3 M0
  obtain ⟨r0, r1, r2⟩ := cells3 R0
  obtain ⟨f0, f1, f2, _⟩ := free4 R0
  rcases hv with ⟨hv, rfl⟩ | ⟨hv, rfl⟩
  · go_wp2
    have P := R0.put3 (.int .i64 W) (.int .i64 H) (.slice (some ⟨g, 0, none⟩) n cc)
    have G := G0.put3 (k := w.heap.size + 1 + 1) (by omega) (.int .i64 W) (.int .i64 H) (.slice (some ⟨g, 0, none⟩) n cc)
    generalize ((v2.setCell ⟨w.heap.size + 1 + 1, 0, none⟩ (.int .i64 W)).setCell ⟨w.heap.size + 1 + 1, 1, none⟩ (.int .i64 H)).setCell ⟨w.heap.size + 1 + 1, 2, none⟩ (.slice (some ⟨g, 0, none⟩) n cc) = V9 at P G ⊢
    obtain ⟨d0, d1, d2⟩ := cells3 P
    exact bodyPost_ret (v := .tuple #[.agg #[.int .i64 W, .int .i64 H, .slice (some ⟨g, 0, none⟩) n cc], .int .i64 3]) (by simp [results, Try.results38, go_sem, d0, d1, d2]) rfl ⟨rfl, G⟩
  · have hv2 : ¬ (nb : Int) < 4 * ar := by omega
    go_wp2
    have P := R0.put3 (.int .i64 W) (.int .i64 H) (.slice (some ⟨g, 0, none⟩) n cc)
    have G := G0.put3 (k := w.heap.size + 1 + 1) (by omega) (.int .i64 W) (.int .i64 H) (.slice (some ⟨g, 0, none⟩) n cc)
    generalize ((v2.setCell ⟨w.heap.size + 1 + 1, 0, none⟩ (.int .i64 W)).setCell ⟨w.heap.size + 1 + 1, 1, none⟩ (.int .i64 H)).setCell ⟨w.heap.size + 1 + 1, 2, none⟩ (.slice (some ⟨g, 0, none⟩) n cc) = V9 at P G ⊢
    obtain ⟨d0, d1, d2⟩ := cells3 P
    exact bodyPost_ret (v := .tuple #[.agg #[.int .i64 W, .int .i64 H, .slice (some ⟨g, 0, none⟩) n cc], .int .i64 2]) (by simp [results, Try.results38, go_sem, d0, d1, d2]) rfl ⟨rfl, G⟩

end Go.Proofs.Ytkaaagggbclofaa
