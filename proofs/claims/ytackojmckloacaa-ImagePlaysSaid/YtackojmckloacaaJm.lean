/-
  What is proved: plain mathematics: what is copied row by row, and written row by row, is what the document copies, and writes, point by point. No program.
-/
import Derived.Test.YtackojmckloacaaJc
import Derived.Test.YtackojmckloacaaQm
namespace Go.Proofs.Ytackojmckloacaa
open Go.RowKit Go.Sort

/-- Does a point get a color of the other image; and which one it has then. -/
def cpP (W W2 H2 : Nat) (a b c d dx dy : Int) (k : Nat) : Bool := hasB 0 0 W2 H2 ((k % W : Nat) - dx) ((k / W : Nat) - dy) && hasB a b c d ((k % W : Nat) - dx) ((k / W : Nat) - dy)
def cpF (W W2 H2 : Nat) (a b c d dx dy : Int) (L L2 : List Int) (k : Nat) : Int := if cpP W W2 H2 a b c d dx dy k = true then L2.getD (((k / W : Nat) - dy).toNat * W2 + ((k % W : Nat) - dx).toNat) 0 else L.getD k 0

theorem cpP_iff {W H W2 H2 a0 b0 a1 b1 x0 y0 x1 y1 u0 v0 : Nat} {a b c d dx dy : Int} (w1 : 1 ≤ W) (ha : a1 ≤ W2) (hb : b1 ≤ H2)
    (h1 : ∀ p q : Nat, p < W2 → q < H2 → hasB a b c d p q = decide (a0 ≤ p ∧ p < a1 ∧ b0 ≤ q ∧ q < b1))
    (h2 : ∀ p q : Nat, p < W → q < H → ((a0 : Int) ≤ p - dx ∧ (p : Int) - dx < a1 ∧ (b0 : Int) ≤ q - dy ∧ (q : Int) - dy < b1 ↔ y0 < y1 ∧ u0 ≤ p ∧ p < u0 + (x1 - x0) ∧ v0 ≤ q ∧ q < v0 + (y1 - y0)))
    {k : Nat} (hk : k < W * H) : cpP W W2 H2 a b c d dx dy k = true ↔ y0 < y1 ∧ u0 ≤ k % W ∧ k % W < u0 + (x1 - x0) ∧ v0 ≤ k / W ∧ k / W < v0 + (y1 - y0) := by
  obtain ⟨d1, d2, _⟩ := div_of w1 hk
  rw [← h2 _ _ d1 d2]
  unfold cpP
  generalize ((k % W : Nat) : Int) - dx = px
  generalize ((k / W : Nat) : Int) - dy = qy
  rw [Bool.and_eq_true]
  constructor
  · rintro ⟨h3, h4⟩
    simp [hasB] at h3
    have := h1 px.toNat qy.toNat (by omega) (by omega)
    rw [show ((px.toNat : Nat) : Int) = px by omega, show ((qy.toNat : Nat) : Int) = qy by omega] at this
    rw [this] at h4
    have := of_decide_eq_true h4
    omega
  · intro h3
    have h5 : hasB 0 0 W2 H2 px qy = true := by simp [hasB]; omega
    refine ⟨h5, ?_⟩
    have := h1 px.toNat qy.toNat (by omega) (by omega)
    rw [show ((px.toNat : Nat) : Int) = px by omega, show ((qy.toNat : Nat) : Int) = qy by omega] at this
    rw [this]
    exact decide_eq_true (by omega)

theorem cp_eq {W H W2 H2 a0 b0 a1 b1 x0 y0 x1 y1 u0 v0 : Nat} {a b c d dx dy : Int} {L L2 : List Int} {ts : List Nat} (hl : L.length = W * H) (hl2 : L2.length = W2 * H2) (w1 : 1 ≤ W) (ha : a1 ≤ W2) (hb : b1 ≤ H2) (hx : y0 < y1 → x0 < x1) (hw : x1 ≤ W2) (hh : y1 ≤ H2)
    (hu : y0 < y1 → (u0 : Int) = x0 + dx ∧ (v0 : Int) = y0 + dy ∧ u0 + (x1 - x0) ≤ W) (hts : ∀ t, t ∈ ts ↔ t < y1 - y0)
    (h1 : ∀ p q : Nat, p < W2 → q < H2 → hasB a b c d p q = decide (a0 ≤ p ∧ p < a1 ∧ b0 ≤ q ∧ q < b1))
    (h2 : ∀ p q : Nat, p < W → q < H → ((a0 : Int) ≤ p - dx ∧ (p : Int) - dx < a1 ∧ (b0 : Int) ≤ q - dy ∧ (q : Int) - dy < b1 ↔ y0 < y1 ∧ u0 ≤ p ∧ p < u0 + (x1 - x0) ∧ v0 ≤ q ∧ q < v0 + (y1 - y0))) :
    cpAll W W2 u0 v0 x0 y0 (x1 - x0) L2 L ts = upto (cpF W W2 H2 a b c d dx dy L L2) L.length := by
  apply List.ext_getElem?
  intro k
  rw [upto_get]
  by_cases hk : k < L.length
  · rw [if_pos hk]
    have hk' : k < W * H := by omega
    rw [cp_point hl w1 hx hw (row_in (by rw [hl2, Nat.mul_comm] : L2.length = W2 * H2) hw hh) hu hts hk']
    have hi := cpP_iff w1 ha hb h1 h2 hk'
    unfold cpF
    by_cases hp : cpP W W2 H2 a b c d dx dy k = true
    · rw [if_pos hp]
      have hc := hi.1 hp
      rw [if_pos hc]
      obtain ⟨e1, e2, e3⟩ := hu hc.1
      have hxx := hx hc.1
      have hlt : (((k / W : Nat) : Int) - dy).toNat * W2 + (((k % W : Nat) : Int) - dx).toNat < L2.length := by
        rw [hl2]
        exact row_of (by omega) (by omega)
      rw [List.getD_eq_getElem?_getD, List.getElem?_eq_getElem hlt]; rfl
    · rw [if_neg hp, if_neg (fun h => hp (hi.2 h)), List.getD_eq_getElem?_getD, List.getElem?_eq_getElem hk]; rfl
  · rw [if_neg hk, List.getElem?_eq_none (by rw [cpAll_len]; omega)]

theorem cntI_congr {p q : Nat → Bool} : ∀ {n : Nat}, (∀ k, k < n → p k = q k) → cntI p n = cntI q n
  | 0, _ => by simp [cntI]
  | n + 1, h => by rw [cntI_succ, cntI_succ, cntI_congr (fun k hk => h k (by omega)), h n (by omega)]
theorem cntI_none {p : Nat → Bool} : ∀ {n : Nat}, (∀ k, k < n → p k = false) → cntI p n = 0
  | 0, _ => by simp [cntI]
  | n + 1, h => by rw [cntI_succ, cntI_none (fun k hk => h k (by omega)), h n (by omega)]; rfl
theorem cp_cnt {W H W2 H2 a0 b0 a1 b1 x0 y0 x1 y1 u0 v0 : Nat} {a b c d dx dy : Int} (w1 : 1 ≤ W) (ha : a1 ≤ W2) (hb : b1 ≤ H2) (hx0 : x0 ≤ x1) (hy : y0 ≤ y1)
    (hu : y0 < y1 → u0 + (x1 - x0) ≤ W ∧ v0 + (y1 - y0) ≤ H)
    (h1 : ∀ p q : Nat, p < W2 → q < H2 → hasB a b c d p q = decide (a0 ≤ p ∧ p < a1 ∧ b0 ≤ q ∧ q < b1))
    (h2 : ∀ p q : Nat, p < W → q < H → ((a0 : Int) ≤ p - dx ∧ (p : Int) - dx < a1 ∧ (b0 : Int) ≤ q - dy ∧ (q : Int) - dy < b1 ↔ y0 < y1 ∧ u0 ≤ p ∧ p < u0 + (x1 - x0) ∧ v0 ≤ q ∧ q < v0 + (y1 - y0))) :
    ((cntI (cpP W W2 H2 a b c d dx dy) (W * H) : Nat) : Int) = areaI x0 y0 x1 y1 := by
  by_cases hyy : y0 < y1
  · obtain ⟨e1, e2⟩ := hu hyy
    have hc := cnt_area (W := W) (H := H) (x0 := u0) (x1 := u0 + (x1 - x0)) (y0 := v0) (y1 := v0 + (y1 - y0)) (p := fun i j => decide (u0 ≤ i ∧ i < u0 + (x1 - x0) ∧ v0 ≤ j ∧ j < v0 + (y1 - y0))) w1 (by omega) e1 (by omega) e2 (fun i j _ _ => rfl)
    have hcc : cntI (cpP W W2 H2 a b c d dx dy) (W * H) = cntI (fun i => decide (u0 ≤ i % W ∧ i % W < u0 + (x1 - x0) ∧ v0 ≤ i / W ∧ i / W < v0 + (y1 - y0))) (W * H) := by
      refine cntI_congr (fun k hk => ?_)
      rw [Bool.eq_iff_iff, cpP_iff w1 ha hb h1 h2 hk, decide_eq_true_iff]
      exact ⟨fun h => h.2, fun h => ⟨hyy, h⟩⟩
    rw [hcc, hc]
    unfold areaI
    rw [show ((u0 + (x1 - x0) : Nat) : Int) - (u0 : Int) = (x1 : Int) - x0 by omega, show ((v0 + (y1 - y0) : Nat) : Int) - (v0 : Int) = (y1 : Int) - y0 by omega]
  · have hz : y0 = y1 := by omega
    have hcc : cntI (cpP W W2 H2 a b c d dx dy) (W * H) = 0 := by
      refine cntI_none (fun k hk => ?_)
      have := cpP_iff w1 ha hb h1 h2 hk
      cases hp : cpP W W2 H2 a b c d dx dy k
      · rfl
      · exact absurd (this.1 hp).1 hyy
    rw [hcc]
    unfold areaI
    rw [hz]; simp

/-- What the document writes, point by point. -/
def wrL (W x0 y0 m : Nat) (L bs : List Int) (k : Nat) : List Int := (List.range k).foldl (fun l i => l.set ((y0 + i / m) * W + x0 + i % m) (colAt bs i)) L
theorem wrL_succ (W x0 y0 m : Nat) (L bs : List Int) (k : Nat) : wrL W x0 y0 m L bs (k + 1) = (wrL W x0 y0 m L bs k).set ((y0 + k / m) * W + x0 + k % m) (colAt bs k) := by
  unfold wrL; rw [List.range_succ, List.foldl_append]; rfl
theorem wrL_len (W x0 y0 m : Nat) (L bs : List Int) : ∀ k, (wrL W x0 y0 m L bs k).length = L.length
  | 0 => rfl
  | k + 1 => by rw [wrL_succ, List.length_set, wrL_len W x0 y0 m L bs k]
theorem idx_iff {W x0 y0 m p k : Nat} (h1 : 1 ≤ W) (hm : 0 < m) (hx : x0 + m ≤ W) : (y0 + k / m) * W + x0 + k % m = p ↔ x0 ≤ p % W ∧ p % W < x0 + m ∧ y0 ≤ p / W ∧ (p / W - y0) * m + (p % W - x0) = k := by
  have hk := Nat.div_add_mod k m
  have hkm := Nat.mod_lt k hm
  have hp := Nat.div_add_mod p W
  constructor
  · intro h
    have hlt : x0 + k % m < W := by omega
    have h' : W * (y0 + k / m) + (x0 + k % m) = p := by rw [← h, Nat.mul_comm W]; omega
    have e1 : p / W = y0 + k / m := by
      rw [← h', Nat.mul_add_div (show 0 < W by omega), Nat.div_eq_of_lt hlt]; omega
    have e2 : p % W = x0 + k % m := by
      rw [← h', Nat.mul_add_mod, Nat.mod_eq_of_lt hlt]
    refine ⟨by omega, by omega, by rw [e1]; exact Nat.le_add_right _ _, ?_⟩
    rw [e1, e2, Nat.add_sub_cancel_left, Nat.add_sub_cancel_left, Nat.mul_comm (k / m) m]; exact hk
  · rintro ⟨q1, q2, q3, q4⟩
    have hlt : p % W - x0 < m := by omega
    have h' : m * (p / W - y0) + (p % W - x0) = k := by rw [← q4, Nat.mul_comm m]
    have e1 : k / m = p / W - y0 := by
      rw [← h', Nat.mul_add_div hm, Nat.div_eq_of_lt hlt]; omega
    have e2 : k % m = p % W - x0 := by
      rw [← h', Nat.mul_add_mod, Nat.mod_eq_of_lt hlt]
    rw [e1, e2, show y0 + (p / W - y0) = p / W by omega, Nat.add_assoc, show x0 + (p % W - x0) = p % W by omega, Nat.mul_comm (p / W) W]; exact hp
theorem wrL_get {W x0 y0 m : Nat} {L bs : List Int} (h1 : 1 ≤ W) (hm : 0 < m) (hx : x0 + m ≤ W) (p : Nat) : ∀ k, (wrL W x0 y0 m L bs k)[p]? = if p < L.length ∧ x0 ≤ p % W ∧ p % W < x0 + m ∧ y0 ≤ p / W ∧ (p / W - y0) * m + (p % W - x0) < k then some (colAt bs ((p / W - y0) * m + (p % W - x0))) else L[p]?
  | 0 => by rw [if_neg (by omega)]; rfl
  | k + 1 => by
    have hi := idx_iff (y0 := y0) (p := p) (k := k) h1 hm hx
    rw [wrL_succ, List.getElem?_set, wrL_len]
    by_cases hq : (y0 + k / m) * W + x0 + k % m = p
    · obtain ⟨q1, q2, q3, q4⟩ := hi.1 hq
      rw [if_pos hq]
      by_cases hp : p < L.length
      · rw [if_pos (by rw [hq]; exact hp), if_pos ⟨hp, q1, q2, q3, by omega⟩, q4]
      · rw [if_neg (by rw [hq]; exact hp), if_neg (fun h => hp h.1), List.getElem?_eq_none (by omega)]
    · rw [if_neg hq, wrL_get h1 hm hx p k]
      by_cases hc : p < L.length ∧ x0 ≤ p % W ∧ p % W < x0 + m ∧ y0 ≤ p / W ∧ (p / W - y0) * m + (p % W - x0) < k
      · rw [if_pos hc, if_pos ⟨hc.1, hc.2.1, hc.2.2.1, hc.2.2.2.1, by omega⟩]
      · rw [if_neg hc, if_neg]
        rintro ⟨c1, c2, c3, c4, c5⟩
        rcases Nat.lt_or_ge ((p / W - y0) * m + (p % W - x0)) k with h | h
        · exact hc ⟨c1, c2, c3, c4, h⟩
        · exact hq (hi.2 ⟨c2, c3, c4, by omega⟩)
theorem rows_cols {W H x0 y0 m N : Nat} {L bs : List Int} (h1 : 1 ≤ W) (hm : 0 < m) (hx : x0 + m ≤ W) (hl : L.length = W * H) : ∀ h, y0 + h ≤ H → m * h ≤ N → rowsL W x0 m (wrL W x0 y0 m L bs N) (List.range' y0 h) = colsL bs (m * h)
  | 0, _, _ => by simp [rowsL, colsL]
  | h + 1, hh, hN => by
    have hmh : m * (h + 1) = m * h + m := Nat.mul_succ m h
    have ih := rows_cols (H := H) (y0 := y0) (bs := bs) (N := N) h1 hm hx hl h (by omega) (by omega)
    have hstep : rowsL W x0 m (wrL W x0 y0 m L bs N) (List.range' y0 (h + 1)) = rowsL W x0 m (wrL W x0 y0 m L bs N) (List.range' y0 h) ++ ((wrL W x0 y0 m L bs N).drop ((y0 + h) * W + x0)).take m := by
      rw [List.range'_1_concat]; simp [rowsL]
    rw [hstep, ih]
    apply List.ext_getElem?
    intro t
    by_cases ht : t < m * h
    · rw [List.getElem?_append_left (by rw [colsL_len]; exact ht), colsL_at ht, colsL_at (by omega)]
    · rw [List.getElem?_append_right (by rw [colsL_len]; omega), colsL_len, List.getElem?_take]
      by_cases ht2 : t - m * h < m
      · rw [if_pos ht2, List.getElem?_drop, wrL_get h1 hm hx]
        have hp := row_of (show x0 + (t - m * h) < W by omega) (show y0 + h < H by omega)
        have e0 : (y0 + h) * W + x0 + (t - m * h) = W * (y0 + h) + (x0 + (t - m * h)) := by rw [Nat.mul_comm]; omega
        have e1 : ((y0 + h) * W + x0 + (t - m * h)) / W = y0 + h := by rw [e0, Nat.mul_add_div (by omega), Nat.div_eq_of_lt (by omega), Nat.add_zero]
        have e2 : ((y0 + h) * W + x0 + (t - m * h)) % W = x0 + (t - m * h) := by rw [e0, Nat.mul_add_mod, Nat.mod_eq_of_lt (by omega)]
        rw [e1, e2, show y0 + h - y0 = h by omega, show x0 + (t - m * h) - x0 = t - m * h by omega, Nat.mul_comm h m, show m * h + (t - m * h) = t by omega, if_pos ⟨by omega, by omega, by omega, by omega, by omega⟩, colsL_at (by omega)]
      · rw [if_neg ht2, List.getElem?_eq_none (by rw [colsL_len]; omega)]
theorem wr_eq {W H x0 x1 y0 y1 N : Nat} {L bs : List Int} (hl : L.length = W * H) (h1 : 1 ≤ W) (hx : x0 < x1) (hw : x1 ≤ W) (hy : y0 < y1) (hh : y1 ≤ H) (hN : N = (x1 - x0) * (y1 - y0)) :
    (wrS W x0 (x1 - x0) (L, colsL bs N) (List.range' y0 (y1 - y0))).1 = wrL W x0 y0 (x1 - x0) L bs N := by
  have hr := rows_cols (H := H) (x0 := x0) (y0 := y0) (m := x1 - x0) (bs := bs) (N := N) h1 (by omega) (by omega) hl (y1 - y0) (by omega) (by omega)
  rw [← hN] at hr
  rw [← hr]
  apply List.ext_getElem?
  intro p
  rw [wrS_get h1 (by omega) hw (List.range' y0 (y1 - y0)) L (fun y hy => by
    have h3 := List.mem_range'_1.1 hy
    have := row_of (show x1 - 1 < W by omega) (show y < H by omega)
    rw [wrL_len, hl]; omega) (wrL_len _ _ _ _ _ _ _).symm p]
  by_cases hc : x0 ≤ p % W ∧ p % W < x1 ∧ p / W ∈ List.range' y0 (y1 - y0)
  · rw [if_pos hc]
  · rw [if_neg hc, wrL_get h1 (by omega) (by omega), if_neg]
    rintro ⟨c1, c2, c3, c4, c5⟩
    refine hc ⟨c2, by omega, List.mem_range'_1.2 ⟨c4, ?_⟩⟩
    rw [hN] at c5
    rcases Nat.lt_or_ge (p / W) (y0 + (y1 - y0)) with h | h
    · exact h
    · have := Nat.mul_le_mul_left (x1 - x0) (show y1 - y0 ≤ p / W - y0 by omega)
      rw [Nat.mul_comm (x1 - x0) (p / W - y0)] at this
      omega

end Go.Proofs.Ytackojmckloacaa
