/-
  What is proved: the statement ImageCopies: what is copied there is told there, all else stays. No conditions.
-/
import Derived.Test.YtackojmckloacaaIw
import Derived.Test.YtackojmckloacaaIk
import Derived.Test.YtackojmckloacaaId
namespace Go.Proofs.Ytackojmckloacaa
open Go.ChangeShapes Go.WideShapes Go.ChangeAt Go.RowKit Go.Joins Go.Sort

/-- What of a rectangle of one image goes into another one. -/
theorem cut_shift (a0 b0 a1 b1 W H W2 H2 : Nat) (dx dy : Int) (ha : a0 ≤ a1) (hb : b0 ≤ b1) (hw : a1 ≤ W2) (hh : b1 ≤ H2) (_hab : b0 < b1 → a0 < a1) (W1 : 1 ≤ W) (H1 : 1 ≤ H) :
    ∃ x0 y0 x1 y1 u0 v0 : Nat, cutR a0 b0 a1 b1 (-dx) (-dy) (W - dx) (H - dy) = ⟨x0, y0, x1, y1⟩ ∧ x0 ≤ x1 ∧ (y0 < y1 → x0 < x1) ∧ y0 ≤ y1 ∧ x1 ≤ W2 ∧ y1 ≤ H2 ∧
      (y0 < y1 → (u0 : Int) = x0 + dx ∧ (v0 : Int) = y0 + dy ∧ u0 + (x1 - x0) ≤ W ∧ v0 + (y1 - y0) ≤ H) ∧
      ∀ p q : Nat, p < W → q < H → ((a0 : Int) ≤ p - dx ∧ (p : Int) - dx < a1 ∧ (b0 : Int) ≤ q - dy ∧ (q : Int) - dy < b1 ↔ y0 < y1 ∧ u0 ≤ p ∧ p < u0 + (x1 - x0) ∧ v0 ≤ q ∧ q < v0 + (y1 - y0)) := by
  by_cases e : emptyB (max a0 (-dx)) (max b0 (-dy)) (min a1 (W - dx)) (min b1 (H - dy)) = true
  · refine ⟨0, 0, 0, 0, 0, 0, by unfold cutR; rw [if_pos e]; rfl, by omega, by omega, by omega, by omega, by omega, by omega, fun p q hp hq => ?_⟩
    simp [emptyB] at e
    omega
  · have e' := e
    simp [emptyB] at e'
    refine ⟨(max (a0 : Int) (-dx)).toNat, (max (b0 : Int) (-dy)).toNat, (min (a1 : Int) (W - dx)).toNat, (min (b1 : Int) (H - dy)).toNat, (max (a0 : Int) (-dx) + dx).toNat, (max (b0 : Int) (-dy) + dy).toNat, ?_, by omega, by omega, by omega, by omega, by omega, by omega, fun p q hp hq => by omega⟩
    unfold cutR; rw [if_neg e]
    rw [show (((max (a0 : Int) (-dx)).toNat : Nat) : Int) = max (a0 : Int) (-dx) by omega, show (((max (b0 : Int) (-dy)).toNat : Nat) : Int) = max (b0 : Int) (-dy) by omega, show (((min (a1 : Int) (W - dx)).toNat : Nat) : Int) = min (a1 : Int) (W - dx) by omega, show (((min (b1 : Int) (H - dy)).toNat : Nat) : Int) = min (b1 : Int) (H - dy) by omega]

/-- What an image of copied rows has at a point. -/
theorem cp_point {W H W2 x0 y0 x1 y1 u0 v0 : Nat} {L L2 : List Int} {dx dy : Int} {ts : List Nat} (hl : L.length = W * H) (w1 : 1 ≤ W) (hx : y0 < y1 → x0 < x1) (_hw : x1 ≤ W2) (hL2 : ∀ y, y < y1 → y * W2 + x1 ≤ L2.length)
    (hu : y0 < y1 → (u0 : Int) = x0 + dx ∧ (v0 : Int) = y0 + dy ∧ u0 + (x1 - x0) ≤ W) (hts : ∀ t, t ∈ ts ↔ t < y1 - y0) {k : Nat} (hk : k < W * H) :
    (cpAll W W2 u0 v0 x0 y0 (x1 - x0) L2 L ts)[k]? = if y0 < y1 ∧ u0 ≤ k % W ∧ k % W < u0 + (x1 - x0) ∧ v0 ≤ k / W ∧ k / W < v0 + (y1 - y0) then L2[((k / W : Nat) - dy).toNat * W2 + ((k % W : Nat) - dx).toNat]? else L[k]? := by
  by_cases hy : y0 < y1
  · obtain ⟨h1, h2, h3⟩ := hu hy
    have hxx := hx hy
    rw [cpAll_get (h := y1 - y0) w1 h3 (fun t ht => by have := hL2 (y0 + t) (by omega); omega) ts L k (fun t ht => (hts t).1 ht)]
    by_cases c : u0 ≤ k % W ∧ k % W < u0 + (x1 - x0) ∧ v0 ≤ k / W ∧ k / W < v0 + (y1 - y0)
    · rw [if_pos ⟨by omega, c.1, c.2.1, c.2.2.1, (hts _).2 (by omega)⟩, if_pos ⟨hy, c⟩]
      rw [show y0 + (k / W - v0) = ((k / W : Nat) - dy).toNat by omega, Nat.add_assoc, show x0 + (k % W - u0) = ((k % W : Nat) - dx).toNat by omega]
    · rw [if_neg (fun q => c ⟨q.2.1, q.2.2.1, q.2.2.2.1, by have := (hts _).1 q.2.2.2.2; omega⟩), if_neg (fun q => c q.2)]
  · rw [if_neg (fun q => hy q.1)]
    have : ts = [] := by
      cases ts with
      | nil => rfl
      | cons t ts => have := (hts t).1 List.mem_cons_self; omega
    subst this; rfl

theorem lt16 {i W : Nat} (h : i < W) (k : W ≤ 16) : (i : Int) < 16 := by omega
theorem d12 {a d : Int} (h : a - 12 = d) (h1 : 0 ≤ a) (h2 : a < 25) : -12 ≤ d ∧ d ≤ 12 := by omega
theorem row_in {W H x1 y1 : Nat} {L2 : List Int} (hl : L2.length = H * W) (hx : x1 ≤ H) (hy : y1 ≤ W) : ∀ y, y < y1 → y * H + x1 ≤ L2.length := by
  intro q hq
  have h := Nat.mul_le_mul_right H (show q + 1 ≤ W by omega)
  rw [Nat.add_mul, Nat.mul_comm W H] at h
  rw [hl]; omega
/-- What the law finds at a point. -/
theorem cp_cases {W H i j a0 b0 a1 b1 x0 x1 y0 y1 u0 v0 : Nat} {sa sb sc sd dx dy cl1 : Int} {F2 : List Int} {X : Option Int} (hl : F2.length = H * W) (ha : a1 ≤ H) (hb : b1 ≤ W) (hi : i < W) (hj : j < H)
    (h1 : ∀ p q : Nat, p < H → q < W → hasB sa sb sc sd p q = decide (a0 ≤ p ∧ p < a1 ∧ b0 ≤ q ∧ q < b1))
    (h2 : ∀ p q : Nat, p < W → q < H → ((a0 : Int) ≤ p - dx ∧ (p : Int) - dx < a1 ∧ (b0 : Int) ≤ q - dy ∧ (q : Int) - dy < b1 ↔ y0 < y1 ∧ u0 ≤ p ∧ p < u0 + (x1 - x0) ∧ v0 ≤ q ∧ q < v0 + (y1 - y0)))
    (hX : X = if y0 < y1 ∧ u0 ≤ i ∧ i < u0 + (x1 - x0) ∧ v0 ≤ j ∧ j < v0 + (y1 - y0) then F2[((j : Int) - dy).toNat * H + ((i : Int) - dx).toNat]? else some cl1) :
    (hasB 0 0 H W ((i : Int) - dx) ((j : Int) - dy) = false ∧ X = some cl1) ∨ ∃ (p q : Nat) (cl2 : Int), p < H ∧ q < W ∧ (i : Int) - dx = p ∧ (j : Int) - dy = q ∧ F2[q * H + p]? = some cl2 ∧
      ((hasB sa sb sc sd ((i : Int) - dx) ((j : Int) - dy) = true ∧ X = some cl2) ∨ (hasB sa sb sc sd ((i : Int) - dx) ((j : Int) - dy) = false ∧ X = some cl1)) := by
  have h2' := h2 i j hi hj
  simp only [← h2'] at hX
  clear h2 h2'
  generalize hpx : (i : Int) - dx = px at *
  generalize hqy : (j : Int) - dy = qy at *
  by_cases hh : hasB 0 0 H W px qy = true
  · right
    simp [hasB] at hh
    refine ⟨px.toNat, qy.toNat, ?_⟩
    have hp : px.toNat < H := by omega
    have hq : qy.toNat < W := by omega
    obtain ⟨cl2, hc⟩ := list_at (l := F2) (k := qy.toNat * H + px.toNat) (by rw [hl]; exact row_of hp hq)
    refine ⟨cl2, hp, hq, by omega, by omega, hc, ?_⟩
    have := h1 px.toNat qy.toNat hp hq
    rw [show ((px.toNat : Nat) : Int) = px by omega, show ((qy.toNat : Nat) : Int) = qy by omega] at this
    rw [this, hX]
    by_cases c : a0 ≤ px.toNat ∧ px.toNat < a1 ∧ b0 ≤ qy.toNat ∧ qy.toNat < b1
    · left; rw [if_pos (by omega)]; exact ⟨by simpa using c, hc⟩
    · right; rw [if_neg (by omega)]; exact ⟨by simpa using c, rfl⟩
  · left
    refine ⟨by simpa using hh, ?_⟩
    simp [hasB] at hh
    rw [hX, if_neg]
    intro c; omega

end Go.Proofs.Ytackojmckloacaa
