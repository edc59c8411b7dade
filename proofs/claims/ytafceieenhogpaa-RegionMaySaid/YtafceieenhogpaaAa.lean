/-
  What is proved: plain facts on how many points a region has; what Area, and the document's own, and Covers, hand back.
-/
import Derived.Test.YtafceieenhogpaaGo
import Derived.Test.YtafceieenhogpaaM5
namespace Go.Proofs.Ytafceieenhogpaa
open Go.RowKit Go.Sort

def b2i (b : Bool) : Int := if b = true then 1 else 0
def cnt (P : Int → Int) (lo : Int) : Nat → Int
  | 0 => 0
  | n + 1 => cnt P lo n + P (lo + n)
theorem cnt_add (P Q : Int → Int) (lo : Int) : ∀ n, cnt (fun x => P x + Q x) lo n = cnt P lo n + cnt Q lo n
  | 0 => rfl
  | n + 1 => by show cnt _ lo n + (P (lo + n) + Q (lo + n)) = cnt P lo n + P (lo + n) + (cnt Q lo n + Q (lo + n)); rw [cnt_add P Q lo n]; omega
theorem cnt_congr {P Q : Int → Int} {lo : Int} (h : ∀ x, P x = Q x) : ∀ n, cnt P lo n = cnt Q lo n
  | 0 => rfl
  | n + 1 => by show cnt P lo n + P _ = cnt Q lo n + Q _; rw [cnt_congr h n, h]
theorem cnt_zero (lo : Int) : ∀ n, cnt (fun _ => 0) lo n = 0
  | 0 => rfl
  | n + 1 => by show cnt _ lo n + 0 = 0; rw [cnt_zero lo n]; rfl
theorem cnt_span (K a c lo : Int) (h1 : lo ≤ a) (h2 : a ≤ c) : ∀ n : Nat, cnt (fun x => if a ≤ x ∧ x < c then K else 0) lo n = K * max 0 (min c (lo + n) - a)
  | 0 => by
    show (0 : Int) = K * max 0 (min c (lo + (0 : Nat)) - a)
    rw [show max 0 (min c (lo + ((0 : Nat) : Int)) - a) = 0 from by omega]; simp
  | n + 1 => by
    show cnt _ lo n + (if a ≤ lo + n ∧ lo + n < c then K else 0) = _
    rw [cnt_span K a c lo h1 h2 n]
    by_cases h : a ≤ lo + n ∧ lo + n < c
    · rw [if_pos h, show max 0 (min c (lo + ((n + 1 : Nat) : Int)) - a) = max 0 (min c (lo + (n : Int)) - a) + 1 from by omega, Int.mul_add, Int.mul_one]
    · rw [if_neg h, show max 0 (min c (lo + ((n + 1 : Nat) : Int)) - a) = max 0 (min c (lo + (n : Int)) - a) from by omega, Int.add_zero]
def cnt2 (P : Int → Int → Bool) : Int := cnt (fun y => cnt (fun x => b2i (P x y)) (-4) 35) (-4) 35
theorem cnt2_sum {P Q P' Q' : Int → Int → Bool} (h : ∀ x y, b2i (P x y) + b2i (Q x y) = b2i (P' x y) + b2i (Q' x y)) : cnt2 P + cnt2 Q = cnt2 P' + cnt2 Q' := by
  unfold cnt2
  rw [← cnt_add, ← cnt_add]
  refine cnt_congr (fun y => ?_) _
  rw [← cnt_add, ← cnt_add]
  exact cnt_congr (fun x => h x y) _
def areaRc (r : Rc) : Int := (r.c - r.a) * (r.d - r.b)
def areaL : List Rc → Int
  | [] => 0
  | r :: l => areaRc r + areaL l
theorem areaL_app : ∀ L M, areaL (L ++ M) = areaL L + areaL M
  | [], M => by show _ = 0 + _; rw [Int.zero_add]; rfl
  | r :: l, M => by show areaRc r + areaL (l ++ M) = areaRc r + areaL l + areaL M; rw [areaL_app l M]; omega
theorem cnt2_rect {r : Rc} (h1 : -4 ≤ r.a) (h2 : r.a ≤ r.c) (h3 : r.c ≤ 31) (h4 : -4 ≤ r.b) (h5 : r.b ≤ r.d) (h6 : r.d ≤ 31) : cnt2 (fun x y => hasB r.a r.b r.c r.d x y) = areaRc r := by
  unfold cnt2
  have e : ∀ y, cnt (fun x => b2i (hasB r.a r.b r.c r.d x y)) (-4) 35 = if r.b ≤ y ∧ y < r.d then (r.c - r.a) else 0 := by
    intro y
    by_cases hy : r.b ≤ y ∧ y < r.d
    · rw [if_pos hy]
      have : ∀ x, b2i (hasB r.a r.b r.c r.d x y) = if r.a ≤ x ∧ x < r.c then 1 else 0 := by
        intro x
        unfold b2i hasB
        by_cases hx : r.a ≤ x ∧ x < r.c
        · rw [if_pos hx, if_pos (by simp; omega)]
        · rw [if_neg hx, if_neg (by simp; omega)]
      rw [cnt_congr this, cnt_span 1 r.a r.c (-4) h1 h2]
      omega
    · rw [if_neg hy]
      have : ∀ x, b2i (hasB r.a r.b r.c r.d x y) = 0 := by
        intro x; unfold b2i hasB; rw [if_neg (by simp; omega)]
      rw [cnt_congr this, cnt_zero]
  rw [cnt_congr e, cnt_span (r.c - r.a) r.b r.d (-4) h4 h5]
  unfold areaRc
  congr 1
  omega
/-- No point is of two. -/
def Apart (L : List Rc) : Prop := L.Pairwise fun r s => ∀ x y, ¬ (hasB r.a r.b r.c r.d x y = true ∧ hasB s.a s.b s.c s.d x y = true)
theorem bandE_apart (y0 y1 : Int) : ∀ E, Inc E → Apart (bandE y0 y1 E)
  | [], _ => List.Pairwise.nil
  | [x], _ => List.Pairwise.nil
  | x :: z :: E, h => by
    obtain ⟨h1, h2⟩ := List.pairwise_cons.1 h
    obtain ⟨h3, h4⟩ := List.pairwise_cons.1 h2
    refine List.pairwise_cons.2 ⟨fun s hs x' y' hh => ?_, bandE_apart y0 y1 E h4⟩
    obtain ⟨_, _, q3, _⟩ := bandE_mem y0 y1 E s hs
    have := h3 _ q3
    unfold hasB at hh; simp at hh; omega
theorem rects_apart : ∀ {B : List Bn}, Wk B → Apart (rectsL B)
  | [], _ => List.Pairwise.nil
  | b :: l, h => by
    obtain ⟨h1, h2, h3⟩ := h.cons
    refine List.pairwise_append.2 ⟨bandE_apart _ _ _ h1.2.1, rects_apart h3, fun r hr s hs x y hh => ?_⟩
    obtain ⟨_, q2, _, _⟩ := bandE_mem _ _ _ r hr
    obtain ⟨c, hc, hs'⟩ := (rects_mem l s).1 hs
    obtain ⟨q5, _, _, _⟩ := bandE_mem _ _ _ s hs'
    have := (h2 c hc).1
    unfold hasB at hh; simp at hh; omega
theorem rects_ne {B : List Bn} (h : Wk B) : ∀ r ∈ rectsL B, r.a < r.c ∧ r.b < r.d := by
  intro r hr
  obtain ⟨b, hb, hr'⟩ := (rects_mem B r).1 hr
  obtain ⟨q1, q2, _, _⟩ := bandE_mem _ _ _ r hr'
  have hok := h.ok b hb
  refine ⟨?_, by rw [q1, q2]; exact hok.1⟩
  have : ∀ (E : List Int), Inc E → ∀ r ∈ bandE b.y0 b.y1 E, r.a < r.c := by
    intro E
    induction E using bandE.induct with
    | case1 x z E ih =>
      intro hE r hr
      unfold bandE at hr
      rw [List.mem_cons] at hr
      rcases hr with rfl | hr
      · exact (List.pairwise_cons.1 hE).1 z (by simp)
      · exact ih (List.pairwise_cons.1 (List.pairwise_cons.1 hE).2).2 r hr
    | case2 E hE' =>
      intro _ r hr
      unfold bandE at hr
      split at hr
      · exact absurd rfl (hE' _ _ _)
      · simp at hr
  exact this b.E hok.2.1 r hr'
theorem cnt2_none : cnt2 (fun _ _ => false) = 0 := by
  unfold cnt2
  have h : ∀ y : Int, cnt (fun x => b2i ((fun _ _ => false : Int → Int → Bool) x y)) (-4) 35 = 0 := fun y => cnt_zero _ _
  rw [cnt_congr (Q := fun _ => 0) h, cnt_zero]
theorem area_cnt : ∀ (L : List Rc), Apart L → (∀ r ∈ L, r.a < r.c ∧ r.b < r.d) → InR near near L → areaL L = cnt2 (hasL L)
  | [], _, _, _ => by rw [show (hasL [] : Int → Int → Bool) = fun _ _ => false from rfl, cnt2_none]; rfl
  | r :: l, h, hn, hi => by
    obtain ⟨h1, h2⟩ := List.pairwise_cons.1 h
    obtain ⟨n1, n2⟩ := hn r (by simp)
    obtain ⟨i1, i2, i3, i4⟩ := hi r (by simp)
    rw [near_mem] at i1 i2 i3 i4
    have ih := area_cnt l h2 (fun q hq => hn q (by simp [hq])) (fun q hq => hi q (by simp [hq]))
    have hr := cnt2_rect (r := r) i1.1 (by omega) i2.2 i3.1 (by omega) i4.2
    have hs := cnt2_sum (P := hasL (r :: l)) (Q := fun _ _ => false) (P' := fun x y => hasB r.a r.b r.c r.d x y) (Q' := hasL l) (fun x y => by
      unfold hasL
      rw [List.any_cons]
      cases hb : hasB r.a r.b r.c r.d x y with
      | false => simp [b2i]
      | true =>
        have : l.any (fun r => hasB r.a r.b r.c r.d x y) = false := by
          rw [List.any_eq_false]; intro s hs hh
          exact h1 s hs x y ⟨hb, hh⟩
        rw [this]; simp [b2i])
    rw [cnt2_none] at hs
    show areaRc r + areaL l = _
    omega
theorem reg_area {L : List Rc} (h : IsReg L) (hi : InR near near L) : areaL L = cnt2 (hasL L) := by
  obtain ⟨B, hB, rfl⟩ := h
  exact area_cnt _ (rects_apart hB.toWk) (rects_ne hB.toWk) hi

/-- What Area asks of a list. -/
def Sm (L : List Rc) : Prop := ∀ r ∈ L, mayB r.a r.b r.c r.d = true ∧ 0 ≤ areaRc r ∧ areaRc r ≤ 2000
theorem sm_reg {L : List Rc} (h : IsReg L) (hi : InR near near L) : Sm L := by
  obtain ⟨B, hB, rfl⟩ := h
  intro r hr
  obtain ⟨n1, n2⟩ := rects_ne hB.toWk r hr
  obtain ⟨i1, i2, i3, i4⟩ := hi r hr
  rw [near_mem] at i1 i2 i3 i4
  refine ⟨by unfold mayB; simp; omega, Int.mul_nonneg (by omega) (by omega), ?_⟩
  calc (r.c - r.a) * (r.d - r.b) ≤ 35 * (r.d - r.b) := Int.mul_le_mul_of_nonneg_right (by omega) (by omega)
    _ ≤ 35 * 35 := Int.mul_le_mul_of_nonneg_left (by omega) (by omega)
    _ ≤ 2000 := by omega
theorem sm_take {L : List Rc} (h : Sm L) : ∀ k : Nat, 0 ≤ areaL (L.take k) ∧ areaL (L.take k) ≤ 2000 * k
  | 0 => by simp [areaL]
  | k + 1 => by
    obtain ⟨i1, i2⟩ := sm_take h k
    by_cases hk : k < L.length
    · obtain ⟨r, hr⟩ := list_at hk
      obtain ⟨_, h2, h3⟩ := h r (List.mem_of_getElem? hr)
      rw [take_more hr, areaL_app]
      show 0 ≤ _ + (areaRc r + 0) ∧ _ + (areaRc r + 0) ≤ _
      omega
    · rw [List.take_of_length_le (by omega)] at *
      omega

def BoolQ (w : World) (b : Bool) (e : Ending) (w' : World) : Prop := e = .returned (.bool b) ∧ Bl w w'
end Go.Proofs.Ytafceieenhogpaa
