/-
  What is proved: that the document's own 'May' holds for every region.
-/
import Derived.Test.YtafceieenhogpaaAa
namespace Go.Proofs.Ytafceieenhogpaa
open Go.RowKit Go.Sort

/-- Where the document's May stands in a region: behind j rectangles of band b. -/
def MayI (B : List Bn) (fr i : Nat) : Prop := (i = 0 ∧ fr = 0) ∨ ∃ B1 b B2 j, B = B1 ++ b :: B2 ∧ fr = (rectsL B1).length ∧ i = fr + j ∧ 1 ≤ j ∧ 2 * j ≤ b.E.length
theorem rects_at {B1 B2 : List Bn} {b : Bn} {j : Nat} (hj : j < (bandE b.y0 b.y1 b.E).length) : (rectsL (B1 ++ b :: B2))[(rectsL B1).length + j]? = (bandE b.y0 b.y1 b.E)[j]? := by
  rw [rectsL_app, List.getElem?_append_right (by omega), show (rectsL B1).length + j - (rectsL B1).length = j from by omega]
  show (bandE b.y0 b.y1 b.E ++ rectsL B2)[j]? = _
  rw [List.getElem?_append_left hj]
theorem band_at {y0 y1 : Int} {E : List Int} {j : Nat} (h : 2 * j + 1 < E.length) : ∃ p q, E[2 * j]? = some p ∧ E[2 * j + 1]? = some q ∧ (bandE y0 y1 E)[j]? = some ⟨p, y0, q, y1⟩ := by
  obtain ⟨p, hp⟩ := list_at (show 2 * j < E.length by omega)
  obtain ⟨q, hq⟩ := list_at h
  exact ⟨p, q, hp, hq, bandE_get y0 y1 E j p q hp hq⟩
theorem inc_get {E : List Int} (h : Inc E) {i j : Nat} {p q : Int} (hi : E[i]? = some p) (hj : E[j]? = some q) (hij : i < j) : p < q := by
  have g0 := get_lt hi
  have g1 := get_lt hj
  rw [List.getElem?_eq_getElem g0] at hi
  rw [List.getElem?_eq_getElem g1] at hj
  injection hi with hi
  injection hj with hj
  have := List.pairwise_iff_getElem.1 h i j g0 g1 hij
  omega
/-- What stands at i, and ahead of it. -/
theorem MayI.next {B : List Bn} (hB : Gd B) {fr i : Nat} (h : MayI B fr i) {r : Rc} (hr : (rectsL B)[i]? = some r) :
    (i = 0 ∧ fr = 0 ∧ MayI B 0 1) ∨
    (0 < i ∧ fr ≤ i ∧ ∃ p, (rectsL B)[i - 1]? = some p ∧ p.b = r.b ∧ p.d = r.d ∧ p.c < r.a ∧ MayI B fr (i + 1)) ∨
    (0 < i ∧ fr ≤ i ∧ ∃ p n, (rectsL B)[i - 1]? = some p ∧ p.b ≠ r.b ∧ p.d ≤ r.b ∧ i < n ∧ n ≤ (rectsL B).length ∧ (∀ e, i ≤ e → e < n → ∃ s, (rectsL B)[e]? = some s ∧ s.b = r.b ∧ s.d = r.d) ∧
      (∀ s, (rectsL B)[n]? = some s → s.b ≠ r.b) ∧ (p.d = r.b → spansB (((rectsL B).drop fr).take (i - fr)) (((rectsL B).drop i).take (n - i)) = false) ∧ MayI B i (i + 1)) := by
  rcases h with ⟨rfl, rfl⟩ | ⟨B1, b, B2, j, rfl, rfl, rfl, hj1, hj2⟩
  · left
    refine ⟨rfl, rfl, .inr ?_⟩
    cases B with
    | nil => simp [rectsL] at hr
    | cons b l =>
      have hok := hB.ok b (by simp)
      have hne := hB.full b (by simp)
      have := List.length_pos_iff.2 hne
      exact ⟨[], b, l, 1, rfl, rfl, rfl, Nat.le_refl _, by have := hok.2.2; omega⟩
  · have hok := hB.ok b (by simp)
    have hbl := bandE_len b.y0 b.y1 b.E
    have hev := hok.2.2
    obtain ⟨pp, pq, hpp, hpq, hp⟩ := band_at (y0 := b.y0) (y1 := b.y1) (E := b.E) (j := j - 1) (by omega)
    have hp' : (rectsL (B1 ++ b :: B2))[(rectsL B1).length + j - 1]? = some ⟨pp, b.y0, pq, b.y1⟩ := by
      rw [show (rectsL B1).length + j - 1 = (rectsL B1).length + (j - 1) from by omega, rects_at (by omega)]; exact hp
    right
    by_cases hj3 : 2 * (j + 1) ≤ b.E.length
    · left
      obtain ⟨rp, rq, hrp, hrq, hr2⟩ := band_at (y0 := b.y0) (y1 := b.y1) (E := b.E) (j := j) (by omega)
      rw [rects_at (by omega), hr2] at hr
      injection hr with hr
      subst hr
      exact ⟨by omega, by omega, _, hp', rfl, rfl, inc_get hok.2.1 hpq hrp (by omega), .inr ⟨B1, b, B2, j + 1, rfl, rfl, by omega, by omega, hj3⟩⟩
    · right
      have hjE : 2 * j = b.E.length := by omega
      have hfull : (rectsL (B1 ++ [b])).length = (rectsL B1).length + j := by
        rw [rectsL_app, List.length_append]
        show _ + (bandE b.y0 b.y1 b.E ++ []).length = _
        rw [List.append_nil, hbl]; omega
      cases B2 with
      | nil =>
        have := get_lt hr
        rw [hfull] at this; omega
      | cons b2 B3 =>
        have hok2 := hB.ok b2 (by simp)
        have hne2 := List.length_pos_iff.2 (hB.full b2 (by simp))
        have hev2 := hok2.2.2
        have hbl2 := bandE_len b2.y0 b2.y1 b2.E
        have hsplit : B1 ++ b :: b2 :: B3 = (B1 ++ [b]) ++ b2 :: B3 := by simp
        have hseq := List.pairwise_append.1 hB.seq
        have s12 : Seq b b2 := (List.pairwise_cons.1 hseq.2.1).1 b2 (by simp)
        have at2 : ∀ e, (rectsL B1).length + j ≤ e → e < (rectsL B1).length + j + b2.E.length / 2 → ∃ s, (rectsL (B1 ++ b :: b2 :: B3))[e]? = some s ∧ s.b = b2.y0 ∧ s.d = b2.y1 := by
          intro e h1 h2
          obtain ⟨sp, sq, _, _, hs⟩ := band_at (y0 := b2.y0) (y1 := b2.y1) (E := b2.E) (j := e - ((rectsL B1).length + j)) (by omega)
          refine ⟨⟨sp, b2.y0, sq, b2.y1⟩, ?_, rfl, rfl⟩
          have := rects_at (B1 := B1 ++ [b]) (B2 := B3) (b := b2) (j := e - ((rectsL B1).length + j)) (by omega)
          rw [hfull, ← hsplit, show (rectsL B1).length + j + (e - ((rectsL B1).length + j)) = e from by omega] at this
          rw [this, hs]
        obtain ⟨s0, hs0, hb0, hd0⟩ := at2 _ (Nat.le_refl _) (by omega)
        rw [hr] at hs0
        injection hs0 with hs0
        subst hs0
        refine ⟨by omega, by omega, _, (rectsL B1).length + j + b2.E.length / 2, hp', ?_, ?_, by omega, ?_, ?_, ?_, ?_, ?_⟩
        · have := s12.1; have := hok.1; rw [hb0]; show b.y0 ≠ b2.y0; omega
        · rw [hb0]; exact s12.1
        · rw [hsplit, rectsL_app, List.length_append, hfull]
          show _ ≤ _ + (bandE b2.y0 b2.y1 b2.E ++ rectsL B3).length
          rw [List.length_append, hbl2]; omega
        · intro e h1 h2
          obtain ⟨s, q1, q2, q3⟩ := at2 e h1 h2
          exact ⟨s, q1, by rw [q2, hb0], by rw [q3, hd0]⟩
        · intro s hs
          rw [hsplit, rectsL_app, List.getElem?_append_right (by rw [hfull]; omega), hfull] at hs
          have e1 : rectsL (b2 :: B3) = bandE b2.y0 b2.y1 b2.E ++ rectsL B3 := rfl
          rw [e1, List.getElem?_append_right (by rw [hbl2]; omega)] at hs
          obtain ⟨b3, hb3, hs3⟩ := (rects_mem B3 s).1 (List.mem_of_getElem? hs)
          obtain ⟨q1, _, _, _⟩ := bandE_mem _ _ _ s hs3
          have s23 := (List.pairwise_cons.1 (List.pairwise_cons.1 hseq.2.1).2).1 b3 hb3
          have := s23.1
          have := hok2.1
          rw [q1, hb0]; omega
        · intro hpd
          have d1 : ((rectsL (B1 ++ b :: b2 :: B3)).drop (rectsL B1).length).take ((rectsL B1).length + j - (rectsL B1).length) = bandE b.y0 b.y1 b.E := by
            rw [rectsL_app, List.drop_left, show (rectsL B1).length + j - (rectsL B1).length = j from by omega]
            show (bandE b.y0 b.y1 b.E ++ _).take j = _
            rw [List.take_append_of_le_length (by rw [hbl]; omega), List.take_of_length_le (by rw [hbl]; omega)]
          have d2 : ((rectsL (B1 ++ b :: b2 :: B3)).drop ((rectsL B1).length + j)).take ((rectsL B1).length + j + b2.E.length / 2 - ((rectsL B1).length + j)) = bandE b2.y0 b2.y1 b2.E := by
            rw [hsplit, rectsL_app, ← hfull, List.drop_left, show (rectsL (B1 ++ [b])).length + b2.E.length / 2 - (rectsL (B1 ++ [b])).length = b2.E.length / 2 from by omega]
            show (bandE b2.y0 b2.y1 b2.E ++ _).take _ = _
            rw [List.take_append_of_le_length (by rw [hbl2]; omega), List.take_of_length_le (by rw [hbl2]; omega)]
          rw [d1, d2, spans_band hev hev2, decide_eq_false_iff_not]
          rw [hb0] at hpd
          exact fun hE => s12.2 ⟨hpd, hE⟩
        · refine .inr ⟨B1 ++ [b], b2, B3, 1, hsplit, hfull.symm, rfl, Nat.le_refl _, by omega⟩

end Go.Proofs.Ytafceieenhogpaa
