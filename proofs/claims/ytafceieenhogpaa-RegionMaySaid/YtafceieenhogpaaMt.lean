/-
  What is proved: plain facts on the numbers of a list of rectangles; and on which rows of rectangles have the same sides; no Go in sight.
-/
import Derived.Test.YtafceieenhogpaaMs
import Derived.Test.YtafceieenhogpaaSp
namespace Go.Proofs.Ytafceieenhogpaa

structure Axk (l : List Rc) (k : Nat) (xs ys : List Int) : Prop where
  xi : Inc xs
  yi : Inc ys
  xm : ∀ x, x ∈ xs ↔ ∃ r ∈ l.take k, emptyB r.a r.b r.c r.d = false ∧ (x = r.a ∨ x = r.c)
  ym : ∀ y, y ∈ ys ↔ ∃ r ∈ l.take k, emptyB r.a r.b r.c r.d = false ∧ (y = r.b ∨ y = r.d)
  xl : xs.length ≤ 2 * k
  yl : ys.length ≤ 2 * k
theorem Axk.start (l : List Rc) : Axk l 0 [] [] := ⟨List.Pairwise.nil, List.Pairwise.nil, by simp, by simp, by simp, by simp⟩
theorem Axk.skip {l : List Rc} {k : Nat} {xs ys : List Int} (h : Axk l k xs ys) {r : Rc} (hr : l[k]? = some r) (he : emptyB r.a r.b r.c r.d = true) : Axk l (k + 1) xs ys := by
  have q : ∀ (P : Rc → Prop), (∃ s ∈ l.take (k + 1), emptyB s.a s.b s.c s.d = false ∧ P s) ↔ ∃ s ∈ l.take k, emptyB s.a s.b s.c s.d = false ∧ P s := by
    intro P
    rw [take_more hr]
    constructor
    · rintro ⟨s, h1, h2, h3⟩
      rw [List.mem_append, List.mem_singleton] at h1
      rcases h1 with h1 | rfl
      · exact ⟨s, h1, h2, h3⟩
      · rw [he] at h2; cases h2
    · rintro ⟨s, h1, h2, h3⟩
      exact ⟨s, List.mem_append.2 (.inl h1), h2, h3⟩
  exact ⟨h.xi, h.yi, fun x => by rw [h.xm, q], fun y => by rw [h.ym, q], by have := h.xl; omega, by have := h.yl; omega⟩
theorem Axk.step {l : List Rc} {k : Nat} {xs ys x2 x3 y2 y3 : List Int} (h : Axk l k xs ys) {r : Rc} (hr : l[k]? = some r) (he : emptyB r.a r.b r.c r.d = false) (a1 : Adds xs r.a x2) (a2 : Adds x2 r.c x3) (b1 : Adds ys r.b y2) (b2 : Adds y2 r.d y3) : Axk l (k + 1) x3 y3 := by
  have q : ∀ (P : Rc → Prop), (∃ s ∈ l.take (k + 1), emptyB s.a s.b s.c s.d = false ∧ P s) ↔ (∃ s ∈ l.take k, emptyB s.a s.b s.c s.d = false ∧ P s) ∨ P r := by
    intro P
    rw [take_more hr]
    constructor
    · rintro ⟨s, h1, h2, h3⟩
      rw [List.mem_append, List.mem_singleton] at h1
      rcases h1 with h1 | rfl
      · exact .inl ⟨s, h1, h2, h3⟩
      · exact .inr h3
    · rintro (⟨s, h1, h2, h3⟩ | h3)
      · exact ⟨s, List.mem_append.2 (.inl h1), h2, h3⟩
      · exact ⟨r, by simp, he, h3⟩
  refine ⟨a2.inc, b2.inc, fun x => ?_, fun y => ?_, ?_, ?_⟩
  · rw [a2.mem, a1.mem, h.xm, q, or_assoc]
  · rw [b2.mem, b1.mem, h.ym, q, or_assoc]
  · have := a1.len; have := a2.len; have := h.xl; omega
  · have := b1.len; have := b2.len; have := h.yl; omega
theorem Axk.axes {a b : List Rc} {xs ys : List Int} (h : Axk (a ++ b) (a.length + b.length) xs ys) : Axes a b xs ys := by
  have e : (a ++ b).take (a.length + b.length) = a ++ b := List.take_of_length_le (by simp)
  have x := h.xm
  have y := h.ym
  rw [e] at x y
  exact ⟨h.xi, h.yi, x, y⟩

theorem bandE_sides (y0 y1 y0' y1' : Int) : ∀ (E F : List Int), E.length % 2 = 0 → F.length % 2 = 0 → (bandE y0 y1 E).map (fun r => (r.a, r.c)) = (bandE y0' y1' F).map (fun r => (r.a, r.c)) → E = F
  | [], [], _, _, _ => rfl
  | [], [x], _, h, _ => by simp at h
  | [], x :: z :: F, _, _, h => by simp [bandE] at h
  | [x], F, h, _, _ => by simp at h
  | x :: z :: E, [], _, _, h => by simp [bandE] at h
  | x :: z :: E, [u], _, h, _ => by simp at h
  | x :: z :: E, u :: v :: F, h1, h2, h => by
    unfold bandE at h
    rw [List.map_cons, List.map_cons] at h
    injection h with h3 h4
    injection h3 with h5 h6
    simp only at h5 h6
    subst h5 h6
    rw [bandE_sides y0 y1 y0' y1' E F (by simp at h1; omega) (by simp at h2; omega) h4]
theorem spans_band {y0 y1 y0' y1' : Int} {E F : List Int} (hE : E.length % 2 = 0) (hF : F.length % 2 = 0) : spansB (bandE y0 y1 E) (bandE y0' y1' F) = decide (E = F) := by
  unfold spansB
  rw [decide_eq_decide]
  constructor
  · exact bandE_sides _ _ _ _ E F hE hF
  · rintro rfl
    induction E using bandE.induct with
    | case1 a b E ih =>
      show (a, b) :: _ = (a, b) :: _
      rw [ih (by simp at hE; omega) (by simp at hE; omega)]
    | case2 E h =>
      cases E with
      | nil => rfl
      | cons a E =>
        cases E with
        | nil => simp at hE
        | cons b E => exact absurd rfl (h a b E)

end Go.Proofs.Ytafceieenhogpaa
