/-
  What is proved: plain facts on the document's own answer for regions: its rows put under one another; no Go in sight.
-/
import Derived.Test.YtafceieenhogpaaMr
import Derived.Test.YtafceieenhogpaaMe
namespace Go.Proofs.Ytafceieenhogpaa

/-- All numbers of the rectangles that have points, and no others. -/
structure Axes (a b : List Rc) (xs ys : List Int) : Prop where
  xi : Inc xs
  yi : Inc ys
  xm : ∀ x, x ∈ xs ↔ ∃ r ∈ a ++ b, emptyB r.a r.b r.c r.d = false ∧ (x = r.a ∨ x = r.c)
  ym : ∀ y, y ∈ ys ↔ ∃ r ∈ a ++ b, emptyB r.a r.b r.c r.d = false ∧ (y = r.b ∨ y = r.d)
theorem not_empty {r : Rc} (h : emptyB r.a r.b r.c r.d = false) : r.a < r.c ∧ r.b < r.d := by
  unfold emptyB at h; simp at h; omega
theorem has_not_empty {r : Rc} {x y : Int} (h : hasB r.a r.b r.c r.d x y = true) : emptyB r.a r.b r.c r.d = false := by
  unfold hasB at h; unfold emptyB; simp at *; omega
theorem hasL_false {L : List Rc} {x y : Int} (h : ∀ r ∈ L, hasB r.a r.b r.c r.d x y = false) : hasL L x y = false := by
  unfold hasL; rw [List.any_eq_false]; intro r hr; rw [h r hr]; simp
theorem hasL_same {L : List Rc} {x y x' y' : Int} (h : ∀ r ∈ L, hasB r.a r.b r.c r.d x y = hasB r.a r.b r.c r.d x' y') : hasL L x y = hasL L x' y' := by
  induction L with
  | nil => rfl
  | cons r l ih =>
    unfold hasL at *
    rw [List.any_cons, List.any_cons, h r (by simp), ih fun q hq => h q (by simp [hq])]
theorem Axes.cols {a b : List Rc} {xs ys : List Int} (h : Axes a b xs ys) {kp : Bool → Bool → Bool} (hk : kp false false = false) (y : Int) : Cols (fun x => kp (hasL a x y) (hasL b x y)) xs := by
  have one : ∀ r ∈ a ++ b, ∀ x, hasB r.a r.b r.c r.d x y = true → r.a ∈ xs ∧ r.c ∈ xs ∧ r.a ≤ x ∧ x < r.c := by
    intro r hr x hx
    have he := has_not_empty hx
    refine ⟨(h.xm _).2 ⟨r, hr, he, .inl rfl⟩, (h.xm _).2 ⟨r, hr, he, .inr rfl⟩, ?_⟩
    unfold hasB at hx; simp at hx; omega
  refine ⟨h.xi, fun x hx => ?_, fun x hx => ?_, fun k x0 x1 x h0 h1 hl hr => ?_⟩
  · have q : ∀ r ∈ a ++ b, hasB r.a r.b r.c r.d x y = false := fun r hr => by
      cases hh : hasB r.a r.b r.c r.d x y with
      | false => rfl
      | true => obtain ⟨q1, _, q3, _⟩ := one r hr x hh; have := hx _ q1; omega
    simp only [hasL_false (L := a) fun r hr => q r (by simp [hr]), hasL_false (L := b) fun r hr => q r (by simp [hr]), hk]
  · have q : ∀ r ∈ a ++ b, hasB r.a r.b r.c r.d x y = false := fun r hr => by
      cases hh : hasB r.a r.b r.c r.d x y with
      | false => rfl
      | true => obtain ⟨_, q2, _, q4⟩ := one r hr x hh; have := hx _ q2; omega
    simp only [hasL_false (L := a) fun r hr => q r (by simp [hr]), hasL_false (L := b) fun r hr => q r (by simp [hr]), hk]
  · have q : ∀ r ∈ a ++ b, hasB r.a r.b r.c r.d x y = hasB r.a r.b r.c r.d x0 y := fun r hr' => by
      by_cases he : emptyB r.a r.b r.c r.d = true
      · unfold emptyB at he; unfold hasB; simp at *; rw [Bool.eq_iff_iff]; simp; omega
      · simp only [Bool.not_eq_true] at he
        have n1 := fun hl' => inc_next h.xi h0 h1 ((h.xm r.a).2 ⟨r, hr', he, .inl rfl⟩) hl'
        have n2 := fun hl' => inc_next h.xi h0 h1 ((h.xm r.c).2 ⟨r, hr', he, .inr rfl⟩) hl'
        unfold hasB
        rw [decide_eq_decide]
        constructor
        · rintro ⟨g1, g2, g3⟩
          refine ⟨?_, ?_, g3⟩
          · rcases Int.lt_or_le x0 r.a with g | g
            · have := n1 g; omega
            · exact g
          · omega
        · rintro ⟨g1, g2, g3⟩
          refine ⟨by omega, ?_, g3⟩
          have := n2 g2; omega
    simp only [hasL_same (L := a) fun r hr => q r (by simp [hr]), hasL_same (L := b) fun r hr => q r (by simp [hr])]

/-- The rows so far: those that are done, and the last one. -/
structure OInv (a b : List Rc) (kp : Bool → Bool → Bool) (ys xs : List Int) (i : Nat) (Bs : List Bn) (t : Option Bn) : Prop where
  wk : Wk (Bs ++ t.toList)
  top : ∀ y0, ys[i]? = some y0 → ∀ c ∈ Bs ++ t.toList, c.y1 ≤ y0
  last : ∀ c, t = some c → c.E ≠ [] ∧ ys[i]? = some c.y1
  par : ∀ y0, ys[i]? = some y0 → ∀ y, y < y0 → ∀ x, inE (rowE (Bs ++ t.toList) y) x = kp (hasL a x y) (hasL b x y)
  ed : ∀ c ∈ Bs ++ t.toList, (∀ e ∈ c.E, e ∈ xs) ∧ c.y0 ∈ ys ∧ c.y1 ∈ ys
  gap : t = none → ∀ y0, ys[i]? = some y0 → ∀ c ∈ Bs, c.y1 < y0
theorem has_low {a b : List Rc} {xs ys : List Int} (h : Axes a b xs ys) {y : Int} (hy : (∀ z ∈ ys, y < z) ∨ (∀ z ∈ ys, z ≤ y)) (x : Int) : hasL a x y = false ∧ hasL b x y = false := by
  have q : ∀ r ∈ a ++ b, hasB r.a r.b r.c r.d x y = false := fun r hr => by
    cases hh : hasB r.a r.b r.c r.d x y with
    | false => rfl
    | true =>
      have he := has_not_empty hh
      have m1 := (h.ym r.b).2 ⟨r, hr, he, .inl rfl⟩
      have m2 := (h.ym r.d).2 ⟨r, hr, he, .inr rfl⟩
      unfold hasB at hh; simp at hh
      rcases hy with hy | hy
      · have := hy _ m1; omega
      · have := hy _ m2; omega
  exact ⟨hasL_false fun r hr => q r (by simp [hr]), hasL_false fun r hr => q r (by simp [hr])⟩
theorem OInv.start {a b : List Rc} {kp : Bool → Bool → Bool} {xs ys : List Int} (h : Axes a b xs ys) (hk : kp false false = false) : OInv a b kp ys xs 0 [] none := by
  refine ⟨Wk.nil, by simp, by simp, fun y0 h0 y hy x => ?_, by simp, by simp⟩
  obtain ⟨q1, q2⟩ := has_low h (y := y) (.inl fun z hz => by have := inc_first h.yi h0 hz; omega) x
  rw [q1, q2, hk]; rfl
theorem row_same {a b : List Rc} {xs ys : List Int} (h : Axes a b xs ys) {kp : Bool → Bool → Bool} {i : Nat} {y0 y1 y : Int} (h0 : ys[i]? = some y0) (h1 : ys[i + 1]? = some y1) (hl : y0 ≤ y) (hr : y < y1) (x : Int) : kp (hasL a x y) (hasL b x y) = kp (hasL a x y0) (hasL b x y0) := by
  have q : ∀ r ∈ a ++ b, hasB r.a r.b r.c r.d x y = hasB r.a r.b r.c r.d x y0 := fun r hr' => by
    by_cases he : emptyB r.a r.b r.c r.d = true
    · unfold emptyB at he; unfold hasB; simp at *; rw [Bool.eq_iff_iff]; simp; omega
    · simp only [Bool.not_eq_true] at he
      have n1 := fun hl' => inc_next h.yi h0 h1 ((h.ym r.b).2 ⟨r, hr', he, .inl rfl⟩) hl'
      have n2 := fun hl' => inc_next h.yi h0 h1 ((h.ym r.d).2 ⟨r, hr', he, .inr rfl⟩) hl'
      unfold hasB
      rw [decide_eq_decide]
      constructor
      · rintro ⟨g1, g2, g3, g4⟩
        refine ⟨g1, g2, ?_, by omega⟩
        rcases Int.lt_or_le y0 r.b with g | g
        · have := n1 g; omega
        · exact g
      · rintro ⟨g1, g2, g3, g4⟩
        refine ⟨g1, g2, by omega, ?_⟩
        have := n2 g4; omega
  rw [hasL_same (L := a) fun r hr => q r (by simp [hr]), hasL_same (L := b) fun r hr => q r (by simp [hr])]
/-- One more row: it goes on the last one, or stands below it, or is none. -/
theorem OInv.step {a b : List Rc} {kp : Bool → Bool → Bool} {xs ys : List Int} {i : Nat} {Bs : List Bn} {t : Option Bn} (h : OInv a b kp ys xs i Bs t) (hx : Axes a b xs ys) {y0 y1 : Int} (h0 : ys[i]? = some y0) (h1 : ys[i + 1]? = some y1)
    {E : List Int} (hE : Inc E ∧ E.length % 2 = 0) (hs : ∀ e ∈ E, e ∈ xs) (hp : ∀ x, inE E x = kp (hasL a x y0) (hasL b x y0)) :
    (∀ c, t = some c → c.E = E → OInv a b kp ys xs (i + 1) Bs (some ⟨c.y0, y1, c.E⟩)) ∧
    ((∀ c, t = some c → c.E ≠ E) → OInv a b kp ys xs (i + 1) (Bs ++ t.toList) (if E = [] then none else some ⟨y0, y1, E⟩)) := by
  have hlt := inc_lt hx.yi h0 h1
  have ok : (⟨y0, y1, E⟩ : Bn).ok := ⟨hlt, hE⟩
  obtain ⟨a1, a2, a3, _, _⟩ := addL_wk h.wk ok (h.top y0 h0)
  have tops : ∀ c ∈ Bs ++ t.toList, c.y1 ≤ y1 := fun c hc => by have := h.top y0 h0 c hc; omega
  have parE : ∀ (O : List Bn), (∀ y, rowE O y = if y0 ≤ y ∧ y < y1 then E else rowE (Bs ++ t.toList) y) → ∀ y, y < y1 → ∀ x, inE (rowE O y) x = kp (hasL a x y) (hasL b x y) := by
    intro O hO y hy x
    rw [hO]
    by_cases h2 : y0 ≤ y
    · rw [if_pos ⟨h2, hy⟩, hp]; exact (row_same hx h0 h1 h2 hy x).symm
    · rw [if_neg (by omega)]; exact h.par y0 h0 y (by omega) x
  constructor
  · intro c hc hcE
    subst hc
    have hl := h.last c rfl
    rw [h0] at hl
    have hy1 : c.y1 = y0 := by have := hl.2; injection this with this; exact this.symm
    have hadd : addL (Bs ++ [c]) ⟨y0, y1, E⟩ = Bs ++ [⟨c.y0, y1, c.E⟩] := by
      rw [addL_snoc, if_pos (by simp [goesB, hy1, hcE])]
    simp only [Option.toList_some] at a1 a2 a3 parE ⊢
    rw [hadd] at a1 a2 a3
    refine ⟨a1, fun z hz d hd => ?_, fun d hd => ?_, fun z hz => ?_, fun d hd => ?_, by simp⟩
    · rw [h1] at hz; injection hz with hz; subst hz; exact a3 d hd
    · injection hd with hd; subst hd; exact ⟨hl.1, h1⟩
    · rw [h1] at hz; injection hz with hz; subst hz
      exact parE _ a2
    · simp only [Option.toList_some] at hd
      rw [List.mem_append, List.mem_singleton] at hd
      rcases hd with hd | rfl
      · exact h.ed d (by simp [hd])
      · obtain ⟨q1, q2, q3⟩ := h.ed c (by simp)
        exact ⟨q1, q2, get_mem h1⟩
  · intro hne
    by_cases hE0 : E = []
    · subst hE0
      rw [if_pos rfl]
      refine ⟨?_, ?_, by simp, ?_, ?_, ?_⟩
      · simpa using h.wk
      · intro z hz d hd
        rw [h1] at hz; injection hz with hz; subst hz
        exact tops d (by simpa using hd)
      · intro z hz
        rw [h1] at hz; injection hz with hz; subst hz
        simp only [Option.toList_none, List.append_nil]
        refine parE _ fun y => ?_
        by_cases h2 : y0 ≤ y ∧ y < y1
        · rw [if_pos h2]; exact rowE_none fun c hc => by have := h.top y0 h0 c hc; right; omega
        · rw [if_neg h2]
      · intro d hd; exact h.ed d (by simpa using hd)
      · intro _ z hz c hc
        rw [h1] at hz; injection hz with hz; subst hz
        have := h.top y0 h0 c hc; omega
    · rw [if_neg hE0]
      have hadd : addL (Bs ++ t.toList) ⟨y0, y1, E⟩ = Bs ++ t.toList ++ [⟨y0, y1, E⟩] := by
        cases t with
        | some c =>
          rw [Option.toList_some, addL_snoc, if_neg]
          simp only [goesB, decide_eq_true_eq]
          exact fun hh => hne c rfl hh.2
        | none =>
          rw [Option.toList_none, List.append_nil]
          rcases List.eq_nil_or_concat Bs with hB | ⟨l, c, hB⟩
          · rw [hB]; rfl
          · rw [List.concat_eq_append] at hB
            rw [hB, addL_snoc, if_neg]
            simp only [goesB, decide_eq_true_eq]
            rintro ⟨g1, _⟩
            have := h.gap rfl y0 h0 c (by rw [hB]; simp)
            omega
      rw [hadd] at a1 a2 a3
      refine ⟨a1, fun z hz d hd => ?_, fun d hd => ?_, fun z hz => ?_, fun d hd => ?_, by simp⟩
      · rw [h1] at hz; injection hz with hz; subst hz; exact a3 d hd
      · injection hd with hd; subst hd; exact ⟨hE0, h1⟩
      · rw [h1] at hz; injection hz with hz; subst hz
        exact parE _ a2
      · simp only [Option.toList_some] at hd
        rw [List.mem_append, List.mem_singleton] at hd
        rcases hd with hd | rfl
        · exact h.ed d hd
        · exact ⟨hs, get_mem h0, get_mem h1⟩
theorem OInv.done {a b : List Rc} {kp : Bool → Bool → Bool} {xs ys : List Int} {i : Nat} {Bs : List Bn} {t : Option Bn} (h : OInv a b kp ys xs i Bs t) (hx : Axes a b xs ys) (hk : kp false false = false) (hi : i + 1 = ys.length ∨ ys = []) :
    ∀ x y, hasL (rectsL (Bs ++ t.toList)) x y = kp (hasL a x y) (hasL b x y) := by
  intro x y
  rw [rects_hasL h.wk]
  rcases hi with hi | hi
  · obtain ⟨y0, h0⟩ := list_at (show i < ys.length by omega)
    by_cases hy : y < y0
    · exact h.par y0 h0 y hy x
    · rw [rowE_none fun c hc => by have := h.top y0 h0 c hc; right; omega]
      obtain ⟨q1, q2⟩ := has_low hx (y := y) (.inr fun z hz => by have := inc_last hx.yi h0 hi hz; omega) x
      rw [q1, q2, hk]; rfl
  · have hn : Bs ++ t.toList = [] := by
      cases hB : Bs ++ t.toList with
      | nil => rfl
      | cons c l =>
        have := (h.ed c (by rw [hB]; simp)).2.1
        rw [hi] at this; simp at this
    rw [hn]
    obtain ⟨q1, q2⟩ := has_low hx (y := y) (.inl (by rw [hi]; simp)) x
    rw [q1, q2, hk]; rfl

end Go.Proofs.Ytafceieenhogpaa
