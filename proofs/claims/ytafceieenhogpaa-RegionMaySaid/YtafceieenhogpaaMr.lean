/-
  What is proved: plain facts on the document's own answer for regions: numbers added to a rising row, a row of a grid gone through, and the rows put under one another; no Go in sight.
-/
import Derived.Test.YtafceieenhogpaaMm
namespace Go.Proofs.Ytafceieenhogpaa

/-- A rising row with one more number. -/
structure Adds (l : List Int) (n : Int) (R : List Int) : Prop where
  inc : Inc R
  mem : ∀ x, x ∈ R ↔ x ∈ l ∨ x = n
  len : R.length ≤ l.length + 1
structure AInv (l : List Int) (n : Int) (i : Nat) (dn : Bool) (O : List Int) : Prop where
  no : ∀ x ∈ l.take i, x ≠ n
  hany : dn = (l.take i).any (fun x => decide (n < x))
  out : O = (l.take i).filter (fun x => decide (x < n)) ++ ((if dn = true then [n] else []) ++ (l.take i).filter (fun x => decide (n < x)))
theorem AInv.start (l : List Int) (n : Int) : AInv l n 0 false [] := ⟨by simp, by simp, by simp⟩
theorem any_no {l : List Int} {n : Int} (h : l.any (fun x => decide (n < x)) = false) : l.filter (fun x => decide (n < x)) = [] := by
  rw [List.filter_eq_nil_iff]; intro x hx
  rw [List.any_eq_false] at h
  simpa using h x hx
theorem filt_len (n : Int) : ∀ l : List Int, (l.filter (fun x => decide (x < n))).length + (l.filter (fun x => decide (n < x))).length ≤ l.length
  | [] => by simp
  | a :: l => by
    have ih := filt_len n l
    rw [List.filter_cons, List.filter_cons]
    by_cases h1 : a < n
    · rw [if_pos (by simpa using h1), if_neg (by simp; omega)]; simp; omega
    · rw [if_neg (by simpa using h1)]
      by_cases h2 : n < a
      · rw [if_pos (by simpa using h2)]; simp; omega
      · rw [if_neg (by simpa using h2)]; simp; omega
theorem AInv.len {l : List Int} {n : Int} {i : Nat} {dn : Bool} {O : List Int} (h : AInv l n i dn O) : O.length ≤ i + 1 := by
  have q := filt_len n (l.take i)
  have q2 : (l.take i).length ≤ i := List.length_take_le _ _
  rw [h.out, List.length_append, List.length_append]
  cases dn
  · simp at q ⊢; omega
  · simp at q ⊢; omega
theorem AInv.more {l : List Int} {n : Int} {i : Nat} {dn : Bool} {O : List Int} (h : AInv l n i dn O) (hl : Inc l) {x : Int} (hx : l[i]? = some x) (hne : x ≠ n) :
    (n < x ∧ dn = false ∧ AInv l n (i + 1) true (O ++ [n] ++ [x])) ∨ (n < x ∧ dn = true ∧ AInv l n (i + 1) true (O ++ [x])) ∨ (x < n ∧ dn = false ∧ AInv l n (i + 1) false (O ++ [x])) := by
  have ht : l.take (i + 1) = l.take i ++ [x] := take_more hx
  have hno : ∀ y ∈ l.take (i + 1), y ≠ n := fun y hy => by
    rw [ht, List.mem_append, List.mem_singleton] at hy
    rcases hy with hy | rfl
    · exact h.no y hy
    · exact hne
  rcases Int.lt_trichotomy x n with hlt | hlt | hlt
  · have hd : dn = false := by
      rw [h.hany, List.any_eq_false]
      intro y hy
      have := inc_take_drop hl i y hy x (head_mem hx)
      simp; omega
    refine .inr (.inr ⟨hlt, hd, hno, ?_, ?_⟩)
    · rw [ht, List.any_append, ← h.hany, hd]; simp; omega
    · rw [h.out, hd, ht, List.filter_append, List.filter_append]
      have h1 : (l.take i).filter (fun x => decide (n < x)) = [] := any_no (by rw [← h.hany, hd])
      rw [h1]
      have h2 : decide (x < n) = true := by simpa using hlt
      have h3 : decide (n < x) = false := by simp; omega
      simp [h2, h3]
  · exact absurd hlt hne
  · have h2 : decide (x < n) = false := by simp; omega
    have h3 : decide (n < x) = true := by simpa using hlt
    cases hd : dn with
    | false =>
      refine .inl ⟨hlt, rfl, hno, ?_, ?_⟩
      · rw [ht, List.any_append]; simp [h3]
      · rw [h.out, hd, ht, List.filter_append, List.filter_append]
        have h1 : (l.take i).filter (fun x => decide (n < x)) = [] := any_no (by rw [← h.hany, hd])
        rw [h1]
        simp [h2, h3]
    | true =>
      refine .inr (.inl ⟨hlt, rfl, hno, ?_, ?_⟩)
      · rw [ht, List.any_append]; simp [h3]
      · rw [h.out, hd, ht, List.filter_append, List.filter_append]
        simp [h2, h3]
theorem AInv.done {l : List Int} {n : Int} {dn : Bool} {O : List Int} (h : AInv l n l.length dn O) (hl : Inc l) : Adds l n (if dn = true then O else O ++ [n]) := by
  have ho := h.out
  have hn := h.no
  have hd := h.hany
  rw [List.take_length] at ho hn hd
  have e : (if dn = true then O else O ++ [n]) = l.filter (fun x => decide (x < n)) ++ ([n] ++ l.filter (fun x => decide (n < x))) := by
    cases hd' : dn with
    | true => rw [if_pos rfl, ho, hd']; simp
    | false =>
      rw [if_neg (by simp), ho, hd', any_no (l := l) (by rw [← hd, hd'])]
      simp
  rw [e]
  refine ⟨?_, fun x => ?_, ?_⟩
  · refine List.pairwise_append.2 ⟨hl.filter _, ?_, ?_⟩
    · refine List.pairwise_append.2 ⟨by simp, hl.filter _, ?_⟩
      intro a ha b hb
      rw [List.mem_singleton] at ha
      have := (List.mem_filter.1 hb).2
      simp at this; omega
    · intro a ha b hb
      have h1 := (List.mem_filter.1 ha).2
      simp at h1
      rw [List.mem_append, List.mem_singleton] at hb
      rcases hb with hb | hb
      · omega
      · have := (List.mem_filter.1 hb).2
        simp at this; omega
  · rw [List.mem_append, List.mem_append, List.mem_singleton, List.mem_filter, List.mem_filter]
    constructor
    · rintro (h1 | h1 | h1)
      · exact .inl h1.1
      · exact .inr h1
      · exact .inl h1.1
    · rintro (h1 | h1)
      · have := hn x h1
        rcases Int.lt_trichotomy x n with h2 | h2 | h2
        · exact .inl ⟨h1, by simpa using h2⟩
        · exact absurd h2 this
        · exact .inr (.inr ⟨h1, by simpa using h2⟩)
      · exact .inr (.inl h1)
  · have q : (l.filter (fun x => decide (x < n))).length + (l.filter (fun x => decide (n < x))).length ≤ l.length := by
      clear h ho hn hd e hl
      induction l with
      | nil => simp
      | cons a l ih =>
        rw [List.filter_cons, List.filter_cons]
        by_cases h1 : a < n
        · rw [if_pos (by simpa using h1), if_neg (by simp; omega)]; simp; omega
        · rw [if_neg (by simpa using h1)]
          by_cases h2 : n < a
          · rw [if_pos (by simpa using h2)]; simp; omega
          · rw [if_neg (by simpa using h2)]; simp; omega
    simp only [List.length_append, List.length_cons, List.length_nil]
    omega

/-- Bands' rectangles, the last of them apart. -/
theorem bandE_snoc (y0 y1 : Int) : ∀ (E : List Int) (p q : Int), E.length % 2 = 0 → bandE y0 y1 (E ++ [p, q]) = bandE y0 y1 E ++ [⟨p, y0, q, y1⟩]
  | [], p, q, _ => rfl
  | [x], p, q, h => by simp at h
  | x :: z :: E, p, q, h => by
    show ⟨x, y0, z, y1⟩ :: bandE y0 y1 (E ++ [p, q]) = _
    rw [bandE_snoc y0 y1 E p q (by simp at h; omega)]
    rfl
theorem even_snoc {E : List Int} (h : E.length % 2 = 0) : E = [] ∨ ∃ F p q, E = F ++ [p, q] ∧ F.length % 2 = 0 := by
  rcases List.eq_nil_or_concat E with h1 | ⟨E', q, h1⟩
  · exact .inl h1
  · rw [List.concat_eq_append] at h1
    rcases List.eq_nil_or_concat E' with h2 | ⟨F, p, h2⟩
    · subst h1 h2; simp at h
    · rw [List.concat_eq_append] at h2
      subst h1 h2
      refine .inr ⟨F, p, q, by simp, ?_⟩
      simp at h; omega

/-- A row of a grid, gone through as far as column k: the edges of what is kept. -/
structure RInv (P : Int → Bool) (xs : List Int) (k : Nat) (E : List Int) : Prop where
  inc : Inc E
  even : E.length % 2 = 0
  sub : ∀ e ∈ E, e ∈ xs
  top : ∀ x0, xs[k]? = some x0 → ∀ e ∈ E, e ≤ x0
  par : ∀ x0, xs[k]? = some x0 → ∀ x, x < x0 → inE E x = P x
  len : E.length ≤ 2 * k
/-- What is kept of a row hangs on the columns alone. -/
structure Cols (P : Int → Bool) (xs : List Int) : Prop where
  inc : Inc xs
  low : ∀ x, (∀ z ∈ xs, x < z) → P x = false
  high : ∀ x, (∀ z ∈ xs, z ≤ x) → P x = false
  mid : ∀ (k : Nat) (x0 x1 x : Int), xs[k]? = some x0 → xs[k + 1]? = some x1 → x0 ≤ x → x < x1 → P x = P x0
theorem RInv.start {P : Int → Bool} {xs : List Int} (h : Cols P xs) : RInv P xs 0 [] :=
  ⟨List.Pairwise.nil, rfl, by simp, by simp, fun x0 h0 x hx => by rw [inE_nil, h.low x fun z hz => by have := inc_first h.inc h0 hz; omega], by simp⟩
theorem inc_lt {xs : List Int} (h : Inc xs) {k : Nat} {x0 x1 : Int} (h0 : xs[k]? = some x0) (h1 : xs[k + 1]? = some x1) : x0 < x1 := by
  have g0 := get_lt h0
  have g1 := get_lt h1
  rw [List.getElem?_eq_getElem g0] at h0
  rw [List.getElem?_eq_getElem g1] at h1
  injection h0 with h0
  injection h1 with h1
  have := List.pairwise_iff_getElem.1 h k (k + 1) g0 g1 (by omega)
  omega
theorem RInv.skip {P : Int → Bool} {xs : List Int} {k : Nat} {E : List Int} (r : RInv P xs k E) (h : Cols P xs) {x0 x1 : Int} (h0 : xs[k]? = some x0) (h1 : xs[k + 1]? = some x1) (hP : P x0 = false) : RInv P xs (k + 1) E := by
  have hlt := inc_lt h.inc h0 h1
  refine ⟨r.inc, r.even, r.sub, fun z hz e he => ?_, fun z hz x hx => ?_, by have := r.len; omega⟩
  · rw [h1] at hz; injection hz with hz; have := r.top x0 h0 e he; omega
  · rw [h1] at hz; injection hz with hz; subst hz
    by_cases hx0 : x < x0
    · exact r.par x0 h0 x hx0
    · rw [h.mid k x0 x1 x h0 h1 (by omega) hx, hP, inE_all (fun e he => by have := r.top x0 h0 e he; omega), r.even]; rfl
theorem RInv.fresh {P : Int → Bool} {xs : List Int} {k : Nat} {E : List Int} (r : RInv P xs k E) (h : Cols P xs) {x0 x1 : Int} (h0 : xs[k]? = some x0) (h1 : xs[k + 1]? = some x1) (hP : P x0 = true) (hne : ∀ F p q, E = F ++ [p, q] → q ≠ x0) : RInv P xs (k + 1) (E ++ [x0, x1]) := by
  have hlt := inc_lt h.inc h0 h1
  have hE : ∀ e ∈ E, e < x0 := by
    intro e he
    have h2 := r.top x0 h0 e he
    rcases even_snoc r.even with h3 | ⟨F, p, q, h3, _⟩
    · rw [h3] at he; simp at he
    · have hq := hne F p q h3
      have hi := r.inc
      rw [h3] at hi he
      have hqx := r.top x0 h0 q (by rw [h3]; simp)
      have := (List.pairwise_append.1 hi)
      have h4 := List.pairwise_cons.1 this.2.1
      have h5 := h4.1 q (by simp)
      rw [List.mem_append] at he
      rcases he with he | he
      · have := this.2.2 e he q (by simp); omega
      · simp at he; rcases he with rfl | rfl <;> omega
  refine ⟨?_, by have := r.even; simp; omega, ?_, fun z hz e he => ?_, fun z hz x hx => ?_, by have := r.len; simp; omega⟩
  · refine List.pairwise_append.2 ⟨r.inc, by simpa using hlt, fun e he f hf => ?_⟩
    have := hE e he
    simp at hf; rcases hf with rfl | rfl <;> omega
  · intro e he
    rw [List.mem_append] at he
    rcases he with he | he
    · exact r.sub e he
    · simp at he; rcases he with rfl | rfl
      · exact get_mem h0
      · exact get_mem h1
  · rw [h1] at hz; injection hz with hz; subst hz
    rw [List.mem_append] at he
    rcases he with he | he
    · have := hE e he; omega
    · simp at he; rcases he with rfl | rfl <;> omega
  · rw [h1] at hz; injection hz with hz; subst hz
    by_cases hx0 : x < x0
    · rw [inE_app_far (by intro e he; simp at he; rcases he with rfl | rfl <;> omega)]
      exact r.par x0 h0 x hx0
    · rw [h.mid k x0 x1 x h0 h1 (by omega) hx, hP]
      unfold inE
      rw [List.countP_append, count_all (fun e he => by have := hE e he; omega), List.countP_cons_of_pos (by simp; omega), List.countP_cons_of_neg (by simp; omega)]
      have := r.even
      simp; omega
theorem RInv.on {P : Int → Bool} {xs : List Int} {k : Nat} {F : List Int} {p x0 x1 : Int} (r : RInv P xs k (F ++ [p, x0])) (h : Cols P xs) (h0 : xs[k]? = some x0) (h1 : xs[k + 1]? = some x1) (hP : P x0 = true) : RInv P xs (k + 1) (F ++ [p, x1]) := by
  have hlt := inc_lt h.inc h0 h1
  obtain ⟨i1, i2, i3⟩ := List.pairwise_append.1 r.inc
  have hpx : p < x0 := (List.pairwise_cons.1 i2).1 x0 (by simp)
  have hF : ∀ e ∈ F, e < p := fun e he => i3 e he p (by simp)
  have hev : F.length % 2 = 0 := by have := r.even; simp at this; omega
  refine ⟨?_, by simp; omega, ?_, fun z hz e he => ?_, fun z hz x hx => ?_, by have := r.len; simp at *; omega⟩
  · refine List.pairwise_append.2 ⟨i1, by simp; omega, fun e he f hf => ?_⟩
    have := hF e he
    simp at hf; rcases hf with rfl | rfl <;> omega
  · intro e he
    rw [List.mem_append] at he
    rcases he with he | he
    · exact r.sub e (by simp [he])
    · simp at he; rcases he with rfl | rfl
      · exact r.sub e (by simp)
      · exact get_mem h1
  · rw [h1] at hz; injection hz with hz; subst hz
    rw [List.mem_append] at he
    rcases he with he | he
    · have := hF e he; omega
    · simp at he; rcases he with rfl | rfl <;> omega
  · rw [h1] at hz; injection hz with hz; subst hz
    by_cases hx0 : x < x0
    · rw [← r.par x0 h0 x hx0]
      unfold inE
      rw [List.countP_append, List.countP_append, List.countP_cons, List.countP_cons, List.countP_cons, List.countP_cons]
      have e1 : decide (x0 ≤ x) = false := by simp; omega
      have e2 : decide (x1 ≤ x) = false := by simp; omega
      simp [e1, e2]
    · rw [h.mid k x0 x1 x h0 h1 (by omega) hx, hP]
      unfold inE
      rw [List.countP_append, count_all (fun e he => by have := hF e he; omega), List.countP_cons_of_pos (by simp; omega), List.countP_cons_of_neg (by simp; omega)]
      simp; omega
theorem RInv.done {P : Int → Bool} {xs : List Int} {k : Nat} {E : List Int} (r : RInv P xs k E) (h : Cols P xs) (hk : k + 1 = xs.length ∨ (xs = [] ∧ E = [])) : ∀ x, inE E x = P x := by
  intro x
  rcases hk with hk | ⟨h1, h2⟩
  · obtain ⟨x0, h0⟩ := list_at (show k < xs.length by omega)
    by_cases hx : x < x0
    · exact r.par x0 h0 x hx
    · rw [h.high x (fun z hz => by have := inc_last h.inc h0 hk hz; omega), inE_all (fun e he => by have := r.top x0 h0 e he; omega), r.even]; rfl
  · rw [h2, inE_nil, h.low x (by rw [h1]; simp)]

end Go.Proofs.Ytafceieenhogpaa
