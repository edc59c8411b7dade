/-
  What is proved: plain facts on rows of edges: a rising list of ints, and which ints have an odd number of them at or ahead of them; no Go in sight.
-/
import Derived.Test.YtafceieenhogpaaA2
namespace Go.Proofs.Ytafceieenhogpaa

def inE (E : List Int) (x : Int) : Bool := decide (E.countP (fun e => decide (e ≤ x)) % 2 = 1)
def Inc (E : List Int) : Prop := E.Pairwise (· < ·)

theorem count_all {E : List Int} {x : Int} (h : ∀ e ∈ E, e ≤ x) : E.countP (fun e => decide (e ≤ x)) = E.length := by
  rw [List.countP_eq_length]; intro e he; simpa using h e he
theorem count_none {E : List Int} {x : Int} (h : ∀ e ∈ E, x < e) : E.countP (fun e => decide (e ≤ x)) = 0 := by
  rw [List.countP_eq_zero]; intro e he; have := h e he; simp; omega
theorem inE_all {E : List Int} {x : Int} (h : ∀ e ∈ E, e ≤ x) : inE E x = decide (E.length % 2 = 1) := by unfold inE; rw [count_all h]
theorem inE_none {E : List Int} {x : Int} (h : ∀ e ∈ E, x < e) : inE E x = false := by unfold inE; rw [count_none h]; rfl
theorem inE_nil (x : Int) : inE [] x = false := rfl
theorem inE_app_far {E F : List Int} {x : Int} (h : ∀ e ∈ F, x < e) : inE (E ++ F) x = inE E x := by
  unfold inE; rw [List.countP_append, count_none h]; rfl
theorem inE_split {E : List Int} {i : Nat} {x : Int} (hi : i ≤ E.length) (h1 : ∀ e ∈ E.take i, e ≤ x) (h2 : ∀ e ∈ E.drop i, x < e) : inE E x = decide (i % 2 = 1) := by
  have : E = E.take i ++ E.drop i := (List.take_append_drop i E).symm
  rw [this, inE_app_far h2, inE_all h1, List.length_take, Nat.min_eq_left hi]
theorem top_of : ∀ (E : List Int), ∃ t : Int, ∀ e ∈ E, e ≤ t
  | [] => ⟨0, by simp⟩
  | e :: l => by
    obtain ⟨t, ht⟩ := top_of l
    refine ⟨max e t, fun x hx => ?_⟩
    simp at hx
    rcases hx with rfl | hx
    · omega
    · have := ht x hx; omega

/-- Two rising rows that tell the same of every int are one. -/
theorem inc_ext : ∀ (E F : List Int), Inc E → Inc F → (∀ x, inE E x = inE F x) → E = F
  | [], [], _, _, _ => rfl
  | [], f :: F, _, hF, h => by
    exfalso
    have h1 := h f
    rw [inE_nil] at h1
    have h2 : inE (f :: F) f = true := by
      have := inE_split (E := f :: F) (i := 1) (x := f) (by simp) (by simp) (by simpa using (List.pairwise_cons.1 hF).1)
      rw [this]; rfl
    rw [h2] at h1; cases h1
  | e :: E, [], hE, _, h => by
    exfalso
    have h1 := h e
    rw [inE_nil] at h1
    have h2 : inE (e :: E) e = true := by
      have := inE_split (E := e :: E) (i := 1) (x := e) (by simp) (by simp) (by simpa using (List.pairwise_cons.1 hE).1)
      rw [this]; rfl
    rw [h2] at h1; cases h1
  | e :: E, f :: F, hE, hF, h => by
    have hE' := List.pairwise_cons.1 hE
    have hF' := List.pairwise_cons.1 hF
    have one : ∀ (e f : Int) (E F : List Int), (∀ x ∈ E, e < x) → (∀ x ∈ F, f < x) → e < f → inE (e :: E) e = inE (f :: F) e → False := by
      intro e f E F hE hF hlt hh
      have h2 : inE (e :: E) e = true := by
        have := inE_split (E := e :: E) (i := 1) (x := e) (by simp) (by simp) (by simpa using hE)
        rw [this]; rfl
      have h3 : inE (f :: F) e = false := inE_none (by
        intro x hx; simp at hx
        rcases hx with rfl | hx
        · exact hlt
        · have := hF x hx; omega)
      rw [h2, h3] at hh; cases hh
    have hef : e = f := by
      rcases Int.lt_trichotomy e f with hl | hl | hl
      · exact (one e f E F hE'.1 hF'.1 hl (h e)).elim
      · exact hl
      · exact (one f e F E hF'.1 hE'.1 hl (h f).symm).elim
    subst hef
    have ht : ∀ x, inE E x = inE F x := by
      intro x
      by_cases hx : e ≤ x
      · have := h x
        unfold inE at *
        rw [List.countP_cons_of_pos (by simpa using hx), List.countP_cons_of_pos (by simpa using hx)] at this
        rw [decide_eq_decide] at *
        omega
      · rw [inE_none (fun y hy => by have := hE'.1 y hy; omega), inE_none (fun y hy => by have := hF'.1 y hy; omega)]
    rw [inc_ext E F hE'.2 hF'.2 ht]

/-- How far a merge of two rows has come: i of a, j of b are gone through, O is what was made of them. -/
structure InvM (a b : List Int) (kp : Bool → Bool → Bool) (i j : Nat) (O : List Int) : Prop where
  ia : i ≤ a.length
  jb : j ≤ b.length
  inc : Inc O
  lta : ∀ o ∈ O, ∀ x ∈ a.drop i, o < x
  ltb : ∀ o ∈ O, ∀ x ∈ b.drop j, o < x
  cross : (∀ o ∈ a.take i, ∀ x ∈ b.drop j, o < x) ∧ (∀ o ∈ b.take j, ∀ x ∈ a.drop i, o < x)
  par : ∀ x, (∀ o ∈ a.drop i, x < o) → (∀ o ∈ b.drop j, x < o) → inE O x = kp (inE a x) (inE b x)
  sub : ∀ o ∈ O, o ∈ a ∨ o ∈ b
  len : O.length ≤ i + j
theorem InvM.start {a b : List Int} {kp : Bool → Bool → Bool} (hk : kp false false = false) : InvM a b kp 0 0 [] where
  ia := Nat.zero_le _
  jb := Nat.zero_le _
  inc := List.Pairwise.nil
  lta := by simp
  ltb := by simp
  cross := by simp
  par := fun x h1 h2 => by rw [inE_none (E := a) (by simpa using h1), inE_none (E := b) (by simpa using h2), inE_nil, hk]
  sub := by simp
  len := by simp

theorem inc_take_drop {a : List Int} (h : Inc a) (i : Nat) : ∀ o ∈ a.take i, ∀ x ∈ a.drop i, o < x := by
  have : Inc (a.take i ++ a.drop i) := by rw [List.take_append_drop]; exact h
  exact (List.pairwise_append.1 this).2.2
theorem take_mem {a : List Int} {i : Nat} {o : Int} (h : o ∈ a.take (i + 1)) : o ∈ a.take i ∨ a[i]? = some o := by
  rcases Nat.lt_or_ge i a.length with hl | hl
  · rw [List.take_succ_eq_append_getElem hl, List.mem_append] at h
    rcases h with h | h
    · exact .inl h
    · right; rw [List.mem_singleton] at h; rw [List.getElem?_eq_getElem hl, h]
  · rw [List.take_of_length_le (by omega)] at h
    left; rw [List.take_of_length_le (by omega)]; exact h
theorem drop_mem {a : List Int} {i : Nat} {o : Int} (h : o ∈ a.drop i) : a[i]? = some o ∨ o ∈ a.drop (i + 1) := by
  rcases Nat.lt_or_ge i a.length with hl | hl
  · rw [List.drop_eq_getElem_cons hl, List.mem_cons] at h
    rcases h with h | h
    · left; rw [List.getElem?_eq_getElem hl, h]
    · exact .inr h
  · rw [List.drop_eq_nil_of_le hl] at h; simp at h
theorem drop_sub {a : List Int} {i : Nat} {o : Int} (h : o ∈ a.drop (i + 1)) : o ∈ a.drop i := by
  rw [show i + 1 = 1 + i from by omega, ← List.drop_drop] at h
  exact List.drop_sublist 1 _ |>.mem (by rw [List.drop_drop] at *; simpa [Nat.add_comm] using h)
theorem head_mem {a : List Int} {i : Nat} {x : Int} (h : a[i]? = some x) : x ∈ a.drop i := by
  have hl : i < a.length := by
    rcases Nat.lt_or_ge i a.length with h' | h'
    · exact h'
    · rw [List.getElem?_eq_none h'] at h; cases h
  rw [List.drop_eq_getElem_cons hl]
  rw [List.getElem?_eq_getElem hl] at h
  simp at h; simp [h]
theorem get_mem {a : List Int} {i : Nat} {x : Int} (h : a[i]? = some x) : x ∈ a := List.mem_of_getElem? h
theorem get_lt {α : Type} {a : List α} {i : Nat} {x : α} (h : a[i]? = some x) : i < a.length := by
  rcases Nat.lt_or_ge i a.length with h' | h'
  · exact h'
  · rw [List.getElem?_eq_none h'] at h; cases h

theorem inc_head_le {a : List Int} (ha : Inc a) {i : Nat} {x : Int} (h : a[i]? = some x) : ∀ o ∈ a.drop i, x ≤ o := by
  intro o ho
  rcases drop_mem ho with h1 | h1
  · rw [h] at h1; injection h1 with h1; omega
  · have := inc_take_drop ha (i + 1) x (by
      rw [List.take_succ_eq_append_getElem (get_lt h)]
      rw [List.getElem?_eq_getElem (get_lt h)] at h
      simp at h; simp [h]) o h1
    omega

/-- One more edge x is gone through: the least of what is left of both. -/
theorem InvM.step {a b : List Int} {kp : Bool → Bool → Bool} {i j : Nat} {O : List Int} (h : InvM a b kp i j O) (ha : Inc a) (hb : Inc b) {i' j' : Nat} {x : Int}
    (hi : (i' = i ∧ ∀ o ∈ a.drop i, x < o) ∨ (i' = i + 1 ∧ a[i]? = some x)) (hj : (j' = j ∧ ∀ o ∈ b.drop j, x < o) ∨ (j' = j + 1 ∧ b[j]? = some x))
    (hx : a[i]? = some x ∨ b[j]? = some x) (hij : i + j < i' + j')
    {O' : List Int} (hO : (O' = O ++ [x] ∧ ¬ (kp (decide (i' % 2 = 1)) (decide (j' % 2 = 1)) = decide (O.length % 2 = 1))) ∨ (O' = O ∧ kp (decide (i' % 2 = 1)) (decide (j' % 2 = 1)) = decide (O.length % 2 = 1))) :
    InvM a b kp i' j' O' := by
  have hda : ∀ o ∈ a.drop i', x < o := by
    rcases hi with ⟨rfl, h1⟩ | ⟨rfl, h1⟩
    · exact h1
    · exact fun o ho => inc_take_drop ha (i + 1) x (by rw [List.take_succ_eq_append_getElem (get_lt h1)]; rw [List.getElem?_eq_getElem (get_lt h1)] at h1; simp at h1; simp [h1]) o ho
  have hdb : ∀ o ∈ b.drop j', x < o := by
    rcases hj with ⟨rfl, h1⟩ | ⟨rfl, h1⟩
    · exact h1
    · exact fun o ho => inc_take_drop hb (j + 1) x (by rw [List.take_succ_eq_append_getElem (get_lt h1)]; rw [List.getElem?_eq_getElem (get_lt h1)] at h1; simp at h1; simp [h1]) o ho
  have suba : ∀ o ∈ a.drop i', o ∈ a.drop i := by
    rcases hi with ⟨rfl, _⟩ | ⟨rfl, _⟩
    · exact fun o ho => ho
    · exact fun o ho => drop_sub ho
  have subb : ∀ o ∈ b.drop j', o ∈ b.drop j := by
    rcases hj with ⟨rfl, _⟩ | ⟨rfl, _⟩
    · exact fun o ho => ho
    · exact fun o ho => drop_sub ho
  have tka : ∀ o ∈ a.take i', o ≤ x := by
    intro o ho
    rcases hx with hx | hx
    · rcases hi with ⟨rfl, _⟩ | ⟨rfl, _⟩
      · have := inc_take_drop ha i' o ho x (head_mem hx); omega
      · rcases take_mem ho with h2 | h2
        · have := inc_take_drop ha i o h2 x (head_mem hx); omega
        · rw [hx] at h2; injection h2 with h2; omega
    · rcases hi with ⟨rfl, _⟩ | ⟨rfl, h1⟩
      · have := h.cross.1 o ho x (head_mem hx); omega
      · rcases take_mem ho with h2 | h2
        · have := h.cross.1 o h2 x (head_mem hx); omega
        · rw [h1] at h2; injection h2 with h2; omega
  have tkb : ∀ o ∈ b.take j', o ≤ x := by
    intro o ho
    rcases hx with hx | hx
    · rcases hj with ⟨rfl, _⟩ | ⟨rfl, h1⟩
      · have := h.cross.2 o ho x (head_mem hx); omega
      · rcases take_mem ho with h2 | h2
        · have := h.cross.2 o h2 x (head_mem hx); omega
        · rw [h1] at h2; injection h2 with h2; omega
    · rcases hj with ⟨rfl, _⟩ | ⟨rfl, _⟩
      · have := inc_take_drop hb j' o ho x (head_mem hx); omega
      · rcases take_mem ho with h2 | h2
        · have := inc_take_drop hb j o h2 x (head_mem hx); omega
        · rw [hx] at h2; injection h2 with h2; omega
  have ltx : ∀ o ∈ O, o < x := fun o ho => by
    rcases hx with hx | hx
    · exact h.lta o ho x (head_mem hx)
    · exact h.ltb o ho x (head_mem hx)
  have ia' : i' ≤ a.length := by
    rcases hi with ⟨rfl, _⟩ | ⟨rfl, h1⟩
    · exact h.ia
    · have := get_lt h1; omega
  have jb' : j' ≤ b.length := by
    rcases hj with ⟨rfl, _⟩ | ⟨rfl, h1⟩
    · exact h.jb
    · have := get_lt h1; omega
  have hO' : ∀ o ∈ O', o ≤ x := by
    rcases hO with ⟨rfl, _⟩ | ⟨rfl, _⟩
    · intro o ho; simp at ho; rcases ho with ho | rfl
      · have := ltx o ho; omega
      · omega
    · intro o ho; have := ltx o ho; omega
  refine ⟨ia', jb', ?_, ?_, ?_, ⟨?_, ?_⟩, ?_, ?_, ?_⟩
  · rcases hO with ⟨rfl, _⟩ | ⟨rfl, _⟩
    · exact List.pairwise_append.2 ⟨h.inc, by simp, fun o ho y hy => by simp at hy; subst hy; exact ltx o ho⟩
    · exact h.inc
  · intro o ho y hy; have := hO' o ho; have := hda y hy; omega
  · intro o ho y hy; have := hO' o ho; have := hdb y hy; omega
  · intro o ho y hy; have := tka o ho; have := hdb y hy; omega
  · intro o ho y hy; have := tkb o ho; have := hda y hy; omega
  · intro y h1 h2
    by_cases hy : y < x
    · have e1 : ∀ o ∈ a.drop i, y < o := by
        intro o ho
        rcases hi with ⟨rfl, h3⟩ | ⟨rfl, h3⟩
        · exact h1 o ho
        · rcases drop_mem ho with h4 | h4
          · rw [h3] at h4; injection h4 with h4; omega
          · exact h1 o h4
      have e2 : ∀ o ∈ b.drop j, y < o := by
        intro o ho
        rcases hj with ⟨rfl, h3⟩ | ⟨rfl, h3⟩
        · exact h2 o ho
        · rcases drop_mem ho with h4 | h4
          · rw [h3] at h4; injection h4 with h4; omega
          · exact h2 o h4
      rw [← h.par y e1 e2]
      rcases hO with ⟨rfl, _⟩ | ⟨rfl, _⟩
      · exact inE_app_far (by simpa using hy)
      · rfl
    · rw [inE_split ia' (fun e he => by have := tka e he; omega) h1, inE_split jb' (fun e he => by have := tkb e he; omega) h2, inE_all (fun e he => by have := hO' e he; omega)]
      rcases hO with ⟨rfl, h3⟩ | ⟨rfl, h3⟩
      · rw [List.length_append]
        cases hk : kp (decide (i' % 2 = 1)) (decide (j' % 2 = 1)) with
        | true => rw [hk] at h3; simp at h3; simp; omega
        | false => rw [hk] at h3; simp at h3; simp; omega
      · exact h3.symm
  · rcases hO with ⟨rfl, _⟩ | ⟨rfl, _⟩
    · intro o ho; simp at ho
      rcases ho with ho | rfl
      · exact h.sub o ho
      · rcases hx with hx | hx
        · exact .inl (get_mem hx)
        · exact .inr (get_mem hx)
    · exact h.sub
  · have := h.len
    rcases hO with ⟨rfl, _⟩ | ⟨rfl, _⟩
    · simp; omega
    · omega

/-- What a merge of two rows is. -/
structure Mrg (a b : List Int) (kp : Bool → Bool → Bool) (O : List Int) : Prop where
  inc : Inc O
  par : ∀ x, inE O x = kp (inE a x) (inE b x)
  even : O.length % 2 = 0
  sub : ∀ o ∈ O, o ∈ a ∨ o ∈ b
  len : O.length ≤ a.length + b.length
theorem InvM.done {a b : List Int} {kp : Bool → Bool → Bool} {O : List Int} (h : InvM a b kp a.length b.length O) (hk : kp false false = false) (ha : a.length % 2 = 0) (hb : b.length % 2 = 0) : Mrg a b kp O := by
  have par : ∀ x, inE O x = kp (inE a x) (inE b x) := fun x => h.par x (by simp) (by simp)
  refine ⟨h.inc, par, ?_, h.sub, h.len⟩
  obtain ⟨t, ht⟩ := top_of (a ++ (b ++ O))
  have := par t
  rw [inE_all (fun e he => ht e (by simp [he])), inE_all (fun e he => ht e (by simp [he])), inE_all (fun e he => ht e (by simp [he])), ha, hb] at this
  simp [hk] at this
  omega

end Go.Proofs.Ytafceieenhogpaa
