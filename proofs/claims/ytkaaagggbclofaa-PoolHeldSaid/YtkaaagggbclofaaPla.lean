/-
  What is proved: plain mathematics of a pool: a list of buffers in the row in which they were made; what its steps make of it; what the maps of names and of those that are there say. No program.
-/
import Derived.Test.YtkaaagggbclofaaZz2
namespace Go.Proofs.Ytkaaagggbclofaa
open Go.RowKit Go.Sort

/-- A buffer: its id, whether it is named, how often it is held, its sides, its colors. -/
structure Bf where
  id : Int
  nm : Bool
  hd : Nat
  W : Nat
  H : Nat
  L : List Int
instance : Inhabited Bf := ⟨⟨0, false, 0, 0, 0, []⟩⟩
def Bf.th (s : Bf) : Bool := s.nm || decide (0 < s.hd)
/-- The place of the one that is named so. -/
def plF (i : Int) : List Bf → Option Nat
  | [] => none
  | s :: S => if s.nm = true ∧ s.id = i then some 0 else (plF i S).map (· + 1)
def plN (i : Int) (S : List Bf) : Int := match plF i S with | some k => k | none => -1
theorem plF_some {i : Int} : ∀ {S : List Bf} {k : Nat}, plF i S = some k → ∃ s, S[k]? = some s ∧ s.nm = true ∧ s.id = i
  | [], k, h => by simp [plF] at h
  | s :: S, k, h => by
    unfold plF at h
    split at h
    · rename_i hc
      cases h
      exact ⟨s, rfl, hc.1, hc.2⟩
    · rw [Option.map_eq_some_iff] at h
      obtain ⟨j, hj, rfl⟩ := h
      obtain ⟨s', h1, h2⟩ := plF_some hj
      exact ⟨s', by simpa using h1, h2⟩
theorem plF_none {i : Int} : ∀ {S : List Bf}, plF i S = none → ∀ (k : Nat) (s : Bf), S[k]? = some s → s.nm = true → s.id ≠ i
  | [], _, k, s, hk, _ => by simp at hk
  | a :: S, h, k, s, hk, hn => by
    unfold plF at h
    split at h
    · cases h
    · rename_i hc
      have h' : plF i S = none := by simpa using h
      cases k with
      | zero =>
        have : a = s := by simpa using hk
        subst this
        exact fun e => hc ⟨hn, e⟩
      | succ k => exact plF_none h' k s (by simpa using hk) hn
theorem plF_lt {i : Int} {S : List Bf} {k : Nat} (h : plF i S = some k) : k < S.length := by
  obtain ⟨s, h1, _⟩ := plF_some h
  exact (List.getElem?_eq_some_iff.1 h1).1
theorem plF_at {i : Int} {S : List Bf} {k : Nat} (h : plF i S = some k) : ∀ (j : Nat) (s : Bf), j < k → S[j]? = some s → ¬ (s.nm = true ∧ s.id = i) := by
  induction S generalizing k with
  | nil => simp [plF] at h
  | cons a S ih =>
    unfold plF at h
    split at h
    · cases h; intro j s hj; omega
    · rename_i hc
      rw [Option.map_eq_some_iff] at h
      obtain ⟨k', hk', rfl⟩ := h
      intro j s hj hs
      cases j with
      | zero =>
        have : a = s := by simpa using hs
        subst this; exact hc
      | succ j => exact ih hk' j s (by omega) (by simpa using hs)
theorem plF_is {i : Int} {S : List Bf} {k : Nat} {s : Bf} (hk : S[k]? = some s) (h1 : s.nm = true ∧ s.id = i) (h2 : ∀ (j : Nat) (s : Bf), j < k → S[j]? = some s → ¬ (s.nm = true ∧ s.id = i)) : plF i S = some k := by
  induction S generalizing k with
  | nil => simp at hk
  | cons a S ih =>
    unfold plF
    cases k with
    | zero =>
      have : a = s := by simpa using hk
      subst this; rw [if_pos h1]
    | succ k =>
      rw [if_neg (h2 0 a (by omega) rfl), ih (k := k) (by simpa using hk) (fun j s hj hs => h2 (j + 1) s (by omega) (by simpa using hs))]
      rfl
theorem plF_no {i : Int} {S : List Bf} (h : ∀ (k : Nat) (s : Bf), S[k]? = some s → ¬ (s.nm = true ∧ s.id = i)) : plF i S = none := by
  cases hf : plF i S with
  | none => rfl
  | some k =>
    obtain ⟨s, h1, h2⟩ := plF_some hf
    exact absurd h2 (h k s h1)

/-- A map of names: each id that is named, and the number of the one that is. -/
structure NmQ (N : List Ik) (S : List Bf) : Prop where
  asc : Asc N
  len : N.length ≤ S.length
  mem : ∀ i n, (i, n) ∈ N ↔ ∃ (k : Nat) (s : Bf), n = (k : Int) ∧ S[k]? = some s ∧ s.nm = true ∧ s.id = i
/-- A map of those that are there: their numbers, and where they lie. -/
structure ThQ (M : List Ik) (S : List Bf) (bk : Nat → Nat) : Prop where
  asc : Asc M
  len : M.length ≤ S.length
  mem : ∀ n b, (n, b) ∈ M ↔ ∃ (k : Nat) (s : Bf), n = (k : Int) ∧ S[k]? = some s ∧ s.th = true ∧ b = (bk k : Int)
theorem NmQ.nil : NmQ [] [] := ⟨List.Pairwise.nil, Nat.le_refl _, by simp⟩
theorem ThQ.nil (bk : Nat → Nat) : ThQ [] [] bk := ⟨List.Pairwise.nil, Nat.le_refl _, by simp⟩
theorem asc_one {N : List Ik} (h : Asc N) {i a b : Int} (h1 : (i, a) ∈ N) (h2 : (i, b) ∈ N) : a = b := by
  have e1 := kindL_yes h h1
  have e2 := kindL_yes h h2
  simp only at e1 e2
  rw [← e1, ← e2]
theorem NmQ.one {N : List Ik} {S : List Bf} (h : NmQ N S) {j k : Nat} {s t : Bf} (hj : S[j]? = some s) (hk : S[k]? = some t) (h1 : s.nm = true) (h2 : t.nm = true) (h3 : s.id = t.id) : j = k := by
  have a := (h.mem s.id j).2 ⟨j, s, rfl, hj, h1, rfl⟩
  have b := (h.mem s.id k).2 ⟨k, t, rfl, hk, h2, h3.symm⟩
  have := asc_one h.asc a b
  omega
theorem NmQ.has {N : List Ik} {S : List Bf} (h : NmQ N S) (i : Int) : hasL N i = (plF i S).isSome := by
  cases hf : plF i S with
  | none =>
    cases hh : hasL N i
    · rfl
    · obtain ⟨⟨a, n⟩, hp, rfl⟩ := (hasL_iff N i).1 hh
      obtain ⟨k, s, _, h1, h2, h3⟩ := (h.mem a n).1 hp
      exact absurd h3 (plF_none hf k s h1 h2)
  | some k =>
    obtain ⟨s, h1, h2, h3⟩ := plF_some hf
    exact (hasL_iff N i).2 ⟨(i, (k : Int)), (h.mem _ _).2 ⟨k, s, rfl, h1, h2, h3⟩, rfl⟩
theorem NmQ.kind {N : List Ik} {S : List Bf} (h : NmQ N S) {i : Int} {k : Nat} (hf : plF i S = some k) : kindL N i = k := by
  obtain ⟨s, h1, h2, h3⟩ := plF_some hf
  exact kindL_yes (p := (i, (k : Int))) h.asc ((h.mem _ _).2 ⟨k, s, rfl, h1, h2, h3⟩)
theorem plF_of {N : List Ik} {S : List Bf} (h : NmQ N S) {k : Nat} {s : Bf} (hk : S[k]? = some s) (hn : s.nm = true) : plF s.id S = some k := by
  cases hf : plF s.id S with
  | none => exact absurd rfl (plF_none hf k s hk hn)
  | some j =>
    obtain ⟨t, h1, h2, h3⟩ := plF_some hf
    rw [h.one hk h1 hn h2 h3.symm]
theorem ThQ.has {M : List Ik} {S : List Bf} {bk : Nat → Nat} (h : ThQ M S bk) {k : Nat} {s : Bf} (hk : S[k]? = some s) : hasL M k = s.th := by
  cases hs : s.th
  · cases hh : hasL M k
    · rfl
    · obtain ⟨⟨a, n⟩, hp, e⟩ := (hasL_iff M k).1 hh
      obtain ⟨j, t, h1, h2, h3, _⟩ := (h.mem a n).1 hp
      simp only at e
      have : j = k := by omega
      subst this
      rw [hk] at h2; cases h2
      rw [hs] at h3; cases h3
  · exact (hasL_iff M k).2 ⟨((k : Int), (bk k : Int)), (h.mem _ _).2 ⟨k, s, rfl, hk, hs, rfl⟩, rfl⟩
theorem ThQ.out {M : List Ik} {S : List Bf} {bk : Nat → Nat} (h : ThQ M S bk) {n : Int} (hn : n < 0 ∨ (S.length : Int) ≤ n) : hasL M n = false := by
  cases hh : hasL M n
  · rfl
  · obtain ⟨⟨a, b⟩, hp, e⟩ := (hasL_iff M n).1 hh
    obtain ⟨j, t, h1, h2, _⟩ := (h.mem a b).1 hp
    have := (List.getElem?_eq_some_iff.1 h2).1
    simp only at e
    omega
theorem ThQ.kind {M : List Ik} {S : List Bf} {bk : Nat → Nat} (h : ThQ M S bk) {k : Nat} {s : Bf} (hk : S[k]? = some s) (hs : s.th = true) : kindL M k = bk k :=
  kindL_yes (p := ((k : Int), (bk k : Int))) h.asc ((h.mem _ _).2 ⟨k, s, rfl, hk, hs, rfl⟩)
theorem getElem?_push {α : Type} {S : List α} {x s : α} {k : Nat} : (S ++ [x])[k]? = some s ↔ S[k]? = some s ∨ (k = S.length ∧ s = x) := by
  rcases Nat.lt_trichotomy k S.length with h | h | h
  · rw [List.getElem?_append_left h]
    exact ⟨.inl, fun h' => by rcases h' with h' | h'; exact h'; omega⟩
  · subst h
    rw [List.getElem?_append_right (Nat.le_refl _)]
    simp [eq_comm]
  · rw [List.getElem?_eq_none (by simp; omega), List.getElem?_eq_none (by omega)]
    simp; omega
theorem getElem?_put {α : Type} {S : List α} {x s : α} {k j : Nat} (hk : k < S.length) : (S.set k x)[j]? = some s ↔ (j = k ∧ s = x) ∨ (j ≠ k ∧ S[j]? = some s) := by
  by_cases h : j = k
  · subst h
    rw [List.getElem?_set_self hk]
    simp [eq_comm]
  · rw [List.getElem?_set_ne (fun e => h e.symm)]
    simp [h]
/-- A new one, that is named so. -/
theorem NmQ.push {N : List Ik} {S : List Bf} (h : NmQ N S) {x : Bf} (hx : x.nm = true) (hf : plF x.id S = none) : NmQ (insL (x.id, (S.length : Int)) N) (S ++ [x]) := by
  have hn : hasL N x.id = false := by rw [h.has, hf]; rfl
  refine ⟨h.asc.ins hn, by rw [insL_len, List.length_append]; have := h.len; simp; omega, fun i n => ?_⟩
  rw [mem_insL, h.mem]
  constructor
  · rintro (e | ⟨k, s, h1, h2, h3, h4⟩)
    · cases e
      exact ⟨S.length, x, rfl, getElem?_push.2 (.inr ⟨rfl, rfl⟩), hx, rfl⟩
    · exact ⟨k, s, h1, getElem?_push.2 (.inl h2), h3, h4⟩
  · rintro ⟨k, s, h1, h2, h3, h4⟩
    rcases getElem?_push.1 h2 with h2 | ⟨rfl, rfl⟩
    · exact .inr ⟨k, s, h1, h2, h3, h4⟩
    · left; rw [h1, h4]
theorem ThQ.push {M : List Ik} {S : List Bf} {bk bk' : Nat → Nat} (h : ThQ M S bk) {x : Bf} (hx : x.th = true) (hb : ∀ k, k < S.length → bk' k = bk k) : ThQ (insL ((S.length : Int), (bk' S.length : Int)) M) (S ++ [x]) bk' := by
  have hn : hasL M (S.length : Int) = false := h.out (.inr (Int.le_refl _))
  refine ⟨h.asc.ins hn, by rw [insL_len, List.length_append]; have := h.len; simp; omega, fun i n => ?_⟩
  rw [mem_insL, h.mem]
  constructor
  · rintro (e | ⟨k, s, h1, h2, h3, h4⟩)
    · cases e
      exact ⟨S.length, x, rfl, getElem?_push.2 (.inr ⟨rfl, rfl⟩), hx, rfl⟩
    · exact ⟨k, s, h1, getElem?_push.2 (.inl h2), h3, by rw [hb k (List.getElem?_eq_some_iff.1 h2).1]; exact h4⟩
  · rintro ⟨k, s, h1, h2, h3, h4⟩
    rcases getElem?_push.1 h2 with h2 | ⟨rfl, rfl⟩
    · exact .inr ⟨k, s, h1, h2, h3, by rw [← hb k (List.getElem?_eq_some_iff.1 h2).1]; exact h4⟩
    · left; rw [h1, h4]
/-- One of them is otherwise now. -/
theorem NmQ.put {N : List Ik} {S : List Bf} (h : NmQ N S) {k : Nat} {s t : Bf} (hk : S[k]? = some s) (h1 : t.nm = s.nm) (h2 : t.id = s.id) : NmQ N (S.set k t) := by
  have hl := (List.getElem?_eq_some_iff.1 hk).1
  refine ⟨h.asc, by rw [List.length_set]; exact h.len, fun i n => ?_⟩
  rw [h.mem]
  constructor
  · rintro ⟨j, x, e1, e2, e3, e4⟩
    by_cases hj : j = k
    · subst hj
      rw [hk] at e2; cases e2
      exact ⟨j, t, e1, (getElem?_put hl).2 (.inl ⟨rfl, rfl⟩), by rw [h1]; exact e3, by rw [h2]; exact e4⟩
    · exact ⟨j, x, e1, (getElem?_put hl).2 (.inr ⟨hj, e2⟩), e3, e4⟩
  · rintro ⟨j, x, e1, e2, e3, e4⟩
    rcases (getElem?_put hl).1 e2 with ⟨rfl, rfl⟩ | ⟨hj, e2⟩
    · exact ⟨j, s, e1, hk, by rw [← h1]; exact e3, by rw [← h2]; exact e4⟩
    · exact ⟨j, x, e1, e2, e3, e4⟩
theorem NmQ.drop {N : List Ik} {S : List Bf} (h : NmQ N S) {k : Nat} {s t : Bf} (hk : S[k]? = some s) (h1 : s.nm = true) (h2 : t.nm = false) : NmQ (dropL N s.id) (S.set k t) := by
  have hl := (List.getElem?_eq_some_iff.1 hk).1
  refine ⟨List.Pairwise.sublist List.filter_sublist h.asc, by rw [List.length_set]; exact Nat.le_trans (dropL_le _ _) h.len, fun i n => ?_⟩
  unfold dropL
  rw [List.mem_filter, h.mem]
  constructor
  · rintro ⟨⟨j, x, e1, e2, e3, e4⟩, e5⟩
    have hj : j ≠ k := by
      rintro rfl
      rw [hk] at e2; cases e2
      simp [e4] at e5
    exact ⟨j, x, e1, (getElem?_put hl).2 (.inr ⟨hj, e2⟩), e3, e4⟩
  · rintro ⟨j, x, e1, e2, e3, e4⟩
    rcases (getElem?_put hl).1 e2 with ⟨rfl, rfl⟩ | ⟨hj, e2⟩
    · rw [h2] at e3; cases e3
    · refine ⟨⟨j, x, e1, e2, e3, e4⟩, ?_⟩
      have : x.id ≠ s.id := fun e => hj (h.one e2 hk e3 h1 e)
      simp only [Bool.not_eq_true', beq_eq_false_iff_ne]
      rw [← e4]; exact this
theorem ThQ.put {M : List Ik} {S : List Bf} {bk : Nat → Nat} (h : ThQ M S bk) {k : Nat} {s t : Bf} (hk : S[k]? = some s) (h1 : t.th = s.th) : ThQ M (S.set k t) bk := by
  have hl := (List.getElem?_eq_some_iff.1 hk).1
  refine ⟨h.asc, by rw [List.length_set]; exact h.len, fun i n => ?_⟩
  rw [h.mem]
  constructor
  · rintro ⟨j, x, e1, e2, e3, e4⟩
    by_cases hj : j = k
    · subst hj
      rw [hk] at e2; cases e2
      exact ⟨j, t, e1, (getElem?_put hl).2 (.inl ⟨rfl, rfl⟩), by rw [h1]; exact e3, e4⟩
    · exact ⟨j, x, e1, (getElem?_put hl).2 (.inr ⟨hj, e2⟩), e3, e4⟩
  · rintro ⟨j, x, e1, e2, e3, e4⟩
    rcases (getElem?_put hl).1 e2 with ⟨rfl, rfl⟩ | ⟨hj, e2⟩
    · exact ⟨j, s, e1, hk, by rw [← h1]; exact e3, e4⟩
    · exact ⟨j, x, e1, e2, e3, e4⟩
theorem ThQ.drop {M : List Ik} {S : List Bf} {bk : Nat → Nat} (h : ThQ M S bk) {k : Nat} {t : Bf} (hl : k < S.length) (h2 : t.th = false) : ThQ (dropL M k) (S.set k t) bk := by
  refine ⟨List.Pairwise.sublist List.filter_sublist h.asc, by rw [List.length_set]; exact Nat.le_trans (dropL_le _ _) h.len, fun i n => ?_⟩
  unfold dropL
  rw [List.mem_filter, h.mem]
  constructor
  · rintro ⟨⟨j, x, e1, e2, e3, e4⟩, e5⟩
    have hj : j ≠ k := by
      rintro rfl
      simp [e1] at e5
    exact ⟨j, x, e1, (getElem?_put hl).2 (.inr ⟨hj, e2⟩), e3, e4⟩
  · rintro ⟨j, x, e1, e2, e3, e4⟩
    rcases (getElem?_put hl).1 e2 with ⟨rfl, rfl⟩ | ⟨hj, e2⟩
    · rw [h2] at e3; cases e3
    · refine ⟨⟨j, x, e1, e2, e3, e4⟩, ?_⟩
      simp only [Bool.not_eq_true', beq_eq_false_iff_ne]
      rw [e1]; omega

/-- The numbers of those that are there. -/
def thL (S : List Bf) : List Int := ((List.range S.length).filter fun k => (S.getD k default).th).map fun k : Nat => (k : Int)
theorem mem_thL (S : List Bf) (n : Int) : n ∈ thL S ↔ ∃ (k : Nat) (s : Bf), n = (k : Int) ∧ S[k]? = some s ∧ s.th = true := by
  unfold thL
  simp only [List.mem_map, List.mem_filter, List.mem_range]
  constructor
  · rintro ⟨k, ⟨h1, h2⟩, rfl⟩
    refine ⟨k, S[k], rfl, List.getElem?_eq_getElem h1, ?_⟩
    rw [List.getD_eq_getElem?_getD, List.getElem?_eq_getElem h1] at h2
    exact h2
  · rintro ⟨k, s, rfl, h1, h2⟩
    refine ⟨k, ⟨(List.getElem?_eq_some_iff.1 h1).1, ?_⟩, rfl⟩
    rw [List.getD_eq_getElem?_getD, h1]
    exact h2
theorem thL_asc (S : List Bf) : (thL S).Pairwise (· < ·) := by
  unfold thL
  rw [List.pairwise_map]
  exact (List.Pairwise.sublist List.filter_sublist List.pairwise_lt_range).imp (fun h => by omega)
/-- What was collected of the map of those that are there. -/
def ColT (M : List Ik) (left : Lit → Bool) (ks : List Int) : Prop := ks.Nodup ∧ ∀ x, x ∈ ks ↔ (hasL M x = true ∧ left (.int .i64 x) = false)
theorem ColT.start (M : List Ik) : ColT M (Maps.has (dmap M)) [] := ⟨List.nodup_nil, fun x => by
  rw [has_dmap]
  cases hasL M x <;> simp⟩
theorem ColT.step {M : List Ik} {left : Lit → Bool} {ks : List Int} (h : ColT M left ks) {x : Int} (hlk : left (.int .i64 x) = true) {d : DataW Unit} (hx : ∀ z, (dmap M).atKey (.int .i64 x) z = d) :
    ColT M (fun z => left z && !z.sameKey (.int .i64 x)) (ks ++ [x]) := by
  have hh : hasL M x = true := by
    cases h' : hasL M x
    · have e1 := hx .nil
      have e2 := hx (.lit (.int .i64 0))
      rw [atKey_dmap, h'] at e1 e2
      rw [← e1] at e2
      cases e2
    · rfl
  have hnew : x ∉ ks := fun h' => by have := ((h.2 x).1 h').2; rw [hlk] at this; cases this
  refine ⟨List.nodup_append.2 ⟨h.1, by simp, fun a ha b hb => by simp at hb; subst hb; exact fun e => hnew (e ▸ ha)⟩, fun y => ?_⟩
  by_cases hy : y = x
  · subst hy; simp [hh, sameI]
  · simp [h.2 y, hy, sameI]
theorem ColT.sorted {M : List Ik} {S : List Bf} {bk : Nat → Nat} {left : Lit → Bool} {ks : List Int} (h : ColT M left ks) (hl : ∀ z, left z = false) (hM : ThQ M S bk) : ks.mergeSort (fun x y => decide (x ≤ y)) = thL S := by
  have hperm : ks.Perm (thL S) := (List.perm_ext_iff_of_nodup h.1 ((thL_asc S).imp (fun hlt => by omega))).2 fun x => by
    rw [h.2 x, hl, mem_thL]
    simp only [and_true]
    rw [hasL_iff]
    constructor
    · rintro ⟨⟨a, b⟩, hp, rfl⟩
      obtain ⟨k, s, h1, h2, h3, _⟩ := (hM.mem a b).1 hp
      exact ⟨k, s, h1, h2, h3⟩
    · rintro ⟨k, s, rfl, h2, h3⟩
      exact ⟨((k : Int), (bk k : Int)), (hM.mem _ _).2 ⟨k, s, rfl, h2, h3, rfl⟩, rfl⟩
  refine List.Perm.eq_of_pairwise (le := fun a b : Int => a ≤ b) (fun a b _ _ h1 h2 => Int.le_antisymm h1 h2) ?_ ((thL_asc S).imp (fun h => Int.le_of_lt h)) ((List.mergeSort_perm _ _).trans hperm)
  have := List.pairwise_mergeSort (le := fun (x y : Int) => decide (x ≤ y)) (by intro a b c; simp; omega) (by intro a b; simp; omega) ks
  exact this.imp (by intro a b; simp)

end Go.Proofs.Ytkaaagggbclofaa
