/-
  What is proved: plain facts on rows of keys: a key's place, rows without one of them, with one put in, raised, lowered. No conditions but those named.
-/
import Derived.Test.YtgjoipndhlngnaaKx
namespace Go.Proofs.Ytgjoipndhlngnaa

abbrev Ky := Int × Int
/-- A key's place, as a number. -/
def ixK (L : List Ky) (k : Ky) : Nat := L.idxOf k
def atK (L : List Ky) (k : Ky) : Int := if k ∈ L then (ixK L k : Int) else -1
def addK (L : List Ky) (k : Ky) : List Ky := if k ∈ L then L else L ++ [k]
def newK (l : List Ky) : List Ky := l.foldl addK []
def dropK (L : List Ky) (k : Ky) : List Ky := L.filter (fun x => x != k)
def leftK (L : List Ky) (c : Int) : List Ky := L.filter (fun x => x.1 != c)
def goneK (L : List Ky) (c : Int) : List Ky := L.filter (fun x => x.1 == c)
def stepK (k o x : Ky) : List Ky := (if x ≠ k then [x] else []) ++ (if x = o then [k] else [])
def raiseK (L : List Ky) (k o : Ky) : List Ky := if k ∈ L ∧ o ∈ L ∧ k ≠ o then L.flatMap (stepK k o) else L
def raiseE (L : List Ky) (k o : Ky) : Int := if k ∈ L ∧ o ∈ L then (if k = o then 1 else 0) else 5
def topK (L : List Ky) (k : Ky) : List Ky := if k ∈ L then dropK L k ++ [k] else L
def lowK (L : List Ky) (k : Ky) : List Ky := if k ∈ L then k :: dropK L k else L
def oneE (L : List Ky) (k : Ky) : Int := if k ∈ L then 0 else 5
def overK (L : List Ky) (k : Ky) : List Ky := if k ∈ L then L.drop (ixK L k + 1) else []

theorem ix_lt {L : List Ky} {k : Ky} (h : k ∈ L) : ixK L k < L.length := List.idxOf_lt_length_iff.2 h
theorem ix_get {L : List Ky} {k : Ky} (h : k ∈ L) : L[ixK L k]? = some k := by
  rw [List.getElem?_eq_getElem (ix_lt h)]
  exact congrArg some (List.getElem_idxOf (ix_lt h))
theorem at_ge {L : List Ky} {k : Ky} : (0 ≤ atK L k) ↔ k ∈ L := by
  unfold atK
  split
  · rename_i h; exact ⟨fun _ => h, fun _ => by omega⟩
  · rename_i h; exact ⟨fun h' => by omega, fun h' => absurd h' h⟩
theorem at_lo (L : List Ky) (k : Ky) : -1 ≤ atK L k := by unfold atK; split <;> omega
theorem at_hi (L : List Ky) (k : Ky) : atK L k < L.length := by
  unfold atK; split
  · rename_i h; have := ix_lt h; omega
  · omega
theorem at_in {L : List Ky} {k : Ky} (h : k ∈ L) : atK L k = (ixK L k : Int) := if_pos h
theorem at_out {L : List Ky} {k : Ky} (h : ¬ k ∈ L) : atK L k = -1 := if_neg h
/-- Where it is first met. -/
theorem ix_first : ∀ {L : List Ky} {k : Ky} {j : Nat}, L[j]? = some k → (∀ x ∈ L.take j, x ≠ k) → ixK L k = j
  | [], _, _, h, _ => by simp at h
  | y :: L, k, 0, h, _ => by
    simp at h; subst h
    simp [ixK]
  | y :: L, k, j + 1, h, hn => by
    have h0 : y ≠ k := hn y (by simp)
    have := ix_first (L := L) (k := k) (j := j) (by simpa using h) (fun x hx => hn x (by simp; exact .inr hx))
    unfold ixK at *
    rw [List.idxOf_cons, show (y == k) = false from by simpa using h0, this]
    rfl
theorem at_first {L : List Ky} {k : Ky} {j : Nat} (h : L[j]? = some k) (hn : ∀ x ∈ L.take j, x ≠ k) : atK L k = j := by
  rw [at_in (List.mem_of_getElem? h), ix_first h hn]
theorem at_none {L : List Ky} {k : Ky} (hn : ∀ x ∈ L.take L.length, x ≠ k) : atK L k = -1 := by
  rw [List.take_length] at hn
  exact at_out fun h => hn k h rfl
theorem take_ne {L : List Ky} {k x : Ky} {j : Nat} (hj : L[j]? = some x) (hx : x ≠ k) (hn : ∀ y ∈ L.take j, y ≠ k) : ∀ y ∈ L.take (j + 1), y ≠ k := by
  intro y hy
  rw [List.take_add_one, hj] at hy
  rcases List.mem_append.1 hy with h | h
  · exact hn y h
  · simp at h; subst h; exact hx
theorem nodup_ix {L : List Ky} {j : Nat} {k : Ky} (hd : L.Nodup) (h : L[j]? = some k) : ixK L k = j := by
  obtain ⟨h1, h2⟩ := List.getElem?_eq_some_iff.1 h
  have hm : k ∈ L := List.mem_of_getElem? h
  have h3 := ix_lt hm
  have h4 := ix_get hm
  rw [List.getElem?_eq_getElem h3] at h4
  injection h4 with h4
  rcases Nat.lt_trichotomy (ixK L k) j with h5 | h5 | h5
  · exact absurd (h4.trans h2.symm) (List.pairwise_iff_getElem.1 hd _ _ h3 h1 h5)
  · exact h5
  · exact absurd (h2.trans h4.symm) (List.pairwise_iff_getElem.1 hd _ _ h1 h3 h5)

theorem add_len (L : List Ky) (k : Ky) : (addK L k).length ≤ L.length + 1 := by unfold addK; split <;> simp
theorem add_nodup {L : List Ky} (h : L.Nodup) (k : Ky) : (addK L k).Nodup := by
  unfold addK
  split
  · exact h
  · rename_i hk
    rw [List.nodup_append]
    exact ⟨h, by simp, fun a ha b hb => by simp at hb; subst hb; exact fun e => hk (e ▸ ha)⟩
theorem new_snoc (l : List Ky) (k : Ky) : newK (l ++ [k]) = addK (newK l) k := by simp [newK, List.foldl_append]
theorem new_take {l : List Ky} {j : Nat} {k : Ky} (h : l[j]? = some k) : newK (l.take (j + 1)) = addK (newK (l.take j)) k := by
  rw [List.take_add_one, h]; exact new_snoc _ _
theorem foldl_add_nodup : ∀ (l : List Ky) (L : List Ky), L.Nodup → (l.foldl addK L).Nodup
  | [], _, h => h
  | k :: l, L, h => foldl_add_nodup l (addK L k) (add_nodup h k)
theorem new_nodup (l : List Ky) : (newK l).Nodup := foldl_add_nodup l [] List.nodup_nil
theorem foldl_add_len : ∀ (l : List Ky) (L : List Ky), (l.foldl addK L).length ≤ L.length + l.length
  | [], L => by simp
  | k :: l, L => by
    have h1 := foldl_add_len l (addK L k)
    have h2 := add_len L k
    simp only [List.foldl_cons, List.length_cons]; omega
theorem new_len (l : List Ky) : (newK l).length ≤ l.length := by have := foldl_add_len l []; simp at this; exact this
/-- Keys that are apart, added one by one, stand as they came. -/
theorem foldl_add_apart : ∀ (l L : List Ky), (L ++ l).Nodup → l.foldl addK L = L ++ l
  | [], L, _ => by simp
  | k :: l, L, h => by
    have hk : ¬ k ∈ L := fun hm => by
      rw [List.nodup_append] at h
      exact h.2.2 k hm k (by simp) rfl
    have e : addK L k = L ++ [k] := if_neg hk
    simp only [List.foldl_cons]
    rw [e, foldl_add_apart l (L ++ [k]) (by simpa using h)]
    simp
theorem new_apart {l : List Ky} (h : l.Nodup) : newK l = l := by have := foldl_add_apart l [] (by simpa using h); simpa [newK] using this

theorem drop_len (L : List Ky) (k : Ky) : (dropK L k).length ≤ L.length := List.length_filter_le _ _
theorem drop_nodup {L : List Ky} (h : L.Nodup) (k : Ky) : (dropK L k).Nodup := h.filter _
theorem drop_mem {L : List Ky} {k x : Ky} : x ∈ dropK L k ↔ x ∈ L ∧ x ≠ k := by simp [dropK]
theorem drop_out {L : List Ky} {k : Ky} (h : ¬ k ∈ L) : dropK L k = L := by
  unfold dropK
  rw [List.filter_eq_self]
  intro x hx
  simp
  rintro rfl
  exact h hx
theorem drop_lt (L : List Ky) (k : Ky) : (dropK L k).length < L.length ↔ k ∈ L := by
  constructor
  · intro h
    by_cases hk : k ∈ L
    · exact hk
    · rw [drop_out hk] at h; omega
  · intro h
    have h1 := drop_len L k
    rcases Nat.lt_or_ge (dropK L k).length L.length with h2 | h2
    · exact h2
    · have : dropK L k = L := List.filter_eq_self.2 (by
        have := List.length_filter_eq_length_iff.1 (show (List.filter (fun x => x != k) L).length = L.length from by unfold dropK at h1 h2; omega)
        exact this)
      have h3 : k ∈ dropK L k := by rw [this]; exact h
      exact absurd rfl (drop_mem.1 h3).2
/-- The key's place taken out. -/
theorem drop_cut {L : List Ky} (hd : L.Nodup) {k : Ky} (_h : k ∈ L) : dropK L k = L.take (ixK L k) ++ L.drop (ixK L k + 1) := by
  have h1 : L.erase k = dropK L k := hd.erase_eq_filter k
  rw [← h1, List.erase_eq_eraseIdx_of_idxOf (i := ixK L k) rfl, List.eraseIdx_eq_take_drop_succ]
theorem drop_len1 {L : List Ky} (hd : L.Nodup) {k : Ky} (h : k ∈ L) : (dropK L k).length = L.length - 1 := by
  have h1 := ix_lt h
  rw [drop_cut hd h]; simp; omega
/-- Raised: taken out, and put in behind the other one. -/
theorem flat_out {k o : Ky} : ∀ {L : List Ky}, ¬ k ∈ L → ¬ o ∈ L → L.flatMap (stepK k o) = L
  | [], _, _ => rfl
  | x :: L, h1, h2 => by
    simp at h1 h2
    rw [List.flatMap_cons, flat_out h1.2 h2.2]
    unfold stepK
    rw [if_pos (fun e => h1.1 e.symm), if_neg (fun e => h2.1 e.symm)]
    rfl
theorem flat_drop {k o : Ky} (hne : k ≠ o) : ∀ {L : List Ky}, ¬ o ∈ L → L.flatMap (stepK k o) = dropK L k
  | [], _ => rfl
  | x :: L, h2 => by
    simp at h2
    rw [List.flatMap_cons, flat_drop hne h2.2]
    have e1 : (if x = o then [k] else ([] : List Ky)) = [] := if_neg (fun e => h2.1 e.symm)
    unfold stepK dropK
    rw [List.filter_cons, e1]
    by_cases hx : x = k
    · subst hx; simp
    · have h3 : (x != k) = true := by simpa using hx
      rw [if_pos hx, if_pos h3]; simp
theorem raise_cut {L : List Ky} (hd : L.Nodup) {k o : Ky} (_hk : k ∈ L) (ho : o ∈ L) (hne : k ≠ o) :
    L.flatMap (stepK k o) = (dropK L k).take (ixK (dropK L k) o + 1) ++ [k] ++ (dropK L k).drop (ixK (dropK L k) o + 1) := by
  have hoD : o ∈ dropK L k := drop_mem.2 ⟨ho, fun e => hne e.symm⟩
  obtain ⟨P, Q, rfl⟩ := List.append_of_mem ho
  have hP : ¬ o ∈ P := fun hm => by
    rw [List.nodup_append] at hd
    exact hd.2.2 o hm o (by simp) rfl
  have hQ : ¬ o ∈ Q := fun hm => by
    rw [List.nodup_append] at hd
    have := hd.2.1
    rw [List.nodup_cons] at this
    exact this.1 hm
  have e1 : (P ++ o :: Q).flatMap (stepK k o) = dropK P k ++ (o :: k :: dropK Q k) := by
    rw [List.flatMap_append, flat_drop hne hP, List.flatMap_cons, flat_drop hne hQ]
    unfold stepK
    rw [if_pos (fun e => hne e.symm), if_pos rfl]
    simp
  have e2 : dropK (P ++ o :: Q) k = dropK P k ++ (o :: dropK Q k) := by
    unfold dropK
    have h3 : (o != k) = true := by simpa using fun e : o = k => hne e.symm
    rw [List.filter_append, List.filter_cons, if_pos h3]
  have hP2 : ∀ x ∈ (dropK (P ++ o :: Q) k).take (dropK P k).length, x ≠ o := by
    rw [e2, List.take_left]
    intro x hx e
    subst e
    exact hP (drop_mem.1 hx).1
  have hix : ixK (dropK (P ++ o :: Q) k) o = (dropK P k).length := ix_first (by rw [e2]; simp) hP2
  rw [hix, e1, e2]
  have t1 : (dropK P k ++ (o :: dropK Q k)).take ((dropK P k).length + 1) = dropK P k ++ [o] := by
    rw [List.take_append, List.take_of_length_le (by omega)]; simp
  have t2 : (dropK P k ++ (o :: dropK Q k)).drop ((dropK P k).length + 1) = dropK Q k := by
    rw [List.drop_append]; simp
  rw [t1, t2]
  simp

end Go.Proofs.Ytgjoipndhlngnaa
