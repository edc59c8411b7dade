/-
  What is proved: plain mathematics of a table of ids: a list of ids and their kinds that rises; what a map that reads so tells. No program.
-/
import Derived.Test.YtdbkklhnoflbpaaGw
import Derived.Maps.RangeWalk
namespace Go.Proofs.Ytdbkklhnoflbpaa
open Go.RowKit Go.Sort

abbrev Ik := Int × Int
def dmap (L : List Ik) : DataW Unit := .map (L.map fun p => (.int .i64 p.1, .lit (.int .i64 p.2)))
def hasL (L : List Ik) (i : Int) : Bool := L.any fun p => p.1 == i
def kindL (L : List Ik) (i : Int) : Int := match L.find? (fun p => p.1 == i) with | some p => p.2 | none => 0
def insL (x : Ik) : List Ik → List Ik
  | [] => [x]
  | y :: r => if x.1 < y.1 then x :: y :: r else y :: insL x r
def dropL (L : List Ik) (i : Int) : List Ik := L.filter fun p => !(p.1 == i)
def ofL (L : List Ik) (k : Int) : List Int := (L.filter fun p => p.2 == k).map fun p => p.1
def Asc (L : List Ik) : Prop := L.Pairwise fun p q => p.1 < q.1
/-- A table's ids: they rise, and may be. -/
structure OkT (m : Int) (L : List Ik) : Prop where
  asc : Asc L
  ids : ∀ p ∈ L, 1 ≤ p.1 ∧ p.1 ≤ 4294967295 ∧ 1 ≤ p.2 ∧ p.2 ≤ 8
  most : (L.length : Int) ≤ m
  m1 : 1 ≤ m
  m32 : m ≤ 32
def mostN (n : Int) : Int := min (max n 1) 32
theorem OkT.nil (n : Int) : OkT (mostN n) [] := ⟨List.Pairwise.nil, by simp, by unfold mostN; simp; omega, by unfold mostN; omega, by unfold mostN; omega⟩
theorem OkT.len {m : Int} {L : List Ik} (h : OkT m L) : L.length ≤ 32 := by have := h.most; have := h.m32; omega

theorem sameI (a b : Int) : (Lit.int .i64 a).sameKey (.int .i64 b) = (a == b) := by
  by_cases h : a = b <;> simp [Lit.sameKey, h]
theorem has_dmap (L : List Ik) (i : Int) : Maps.has (dmap L) (.int .i64 i) = hasL L i := by
  unfold dmap hasL
  rw [Maps.has_eq, List.any_map]
  congr 1; funext p; exact sameI _ _
theorem size_dmap (L : List Ik) : Maps.size (dmap L) = L.length := by simp [dmap, Maps.size_eq]
theorem atKey_dmap : ∀ (L : List Ik) (i : Int) (z : DataW Unit), (dmap L).atKey (.int .i64 i) z = if hasL L i then .lit (.int .i64 (kindL L i)) else z
  | [], i, z => by simp [dmap, DataW.atKey, hasL]
  | p :: L, i, z => by
    have ih := atKey_dmap L i z
    unfold dmap DataW.atKey hasL kindL at *
    simp only [List.map_cons, List.find?_cons, List.any_cons, sameI] at ih ⊢
    by_cases h : p.1 = i
    · simp [h]
    · simp only [beq_eq_false_iff_ne.2 h, Bool.false_or]; exact ih
theorem kindL_no {L : List Ik} {i : Int} (h : hasL L i = false) : kindL L i = 0 := by
  unfold hasL at h
  unfold kindL
  rw [List.find?_eq_none.2 (fun p hp => by have := List.any_eq_false.1 h p hp; simpa using this)]
theorem atKey_dmap0 (L : List Ik) (i : Int) : (dmap L).atKey (.int .i64 i) (.lit (.int .i64 0)) = .lit (.int .i64 (kindL L i)) := by
  rw [atKey_dmap]
  cases h : hasL L i
  · rw [kindL_no h]; rfl
  · rfl
theorem ins_dmap (x : Ik) : ∀ L : List Ik, DataW.insert (H := Unit) (.int .i64 x.1, .lit (.int .i64 x.2)) (L.map fun p => (.int .i64 p.1, .lit (.int .i64 p.2))) = (insL x L).map fun p => (.int .i64 p.1, .lit (.int .i64 p.2))
  | [] => rfl
  | y :: r => by
    have hb : (Lit.int .i64 x.1).before (.int .i64 y.1) = decide (x.1 < y.1) := rfl
    unfold insL
    rw [List.map_cons]
    unfold DataW.insert
    rw [hb]
    by_cases h : x.1 < y.1
    · simp [h]
    · simp only [decide_eq_false h, Bool.false_eq_true, if_false, if_neg h, List.map_cons]
      rw [ins_dmap x r]
theorem filter_map_d (L : List Ik) (i : Int) : (L.map fun p => ((.int .i64 p.1, .lit (.int .i64 p.2)) : Lit × DataW Unit)).filter (fun p => !p.1.sameKey (.int .i64 i)) = (dropL L i).map fun p => (.int .i64 p.1, .lit (.int .i64 p.2)) := by
  unfold dropL
  rw [List.filter_map]
  congr 2
  funext p
  simp [sameI]
theorem dropL_no {L : List Ik} {i : Int} (h : hasL L i = false) : dropL L i = L := by
  unfold dropL
  rw [List.filter_eq_self]
  intro p hp
  have := List.any_eq_false.1 h p hp
  simpa using this
theorem put_dmap {L : List Ik} {i : Int} (h : hasL L i = false) (k : Int) : (dmap L).put (.int .i64 i) (.lit (.int .i64 k)) = dmap (insL (i, k) L) := by
  unfold dmap DataW.put
  dsimp only
  rw [filter_map_d, dropL_no h, ins_dmap (i, k)]
theorem del_dmap (L : List Ik) (i : Int) : (dmap L).del (.int .i64 i) = dmap (dropL L i) := by
  unfold dmap DataW.del
  dsimp only
  rw [filter_map_d]

theorem insL_len (x : Ik) : ∀ L : List Ik, (insL x L).length = L.length + 1
  | [] => rfl
  | y :: r => by
    unfold insL
    split
    · rfl
    · simp [insL_len x r]
theorem mem_insL (x : Ik) : ∀ (L : List Ik) (p : Ik), p ∈ insL x L ↔ p = x ∨ p ∈ L
  | [], p => by simp [insL]
  | y :: r, p => by
    unfold insL
    split
    · simp
    · simp only [List.mem_cons, mem_insL x r]
      constructor
      · rintro (h | h | h)
        · exact .inr (.inl h)
        · exact .inl h
        · exact .inr (.inr h)
      · rintro (h | h | h)
        · exact .inr (.inl h)
        · exact .inl h
        · exact .inr (.inr h)
theorem hasL_iff (L : List Ik) (i : Int) : hasL L i = true ↔ ∃ p ∈ L, p.1 = i := by simp [hasL, List.any_eq_true]
theorem hasL_no {L : List Ik} {i : Int} (h : hasL L i = false) : ∀ p ∈ L, p.1 ≠ i := fun p hp => by
  have := List.any_eq_false.1 h p hp
  simpa using this
theorem Asc.ins {x : Ik} : ∀ {L : List Ik}, Asc L → hasL L x.1 = false → Asc (insL x L)
  | [], _, _ => by simp [insL, Asc]
  | y :: r, h, hn => by
    obtain ⟨h1, h2⟩ := List.pairwise_cons.1 h
    unfold insL
    split
    · rename_i hlt
      refine List.pairwise_cons.2 ⟨fun q hq => ?_, h⟩
      rcases List.mem_cons.1 hq with rfl | hq
      · exact hlt
      · have := h1 q hq; omega
    · rename_i hlt
      have hn' : hasL r x.1 = false := by
        simp only [hasL, List.any_cons, Bool.or_eq_false_iff] at hn ⊢; exact hn.2
      have hy := hasL_no hn y (by simp)
      refine List.pairwise_cons.2 ⟨fun q hq => ?_, Asc.ins h2 hn'⟩
      rcases (mem_insL x r q).1 hq with rfl | hq
      · show y.1 < q.1; omega
      · exact h1 q hq
theorem insL_at (x : Ik) : ∀ (L : List Ik) (k : Nat), k ≤ L.length → (∀ j p, L[j]? = some p → k ≤ j → x.1 < p.1) → (∀ j p, L[j]? = some p → j < k → ¬ x.1 < p.1) → insL x L = L.take k ++ [x] ++ L.drop k
  | [], k, hk, _, _ => by simp at hk; subst hk; rfl
  | y :: r, 0, _, h1, _ => by
    have := h1 0 y rfl (Nat.le_refl _)
    unfold insL
    rw [if_pos this]; rfl
  | y :: r, k + 1, hk, h1, h2 => by
    have := h2 0 y rfl (by omega)
    unfold insL
    rw [if_neg this, insL_at x r k (by simpa using hk) (fun j p hj hkj => h1 (j + 1) p (by simpa using hj) (by omega)) (fun j p hj hkj => h2 (j + 1) p (by simpa using hj) (by omega))]
    rfl
theorem Asc.at {L : List Ik} (h : Asc L) {i j : Nat} {p q : Ik} (hp : L[i]? = some p) (hq : L[j]? = some q) (hij : i < j) : p.1 < q.1 := by
  obtain ⟨h1, rfl⟩ := List.getElem?_eq_some_iff.1 hp
  obtain ⟨h2, rfl⟩ := List.getElem?_eq_some_iff.1 hq
  exact List.pairwise_iff_getElem.1 h i j h1 h2 hij
theorem kindL_yes {L : List Ik} (h : Asc L) {p : Ik} (hp : p ∈ L) : kindL L p.1 = p.2 := by
  unfold kindL
  cases hf : L.find? (fun q => q.1 == p.1) with
  | none => have := List.find?_eq_none.1 hf p hp; simp at this
  | some q =>
    have hq1 : q.1 = p.1 := by simpa using List.find?_some hf
    have hq2 := List.mem_of_find?_eq_some hf
    obtain ⟨i, hi⟩ := List.getElem?_of_mem hp
    obtain ⟨j, hj⟩ := List.getElem?_of_mem hq2
    rcases Nat.lt_trichotomy i j with hij | hij | hij
    · have := h.at hi hj hij; omega
    · subst hij; rw [hi] at hj; cases hj; rfl
    · have := h.at hj hi hij; omega
theorem kindL_pos {m : Int} {L : List Ik} (h : OkT m L) (i : Int) : 0 < kindL L i ↔ hasL L i = true := by
  constructor
  · intro h1
    cases h2 : hasL L i
    · rw [kindL_no h2] at h1; omega
    · rfl
  · intro h1
    obtain ⟨p, hp, rfl⟩ := (hasL_iff L i).1 h1
    rw [kindL_yes h.asc hp]
    have := h.ids p hp; omega
theorem OkT.ins {m : Int} {L : List Ik} (h : OkT m L) {i k : Int} (hi : 1 ≤ i ∧ i ≤ 4294967295) (hk : 1 ≤ k ∧ k ≤ 8) (hn : hasL L i = false) (hm : (L.length : Int) < m) : OkT m (insL (i, k) L) :=
  ⟨h.asc.ins hn, fun p hp => by
    rcases (mem_insL _ _ _).1 hp with rfl | hp
    · exact ⟨hi.1, hi.2, hk.1, hk.2⟩
    · exact h.ids p hp, by rw [insL_len]; omega, h.m1, h.m32⟩
theorem dropL_le (L : List Ik) (i : Int) : (dropL L i).length ≤ L.length := List.length_filter_le _ _
theorem OkT.drop {m : Int} {L : List Ik} (h : OkT m L) (i : Int) : OkT m (dropL L i) :=
  ⟨List.Pairwise.sublist List.filter_sublist h.asc, fun p hp => h.ids p (List.mem_filter.1 hp).1, by have := h.most; have := dropL_le L i; omega, h.m1, h.m32⟩
theorem dropL_lt (L : List Ik) (i : Int) : hasL L i = decide ((dropL L i).length < L.length) := by
  cases h : hasL L i
  · rw [dropL_no h]; simp
  · obtain ⟨p, hp, rfl⟩ := (hasL_iff L i).1 h
    have : (dropL L p.1).length < L.length := by
      unfold dropL
      rcases Nat.lt_or_ge (L.filter fun q => !(q.1 == p.1)).length L.length with h' | h'
      · exact h'
      · have := List.length_filter_eq_length_iff.1 (Nat.le_antisymm (List.length_filter_le _ _) h') p hp
        simp at this
    simp [this]

/-- What Add tells. -/
def addE (m : Int) (L : List Ik) (i k : Int) : Int :=
  if i < 1 ∨ 4294967295 < i ∨ k < 1 ∨ 8 < k then 1 else if hasL L i then 6 else if m ≤ L.length then 10 else 0
def addL (m : Int) (L : List Ik) (i k : Int) : List Ik := if addE m L i k = 0 then insL (i, k) L else L
theorem addE_bad {m : Int} {L : List Ik} {i k : Int} (h : i < 1 ∨ 4294967295 < i ∨ k < 1 ∨ 8 < k) : addE m L i k = 1 := if_pos h
theorem addE_ok {m : Int} {L : List Ik} {i k : Int} (h : ¬(i < 1 ∨ 4294967295 < i ∨ k < 1 ∨ 8 < k)) : addE m L i k = if hasL L i then 6 else if m ≤ L.length then 10 else 0 := if_neg h
theorem OkT.add {m : Int} {L : List Ik} (h : OkT m L) (i k : Int) : OkT m (addL m L i k) := by
  unfold addL
  split
  · rename_i h0
    unfold addE at h0
    split at h0
    · cases h0
    · rename_i h1
      split at h0
      · cases h0
      · rename_i h2
        split at h0
        · cases h0
        · rename_i h3
          exact h.ins (by omega) (by omega) (by simpa using h2) (by omega)
  · exact h
def findE (L : List Ik) (i k : Int) : Int := if hasL L i then (if kindL L i = k then 0 else 9) else 5

/-- Ids of a kind. -/
theorem ofL_asc {L : List Ik} (h : Asc L) (k : Int) : (ofL L k).Pairwise (· < ·) := by
  unfold ofL
  rw [List.pairwise_map]
  exact List.Pairwise.sublist List.filter_sublist h
theorem mem_ofL (L : List Ik) (k x : Int) : x ∈ ofL L k ↔ (x, k) ∈ L := by
  unfold ofL
  simp only [List.mem_map, List.mem_filter, beq_iff_eq]
  constructor
  · rintro ⟨⟨a, b⟩, ⟨h1, h2⟩, h3⟩; simp only at h2 h3; subst h2 h3; exact h1
  · intro h; exact ⟨(x, k), ⟨h, rfl⟩, rfl⟩
theorem ofL_len (L : List Ik) (k : Int) : (ofL L k).length ≤ L.length := by unfold ofL; rw [List.length_map]; exact List.length_filter_le _ _
theorem mem_kind {L : List Ik} (h : Asc L) (i : Int) (hi : hasL L i = true) (k : Int) : (i, k) ∈ L ↔ kindL L i = k := by
  obtain ⟨p, hp, rfl⟩ := (hasL_iff L i).1 hi
  constructor
  · intro hq; exact kindL_yes h hq
  · intro hq; rw [kindL_yes h hp] at hq; subst hq; exact hp
/-- What was collected of a map that is gone through: those of the kind that are no longer to come. -/
def Col (L : List Ik) (k : Int) (left : Lit → Bool) (ks : List Int) : Prop := ks.Nodup ∧ ∀ x, x ∈ ks ↔ ((x, k) ∈ L ∧ left (.int .i64 x) = false)
theorem Col.start (L : List Ik) (k : Int) : Col L k (Maps.has (dmap L)) [] := ⟨List.nodup_nil, fun x => by
  rw [has_dmap]
  constructor
  · intro h; cases h
  · rintro ⟨h1, h2⟩; have := hasL_no h2 _ h1; simp at this⟩
theorem Col.skip {L : List Ik} {k : Int} {left : Lit → Bool} {ks : List Int} (h : Col L k left ks) {x c : Int} (hx : ∀ z, (dmap L).atKey (.int .i64 x) z = .lit (.int .i64 c)) (hL : Asc L) (hc : c ≠ k) :
    Col L k (fun z => left z && !z.sameKey (.int .i64 x)) ks := ⟨h.1, fun y => by
  have hh : hasL L x = true := by
    cases h' : hasL L x
    · have := hx .nil; rw [atKey_dmap, h'] at this; cases this
    · rfl
  have hkx : kindL L x = c := by have := hx .nil; rw [atKey_dmap, hh] at this; simpa using this
  rw [h.2 y]
  by_cases hy : y = x
  · subst hy
    have : (y, k) ∉ L := fun h' => hc (by rw [← hkx]; exact (mem_kind hL y hh k).1 h')
    simp [this]
  · simp [sameI, hy]⟩
theorem Col.step {L : List Ik} {k : Int} {left : Lit → Bool} {ks : List Int} (h : Col L k left ks) {x : Int} (hlk : left (.int .i64 x) = true) (hx : ∀ z, (dmap L).atKey (.int .i64 x) z = .lit (.int .i64 k)) (hL : Asc L) :
    Col L k (fun z => left z && !z.sameKey (.int .i64 x)) (ks ++ [x]) := by
  have hh : hasL L x = true := by
    cases h' : hasL L x
    · have := hx .nil; rw [atKey_dmap, h'] at this; cases this
    · rfl
  have hkx : kindL L x = k := by have := hx .nil; rw [atKey_dmap, hh] at this; simpa using this
  have hm := (mem_kind hL x hh k).2 hkx
  have hnew : x ∉ ks := fun h' => by have := ((h.2 x).1 h').2; rw [hlk] at this; cases this
  refine ⟨List.nodup_append.2 ⟨h.1, by simp, fun a ha b hb => by simp at hb; subst hb; exact fun e => hnew (e ▸ ha)⟩, fun y => ?_⟩
  by_cases hy : y = x
  · subst hy; simp [hm, sameI]
  · simp [h.2 y, hy, sameI]
theorem Col.perm {L : List Ik} {k : Int} {left : Lit → Bool} {ks : List Int} (h : Col L k left ks) (hl : ∀ z, left z = false) (hL : Asc L) : ks.Perm (ofL L k) :=
  (List.perm_ext_iff_of_nodup h.1 ((ofL_asc hL k).imp (fun hlt => by omega))).2 fun x => by rw [h.2 x, hl, mem_ofL]; simp
theorem Col.sorted {L : List Ik} {k : Int} {left : Lit → Bool} {ks : List Int} (h : Col L k left ks) (hl : ∀ z, left z = false) (hL : Asc L) : ks.mergeSort (fun x y => decide (x ≤ y)) = ofL L k := by
  refine List.Perm.eq_of_pairwise (le := fun a b : Int => a ≤ b) (fun a b _ _ h1 h2 => Int.le_antisymm h1 h2) ?_ ((ofL_asc hL k).imp (fun h => Int.le_of_lt h)) ((List.mergeSort_perm _ _).trans (h.perm hl hL))
  have := List.pairwise_mergeSort (le := fun (x y : Int) => decide (x ≤ y)) (by intro a b c; simp; omega) (by intro a b; simp; omega) ks
  exact this.imp (by intro a b; simp)

end Go.Proofs.Ytdbkklhnoflbpaa
