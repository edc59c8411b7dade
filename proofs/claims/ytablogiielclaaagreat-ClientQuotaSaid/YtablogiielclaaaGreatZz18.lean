/-
  What is proved: plain mathematics of a table of ids: a list of ids and their kinds that rises; what a map that reads so tells. No program. plain mathematics of a pool: a list of buffers in the row in which they were made; what its steps make of it; what the maps of names and of those that are there say. No program. what each function of package ids does to a table that reads as a list of ids that rises. Conditions: the table's ids rise and may be; numbers are ints. what Copy of package image does, from one image to another one. what Copy of package image does, from any image, from itself too, and by any distance. No conditions but bounds. nothing of its own: it hands on the document's Small of a rectangle. No conditions. the statement ImageCopies: what is copied there is told there, all else stays. No conditions. what hasAll and first of package image hand back, and where Write refuses. what Write of package image does where it does not refuse. what Read of package image does where it does not refuse, and where it does. plain mathematics of colors read and written. No program. plain mathematics: what is copied row by row, and written row by row, is what the document copies, and writes, point by point. No program. what a clone of an image is, and when two images are the same, by package image and by the document. No conditions but bounds. what Put, Set and Same of the document's images hand back. No conditions but bounds. the document's Read of an image. the document's Write of an image. Conditions: sides of an image; what is written are bytes. the document's Write of an image, where it is not refused: the points become what is written up to the first color that may not be. Conditions: sides of an image; what is written are bytes. what Copy of package image does, written out for another image and for itself; what At at any point, and Copy, of the document's images hand back. No conditions but bounds. what Copy of the document's images hands back. No conditions but bounds.
-/
import Derived.Test.YtablogiielclaaaGreatZz1
import Derived.Test.YtablogiielclaaaGreatZz11
import Derived.Test.YtablogiielclaaaGreatZz9
import Derived.Test.YtablogiielclaaaGreatZz13
import Derived.Test.YtablogiielclaaaGreatZz10
import Derived.Test.YtablogiielclaaaGreatZz6
import Derived.Maps.RangeWalk
import Derived.Laws.CopyOwn
import Derived.StillTailTactics
import Derived.Deep.RegionHeld3
import Derived.LoopTactic
import Derived.IntWalk
import Derived.Deep.DeepCutAuto
import Derived.Outline
import Derived.WalkSpells
namespace Go.Proofs.YtablogiielclaaaGreat
open Go.RowKit Go.Sort

abbrev Ik := Int × Int
def dmap (L : List Ik) : DataW Unit := .map (L.map fun p => (.int .i64 p.1, .lit (.int .i64 p.2)))
def hasI (L : List Ik) (i : Int) : Bool := L.any fun p => p.1 == i
def kindL (L : List Ik) (i : Int) : Int := match L.find? (fun p => p.1 == i) with | some p => p.2 | none => 0
def insL (x : Ik) : List Ik → List Ik
  | [] => [x]
  | y :: r => if x.1 < y.1 then x :: y :: r else y :: insL x r
def dropL (L : List Ik) (i : Int) : List Ik := L.filter fun p => !(p.1 == i)
def ofL (L : List Ik) (k : Int) : List Int := (L.filter fun p => p.2 == k).map fun p => p.1
def Asc (L : List Ik) : Prop := L.Pairwise fun p q => p.1 < q.1
/-- A table's ids: they rise, and may be. -/
structure OkT (m : Int) (L : List Ik) : Prop where
  asc : Asc L
  ids : ∀ p ∈ L, 1 ≤ p.1 ∧ p.1 ≤ 4294967295 ∧ 1 ≤ p.2 ∧ p.2 ≤ 8
  most : (L.length : Int) ≤ m
  m1 : 1 ≤ m
  m32 : m ≤ 32
def mostN (n : Int) : Int := min (max n 1) 32
theorem OkT.nil (n : Int) : OkT (mostN n) [] := ⟨List.Pairwise.nil, by simp, by unfold mostN; simp; omega, by unfold mostN; omega, by unfold mostN; omega⟩
theorem OkT.len {m : Int} {L : List Ik} (h : OkT m L) : L.length ≤ 32 := by have := h.most; have := h.m32; omega

theorem sameI (a b : Int) : (Lit.int .i64 a).sameKey (.int .i64 b) = (a == b) := by
  by_cases h : a = b <;> simp [Lit.sameKey, h]
theorem has_dmap (L : List Ik) (i : Int) : Maps.has (dmap L) (.int .i64 i) = hasI L i := by
  unfold dmap hasI
  rw [Maps.has_eq, List.any_map]
  congr 1; funext p; exact sameI _ _
theorem size_dmap (L : List Ik) : Maps.size (dmap L) = L.length := by simp [dmap, Maps.size_eq]
theorem atKey_dmap : ∀ (L : List Ik) (i : Int) (z : DataW Unit), (dmap L).atKey (.int .i64 i) z = if hasI L i then .lit (.int .i64 (kindL L i)) else z
  | [], i, z => by simp [dmap, DataW.atKey, hasI]
  | p :: L, i, z => by
    have ih := atKey_dmap L i z
    unfold dmap DataW.atKey hasI kindL at *
    simp only [List.map_cons, List.find?_cons, List.any_cons, sameI] at ih ⊢
    by_cases h : p.1 = i
    · simp [h]
    · simp only [beq_eq_false_iff_ne.2 h, Bool.false_or]; exact ih
theorem kindL_no {L : List Ik} {i : Int} (h : hasI L i = false) : kindL L i = 0 := by
  unfold hasI at h
  unfold kindL
  rw [List.find?_eq_none.2 (fun p hp => by have := List.any_eq_false.1 h p hp; simpa using this)]
theorem atKey_dmap0 (L : List Ik) (i : Int) : (dmap L).atKey (.int .i64 i) (.lit (.int .i64 0)) = .lit (.int .i64 (kindL L i)) := by
  rw [atKey_dmap]
  cases h : hasI L i
  · rw [kindL_no h]; rfl
  · rfl
theorem ins_dmap (x : Ik) : ∀ L : List Ik, DataW.insert (H := Unit) (.int .i64 x.1, .lit (.int .i64 x.2)) (L.map fun p => (.int .i64 p.1, .lit (.int .i64 p.2))) = (insL x L).map fun p => (.int .i64 p.1, .lit (.int .i64 p.2))
  | [] => rfl
  | y :: r => by
    have hb : (Lit.int .i64 x.1).before (.int .i64 y.1) = decide (x.1 < y.1) := rfl
    unfold insL
    rw [List.map_cons]
    unfold DataW.insert
    rw [hb]
    by_cases h : x.1 < y.1
    · simp [h]
    · simp only [decide_eq_false h, Bool.false_eq_true, if_false, if_neg h, List.map_cons]
      rw [ins_dmap x r]
theorem filter_map_d (L : List Ik) (i : Int) : (L.map fun p => ((.int .i64 p.1, .lit (.int .i64 p.2)) : Lit × DataW Unit)).filter (fun p => !p.1.sameKey (.int .i64 i)) = (dropL L i).map fun p => (.int .i64 p.1, .lit (.int .i64 p.2)) := by
  unfold dropL
  rw [List.filter_map]
  congr 2
  funext p
  simp [sameI]
theorem dropL_no {L : List Ik} {i : Int} (h : hasI L i = false) : dropL L i = L := by
  unfold dropL
  rw [List.filter_eq_self]
  intro p hp
  have := List.any_eq_false.1 h p hp
  simpa using this
theorem put_dmap {L : List Ik} {i : Int} (h : hasI L i = false) (k : Int) : (dmap L).put (.int .i64 i) (.lit (.int .i64 k)) = dmap (insL (i, k) L) := by
  unfold dmap DataW.put
  dsimp only
  rw [filter_map_d, dropL_no h, ins_dmap (i, k)]
theorem insL_len (x : Ik) : ∀ L : List Ik, (insL x L).length = L.length + 1
  | [] => rfl
  | y :: r => by
    unfold insL
    split
    · rfl
    · simp [insL_len x r]
theorem mem_insL (x : Ik) : ∀ (L : List Ik) (p : Ik), p ∈ insL x L ↔ p = x ∨ p ∈ L
  | [], p => by simp [insL]
  | y :: r, p => by
    unfold insL
    split
    · simp
    · simp only [List.mem_cons, mem_insL x r]
      constructor
      · rintro (h | h | h)
        · exact .inr (.inl h)
        · exact .inl h
        · exact .inr (.inr h)
      · rintro (h | h | h)
        · exact .inr (.inl h)
        · exact .inl h
        · exact .inr (.inr h)
theorem hasI_iff (L : List Ik) (i : Int) : hasI L i = true ↔ ∃ p ∈ L, p.1 = i := by simp [hasI, List.any_eq_true]
theorem hasI_no {L : List Ik} {i : Int} (h : hasI L i = false) : ∀ p ∈ L, p.1 ≠ i := fun p hp => by
  have := List.any_eq_false.1 h p hp
  simpa using this
theorem Asc.ins {x : Ik} : ∀ {L : List Ik}, Asc L → hasI L x.1 = false → Asc (insL x L)
  | [], _, _ => by simp [insL, Asc]
  | y :: r, h, hn => by
    obtain ⟨h1, h2⟩ := List.pairwise_cons.1 h
    unfold insL
    split
    · rename_i hlt
      refine List.pairwise_cons.2 ⟨fun q hq => ?_, h⟩
      rcases List.mem_cons.1 hq with rfl | hq
      · exact hlt
      · have := h1 q hq; omega
    · rename_i hlt
      have hn' : hasI r x.1 = false := by
        simp only [hasI, List.any_cons, Bool.or_eq_false_iff] at hn ⊢; exact hn.2
      have hy := hasI_no hn y (by simp)
      refine List.pairwise_cons.2 ⟨fun q hq => ?_, Asc.ins h2 hn'⟩
      rcases (mem_insL x r q).1 hq with rfl | hq
      · show y.1 < q.1; omega
      · exact h1 q hq
theorem Asc.at {L : List Ik} (h : Asc L) {i j : Nat} {p q : Ik} (hp : L[i]? = some p) (hq : L[j]? = some q) (hij : i < j) : p.1 < q.1 := by
  obtain ⟨h1, rfl⟩ := List.getElem?_eq_some_iff.1 hp
  obtain ⟨h2, rfl⟩ := List.getElem?_eq_some_iff.1 hq
  exact List.pairwise_iff_getElem.1 h i j h1 h2 hij
theorem kindL_yes {L : List Ik} (h : Asc L) {p : Ik} (hp : p ∈ L) : kindL L p.1 = p.2 := by
  unfold kindL
  cases hf : L.find? (fun q => q.1 == p.1) with
  | none => have := List.find?_eq_none.1 hf p hp; simp at this
  | some q =>
    have hq1 : q.1 = p.1 := by simpa using List.find?_some hf
    have hq2 := List.mem_of_find?_eq_some hf
    obtain ⟨i, hi⟩ := List.getElem?_of_mem hp
    obtain ⟨j, hj⟩ := List.getElem?_of_mem hq2
    rcases Nat.lt_trichotomy i j with hij | hij | hij
    · have := h.at hi hj hij; omega
    · subst hij; rw [hi] at hj; cases hj; rfl
    · have := h.at hj hi hij; omega
theorem OkT.ins {m : Int} {L : List Ik} (h : OkT m L) {i k : Int} (hi : 1 ≤ i ∧ i ≤ 4294967295) (hk : 1 ≤ k ∧ k ≤ 8) (hn : hasI L i = false) (hm : (L.length : Int) < m) : OkT m (insL (i, k) L) :=
  ⟨h.asc.ins hn, fun p hp => by
    rcases (mem_insL _ _ _).1 hp with rfl | hp
    · exact ⟨hi.1, hi.2, hk.1, hk.2⟩
    · exact h.ids p hp, by rw [insL_len]; omega, h.m1, h.m32⟩
theorem dropL_le (L : List Ik) (i : Int) : (dropL L i).length ≤ L.length := List.length_filter_le _ _
theorem OkT.drop {m : Int} {L : List Ik} (h : OkT m L) (i : Int) : OkT m (dropL L i) :=
  ⟨List.Pairwise.sublist List.filter_sublist h.asc, fun p hp => h.ids p (List.mem_filter.1 hp).1, by have := h.most; have := dropL_le L i; omega, h.m1, h.m32⟩
/-- What Add tells. -/
def addIE (m : Int) (L : List Ik) (i k : Int) : Int :=
  if i < 1 ∨ 4294967295 < i ∨ k < 1 ∨ 8 < k then 1 else if hasI L i then 6 else if m ≤ L.length then 10 else 0
def addIL (m : Int) (L : List Ik) (i k : Int) : List Ik := if addIE m L i k = 0 then insL (i, k) L else L
theorem addIE_bad {m : Int} {L : List Ik} {i k : Int} (h : i < 1 ∨ 4294967295 < i ∨ k < 1 ∨ 8 < k) : addIE m L i k = 1 := if_pos h
theorem addIE_ok {m : Int} {L : List Ik} {i k : Int} (h : ¬(i < 1 ∨ 4294967295 < i ∨ k < 1 ∨ 8 < k)) : addIE m L i k = if hasI L i then 6 else if m ≤ L.length then 10 else 0 := if_neg h
theorem OkT.add {m : Int} {L : List Ik} (h : OkT m L) (i k : Int) : OkT m (addIL m L i k) := by
  unfold addIL
  split
  · rename_i h0
    unfold addIE at h0
    split at h0
    · cases h0
    · rename_i h1
      split at h0
      · cases h0
      · rename_i h2
        split at h0
        · cases h0
        · rename_i h3
          exact h.ins (by omega) (by omega) (by simpa using h2) (by omega)
  · exact h
def findE (L : List Ik) (i k : Int) : Int := if hasI L i then (if kindL L i = k then 0 else 9) else 5

/-- Ids of a kind. -/
theorem ofL_asc {L : List Ik} (h : Asc L) (k : Int) : (ofL L k).Pairwise (· < ·) := by
  unfold ofL
  rw [List.pairwise_map]
  exact List.Pairwise.sublist List.filter_sublist h
theorem mem_ofL (L : List Ik) (k x : Int) : x ∈ ofL L k ↔ (x, k) ∈ L := by
  unfold ofL
  simp only [List.mem_map, List.mem_filter, beq_iff_eq]
  constructor
  · rintro ⟨⟨a, b⟩, ⟨h1, h2⟩, h3⟩; simp only at h2 h3; subst h2 h3; exact h1
  · intro h; exact ⟨(x, k), ⟨h, rfl⟩, rfl⟩
theorem ofL_len (L : List Ik) (k : Int) : (ofL L k).length ≤ L.length := by unfold ofL; rw [List.length_map]; exact List.length_filter_le _ _
theorem mem_kind {L : List Ik} (h : Asc L) (i : Int) (hi : hasI L i = true) (k : Int) : (i, k) ∈ L ↔ kindL L i = k := by
  obtain ⟨p, hp, rfl⟩ := (hasI_iff L i).1 hi
  constructor
  · intro hq; exact kindL_yes h hq
  · intro hq; rw [kindL_yes h hp] at hq; subst hq; exact hp
/-- What was collected of a map that is gone through: those of the kind that are no longer to come. -/
def Col (L : List Ik) (k : Int) (left : Lit → Bool) (ks : List Int) : Prop := ks.Nodup ∧ ∀ x, x ∈ ks ↔ ((x, k) ∈ L ∧ left (.int .i64 x) = false)
theorem Col.start (L : List Ik) (k : Int) : Col L k (Maps.has (dmap L)) [] := ⟨List.nodup_nil, fun x => by
  rw [has_dmap]
  constructor
  · intro h; cases h
  · rintro ⟨h1, h2⟩; have := hasI_no h2 _ h1; simp at this⟩
theorem Col.skip {L : List Ik} {k : Int} {left : Lit → Bool} {ks : List Int} (h : Col L k left ks) {x c : Int} (hx : ∀ z, (dmap L).atKey (.int .i64 x) z = .lit (.int .i64 c)) (hL : Asc L) (hc : c ≠ k) :
    Col L k (fun z => left z && !z.sameKey (.int .i64 x)) ks := ⟨h.1, fun y => by
  have hh : hasI L x = true := by
    cases h' : hasI L x
    · have := hx .nil; rw [atKey_dmap, h'] at this; cases this
    · rfl
  have hkx : kindL L x = c := by have := hx .nil; rw [atKey_dmap, hh] at this; simpa using this
  rw [h.2 y]
  by_cases hy : y = x
  · subst hy
    have : (y, k) ∉ L := fun h' => hc (by rw [← hkx]; exact (mem_kind hL y hh k).1 h')
    simp [this]
  · simp [sameI, hy]⟩
theorem Col.step {L : List Ik} {k : Int} {left : Lit → Bool} {ks : List Int} (h : Col L k left ks) {x : Int} (hlk : left (.int .i64 x) = true) (hx : ∀ z, (dmap L).atKey (.int .i64 x) z = .lit (.int .i64 k)) (hL : Asc L) :
    Col L k (fun z => left z && !z.sameKey (.int .i64 x)) (ks ++ [x]) := by
  have hh : hasI L x = true := by
    cases h' : hasI L x
    · have := hx .nil; rw [atKey_dmap, h'] at this; cases this
    · rfl
  have hkx : kindL L x = k := by have := hx .nil; rw [atKey_dmap, hh] at this; simpa using this
  have hm := (mem_kind hL x hh k).2 hkx
  have hnew : x ∉ ks := fun h' => by have := ((h.2 x).1 h').2; rw [hlk] at this; cases this
  refine ⟨List.nodup_append.2 ⟨h.1, by simp, fun a ha b hb => by simp at hb; subst hb; exact fun e => hnew (e ▸ ha)⟩, fun y => ?_⟩
  by_cases hy : y = x
  · subst hy; simp [hm, sameI]
  · simp [h.2 y, hy, sameI]
theorem Col.perm {L : List Ik} {k : Int} {left : Lit → Bool} {ks : List Int} (h : Col L k left ks) (hl : ∀ z, left z = false) (hL : Asc L) : ks.Perm (ofL L k) :=
  (List.perm_ext_iff_of_nodup h.1 ((ofL_asc hL k).imp (fun hlt => by omega))).2 fun x => by rw [h.2 x, hl, mem_ofL]; simp
theorem Col.sorted {L : List Ik} {k : Int} {left : Lit → Bool} {ks : List Int} (h : Col L k left ks) (hl : ∀ z, left z = false) (hL : Asc L) : ks.mergeSort (fun x y => decide (x ≤ y)) = ofL L k := by
  refine List.Perm.eq_of_pairwise (le := fun a b : Int => a ≤ b) (fun a b _ _ h1 h2 => Int.le_antisymm h1 h2) ?_ ((ofL_asc hL k).imp (fun h => Int.le_of_lt h)) ((List.mergeSort_perm _ _).trans (h.perm hl hL))
  have := List.pairwise_mergeSort (le := fun (x y : Int) => decide (x ≤ y)) (by intro a b c; simp; omega) (by intro a b; simp; omega) ks
  exact this.imp (by intro a b; simp)

end Go.Proofs.YtablogiielclaaaGreat
namespace Go.Proofs.YtablogiielclaaaGreat
open Go.RowKit Go.Sort

/-- A buffer: its id, whether it is named, how often it is held, its sides, its colors. -/
structure Bf where
  id : Int
  nm : Bool
  hd : Nat
  W : Nat
  H : Nat
  L : List Int
instance : Inhabited Bf := ⟨⟨0, false, 0, 0, 0, []⟩⟩
def Bf.th (s : Bf) : Bool := s.nm || decide (0 < s.hd)
/-- The place of the one that is named so. -/
def plF (i : Int) : List Bf → Option Nat
  | [] => none
  | s :: S => if s.nm = true ∧ s.id = i then some 0 else (plF i S).map (· + 1)
def plN (i : Int) (S : List Bf) : Int := match plF i S with | some k => k | none => -1
theorem plF_some {i : Int} : ∀ {S : List Bf} {k : Nat}, plF i S = some k → ∃ s, S[k]? = some s ∧ s.nm = true ∧ s.id = i
  | [], k, h => by simp [plF] at h
  | s :: S, k, h => by
    unfold plF at h
    split at h
    · rename_i hc
      cases h
      exact ⟨s, rfl, hc.1, hc.2⟩
    · rw [Option.map_eq_some_iff] at h
      obtain ⟨j, hj, rfl⟩ := h
      obtain ⟨s', h1, h2⟩ := plF_some hj
      exact ⟨s', by simpa using h1, h2⟩
theorem plF_none {i : Int} : ∀ {S : List Bf}, plF i S = none → ∀ (k : Nat) (s : Bf), S[k]? = some s → s.nm = true → s.id ≠ i
  | [], _, k, s, hk, _ => by simp at hk
  | a :: S, h, k, s, hk, hn => by
    unfold plF at h
    split at h
    · cases h
    · rename_i hc
      have h' : plF i S = none := by simpa using h
      cases k with
      | zero =>
        have : a = s := by simpa using hk
        subst this
        exact fun e => hc ⟨hn, e⟩
      | succ k => exact plF_none h' k s (by simpa using hk) hn
/-- A map of names: each id that is named, and the number of the one that is. -/
structure NmQ (N : List Ik) (S : List Bf) : Prop where
  asc : Asc N
  len : N.length ≤ S.length
  mem : ∀ i n, (i, n) ∈ N ↔ ∃ (k : Nat) (s : Bf), n = (k : Int) ∧ S[k]? = some s ∧ s.nm = true ∧ s.id = i
/-- A map of those that are there: their numbers, and where they lie. -/
structure ThQ (M : List Ik) (S : List Bf) (bk : Nat → Nat) : Prop where
  asc : Asc M
  len : M.length ≤ S.length
  mem : ∀ n b, (n, b) ∈ M ↔ ∃ (k : Nat) (s : Bf), n = (k : Int) ∧ S[k]? = some s ∧ s.th = true ∧ b = (bk k : Int)
theorem NmQ.nil : NmQ [] [] := ⟨List.Pairwise.nil, Nat.le_refl _, by simp⟩
theorem ThQ.nil (bk : Nat → Nat) : ThQ [] [] bk := ⟨List.Pairwise.nil, Nat.le_refl _, by simp⟩
theorem asc_one {N : List Ik} (h : Asc N) {i a b : Int} (h1 : (i, a) ∈ N) (h2 : (i, b) ∈ N) : a = b := by
  have e1 := kindL_yes h h1
  have e2 := kindL_yes h h2
  simp only at e1 e2
  rw [← e1, ← e2]
theorem NmQ.one {N : List Ik} {S : List Bf} (h : NmQ N S) {j k : Nat} {s t : Bf} (hj : S[j]? = some s) (hk : S[k]? = some t) (h1 : s.nm = true) (h2 : t.nm = true) (h3 : s.id = t.id) : j = k := by
  have a := (h.mem s.id j).2 ⟨j, s, rfl, hj, h1, rfl⟩
  have b := (h.mem s.id k).2 ⟨k, t, rfl, hk, h2, h3.symm⟩
  have := asc_one h.asc a b
  omega
theorem NmQ.has {N : List Ik} {S : List Bf} (h : NmQ N S) (i : Int) : hasI N i = (plF i S).isSome := by
  cases hf : plF i S with
  | none =>
    cases hh : hasI N i
    · rfl
    · obtain ⟨⟨a, n⟩, hp, rfl⟩ := (hasI_iff N i).1 hh
      obtain ⟨k, s, _, h1, h2, h3⟩ := (h.mem a n).1 hp
      exact absurd h3 (plF_none hf k s h1 h2)
  | some k =>
    obtain ⟨s, h1, h2, h3⟩ := plF_some hf
    exact (hasI_iff N i).2 ⟨(i, (k : Int)), (h.mem _ _).2 ⟨k, s, rfl, h1, h2, h3⟩, rfl⟩
theorem NmQ.kind {N : List Ik} {S : List Bf} (h : NmQ N S) {i : Int} {k : Nat} (hf : plF i S = some k) : kindL N i = k := by
  obtain ⟨s, h1, h2, h3⟩ := plF_some hf
  exact kindL_yes (p := (i, (k : Int))) h.asc ((h.mem _ _).2 ⟨k, s, rfl, h1, h2, h3⟩)
theorem ThQ.has {M : List Ik} {S : List Bf} {bk : Nat → Nat} (h : ThQ M S bk) {k : Nat} {s : Bf} (hk : S[k]? = some s) : hasI M k = s.th := by
  cases hs : s.th
  · cases hh : hasI M k
    · rfl
    · obtain ⟨⟨a, n⟩, hp, e⟩ := (hasI_iff M k).1 hh
      obtain ⟨j, t, h1, h2, h3, _⟩ := (h.mem a n).1 hp
      simp only at e
      have : j = k := by omega
      subst this
      rw [hk] at h2; cases h2
      rw [hs] at h3; cases h3
  · exact (hasI_iff M k).2 ⟨((k : Int), (bk k : Int)), (h.mem _ _).2 ⟨k, s, rfl, hk, hs, rfl⟩, rfl⟩
theorem ThQ.out {M : List Ik} {S : List Bf} {bk : Nat → Nat} (h : ThQ M S bk) {n : Int} (hn : n < 0 ∨ (S.length : Int) ≤ n) : hasI M n = false := by
  cases hh : hasI M n
  · rfl
  · obtain ⟨⟨a, b⟩, hp, e⟩ := (hasI_iff M n).1 hh
    obtain ⟨j, t, h1, h2, _⟩ := (h.mem a b).1 hp
    have := (List.getElem?_eq_some_iff.1 h2).1
    simp only at e
    omega
theorem ThQ.kind {M : List Ik} {S : List Bf} {bk : Nat → Nat} (h : ThQ M S bk) {k : Nat} {s : Bf} (hk : S[k]? = some s) (hs : s.th = true) : kindL M k = bk k :=
  kindL_yes (p := ((k : Int), (bk k : Int))) h.asc ((h.mem _ _).2 ⟨k, s, rfl, hk, hs, rfl⟩)
theorem getElem?_push {α : Type} {S : List α} {x s : α} {k : Nat} : (S ++ [x])[k]? = some s ↔ S[k]? = some s ∨ (k = S.length ∧ s = x) := by
  rcases Nat.lt_trichotomy k S.length with h | h | h
  · rw [List.getElem?_append_left h]
    exact ⟨.inl, fun h' => by rcases h' with h' | h'; exact h'; omega⟩
  · subst h
    rw [List.getElem?_append_right (Nat.le_refl _)]
    simp [eq_comm]
  · rw [List.getElem?_eq_none (by simp; omega), List.getElem?_eq_none (by omega)]
    simp; omega
theorem getElem?_put {α : Type} {S : List α} {x s : α} {k j : Nat} (hk : k < S.length) : (S.set k x)[j]? = some s ↔ (j = k ∧ s = x) ∨ (j ≠ k ∧ S[j]? = some s) := by
  by_cases h : j = k
  · subst h
    rw [List.getElem?_set_self hk]
    simp [eq_comm]
  · rw [List.getElem?_set_ne (fun e => h e.symm)]
    simp [h]
/-- A new one, that is named so. -/
theorem NmQ.push {N : List Ik} {S : List Bf} (h : NmQ N S) {x : Bf} (hx : x.nm = true) (hf : plF x.id S = none) : NmQ (insL (x.id, (S.length : Int)) N) (S ++ [x]) := by
  have hn : hasI N x.id = false := by rw [h.has, hf]; rfl
  refine ⟨h.asc.ins hn, by rw [insL_len, List.length_append]; have := h.len; simp; omega, fun i n => ?_⟩
  rw [mem_insL, h.mem]
  constructor
  · rintro (e | ⟨k, s, h1, h2, h3, h4⟩)
    · cases e
      exact ⟨S.length, x, rfl, getElem?_push.2 (.inr ⟨rfl, rfl⟩), hx, rfl⟩
    · exact ⟨k, s, h1, getElem?_push.2 (.inl h2), h3, h4⟩
  · rintro ⟨k, s, h1, h2, h3, h4⟩
    rcases getElem?_push.1 h2 with h2 | ⟨rfl, rfl⟩
    · exact .inr ⟨k, s, h1, h2, h3, h4⟩
    · left; rw [h1, h4]
theorem ThQ.push {M : List Ik} {S : List Bf} {bk bk' : Nat → Nat} (h : ThQ M S bk) {x : Bf} (hx : x.th = true) (hb : ∀ k, k < S.length → bk' k = bk k) : ThQ (insL ((S.length : Int), (bk' S.length : Int)) M) (S ++ [x]) bk' := by
  have hn : hasI M (S.length : Int) = false := h.out (.inr (Int.le_refl _))
  refine ⟨h.asc.ins hn, by rw [insL_len, List.length_append]; have := h.len; simp; omega, fun i n => ?_⟩
  rw [mem_insL, h.mem]
  constructor
  · rintro (e | ⟨k, s, h1, h2, h3, h4⟩)
    · cases e
      exact ⟨S.length, x, rfl, getElem?_push.2 (.inr ⟨rfl, rfl⟩), hx, rfl⟩
    · exact ⟨k, s, h1, getElem?_push.2 (.inl h2), h3, by rw [hb k (List.getElem?_eq_some_iff.1 h2).1]; exact h4⟩
  · rintro ⟨k, s, h1, h2, h3, h4⟩
    rcases getElem?_push.1 h2 with h2 | ⟨rfl, rfl⟩
    · exact .inr ⟨k, s, h1, h2, h3, by rw [← hb k (List.getElem?_eq_some_iff.1 h2).1]; exact h4⟩
    · left; rw [h1, h4]
/-- One of them is otherwise now. -/
theorem NmQ.put {N : List Ik} {S : List Bf} (h : NmQ N S) {k : Nat} {s t : Bf} (hk : S[k]? = some s) (h1 : t.nm = s.nm) (h2 : t.id = s.id) : NmQ N (S.set k t) := by
  have hl := (List.getElem?_eq_some_iff.1 hk).1
  refine ⟨h.asc, by rw [List.length_set]; exact h.len, fun i n => ?_⟩
  rw [h.mem]
  constructor
  · rintro ⟨j, x, e1, e2, e3, e4⟩
    by_cases hj : j = k
    · subst hj
      rw [hk] at e2; cases e2
      exact ⟨j, t, e1, (getElem?_put hl).2 (.inl ⟨rfl, rfl⟩), by rw [h1]; exact e3, by rw [h2]; exact e4⟩
    · exact ⟨j, x, e1, (getElem?_put hl).2 (.inr ⟨hj, e2⟩), e3, e4⟩
  · rintro ⟨j, x, e1, e2, e3, e4⟩
    rcases (getElem?_put hl).1 e2 with ⟨rfl, rfl⟩ | ⟨hj, e2⟩
    · exact ⟨j, s, e1, hk, by rw [← h1]; exact e3, by rw [← h2]; exact e4⟩
    · exact ⟨j, x, e1, e2, e3, e4⟩
theorem NmQ.drop {N : List Ik} {S : List Bf} (h : NmQ N S) {k : Nat} {s t : Bf} (hk : S[k]? = some s) (h1 : s.nm = true) (h2 : t.nm = false) : NmQ (dropL N s.id) (S.set k t) := by
  have hl := (List.getElem?_eq_some_iff.1 hk).1
  refine ⟨List.Pairwise.sublist List.filter_sublist h.asc, by rw [List.length_set]; exact Nat.le_trans (dropL_le _ _) h.len, fun i n => ?_⟩
  unfold dropL
  rw [List.mem_filter, h.mem]
  constructor
  · rintro ⟨⟨j, x, e1, e2, e3, e4⟩, e5⟩
    have hj : j ≠ k := by
      rintro rfl
      rw [hk] at e2; cases e2
      simp [e4] at e5
    exact ⟨j, x, e1, (getElem?_put hl).2 (.inr ⟨hj, e2⟩), e3, e4⟩
  · rintro ⟨j, x, e1, e2, e3, e4⟩
    rcases (getElem?_put hl).1 e2 with ⟨rfl, rfl⟩ | ⟨hj, e2⟩
    · rw [h2] at e3; cases e3
    · refine ⟨⟨j, x, e1, e2, e3, e4⟩, ?_⟩
      have : x.id ≠ s.id := fun e => hj (h.one e2 hk e3 h1 e)
      simp only [Bool.not_eq_true', beq_eq_false_iff_ne]
      rw [← e4]; exact this
theorem ThQ.put {M : List Ik} {S : List Bf} {bk : Nat → Nat} (h : ThQ M S bk) {k : Nat} {s t : Bf} (hk : S[k]? = some s) (h1 : t.th = s.th) : ThQ M (S.set k t) bk := by
  have hl := (List.getElem?_eq_some_iff.1 hk).1
  refine ⟨h.asc, by rw [List.length_set]; exact h.len, fun i n => ?_⟩
  rw [h.mem]
  constructor
  · rintro ⟨j, x, e1, e2, e3, e4⟩
    by_cases hj : j = k
    · subst hj
      rw [hk] at e2; cases e2
      exact ⟨j, t, e1, (getElem?_put hl).2 (.inl ⟨rfl, rfl⟩), by rw [h1]; exact e3, e4⟩
    · exact ⟨j, x, e1, (getElem?_put hl).2 (.inr ⟨hj, e2⟩), e3, e4⟩
  · rintro ⟨j, x, e1, e2, e3, e4⟩
    rcases (getElem?_put hl).1 e2 with ⟨rfl, rfl⟩ | ⟨hj, e2⟩
    · exact ⟨j, s, e1, hk, by rw [← h1]; exact e3, e4⟩
    · exact ⟨j, x, e1, e2, e3, e4⟩
theorem ThQ.drop {M : List Ik} {S : List Bf} {bk : Nat → Nat} (h : ThQ M S bk) {k : Nat} {t : Bf} (hl : k < S.length) (h2 : t.th = false) : ThQ (dropL M k) (S.set k t) bk := by
  refine ⟨List.Pairwise.sublist List.filter_sublist h.asc, by rw [List.length_set]; exact Nat.le_trans (dropL_le _ _) h.len, fun i n => ?_⟩
  unfold dropL
  rw [List.mem_filter, h.mem]
  constructor
  · rintro ⟨⟨j, x, e1, e2, e3, e4⟩, e5⟩
    have hj : j ≠ k := by
      rintro rfl
      simp [e1] at e5
    exact ⟨j, x, e1, (getElem?_put hl).2 (.inr ⟨hj, e2⟩), e3, e4⟩
  · rintro ⟨j, x, e1, e2, e3, e4⟩
    rcases (getElem?_put hl).1 e2 with ⟨rfl, rfl⟩ | ⟨hj, e2⟩
    · rw [h2] at e3; cases e3
    · refine ⟨⟨j, x, e1, e2, e3, e4⟩, ?_⟩
      simp only [Bool.not_eq_true', beq_eq_false_iff_ne]
      rw [e1]; omega

/-- The numbers of those that are there. -/
def thL (S : List Bf) : List Int := ((List.range S.length).filter fun k => (S.getD k default).th).map fun k : Nat => (k : Int)
theorem mem_thL (S : List Bf) (n : Int) : n ∈ thL S ↔ ∃ (k : Nat) (s : Bf), n = (k : Int) ∧ S[k]? = some s ∧ s.th = true := by
  unfold thL
  simp only [List.mem_map, List.mem_filter, List.mem_range]
  constructor
  · rintro ⟨k, ⟨h1, h2⟩, rfl⟩
    refine ⟨k, S[k], rfl, List.getElem?_eq_getElem h1, ?_⟩
    rw [List.getD_eq_getElem?_getD, List.getElem?_eq_getElem h1] at h2
    exact h2
  · rintro ⟨k, s, rfl, h1, h2⟩
    refine ⟨k, ⟨(List.getElem?_eq_some_iff.1 h1).1, ?_⟩, rfl⟩
    rw [List.getD_eq_getElem?_getD, h1]
    exact h2
theorem thL_asc (S : List Bf) : (thL S).Pairwise (· < ·) := by
  unfold thL
  rw [List.pairwise_map]
  exact (List.Pairwise.sublist List.filter_sublist List.pairwise_lt_range).imp (fun h => by omega)
/-- What was collected of the map of those that are there. -/
def ColT (M : List Ik) (left : Lit → Bool) (ks : List Int) : Prop := ks.Nodup ∧ ∀ x, x ∈ ks ↔ (hasI M x = true ∧ left (.int .i64 x) = false)
theorem ColT.start (M : List Ik) : ColT M (Maps.has (dmap M)) [] := ⟨List.nodup_nil, fun x => by
  rw [has_dmap]
  cases hasI M x <;> simp⟩
theorem ColT.step {M : List Ik} {left : Lit → Bool} {ks : List Int} (h : ColT M left ks) {x : Int} (hlk : left (.int .i64 x) = true) {d : DataW Unit} (hx : ∀ z, (dmap M).atKey (.int .i64 x) z = d) :
    ColT M (fun z => left z && !z.sameKey (.int .i64 x)) (ks ++ [x]) := by
  have hh : hasI M x = true := by
    cases h' : hasI M x
    · have e1 := hx .nil
      have e2 := hx (.lit (.int .i64 0))
      rw [atKey_dmap, h'] at e1 e2
      rw [← e1] at e2
      cases e2
    · rfl
  have hnew : x ∉ ks := fun h' => by have := ((h.2 x).1 h').2; rw [hlk] at this; cases this
  refine ⟨List.nodup_append.2 ⟨h.1, by simp, fun a ha b hb => by simp at hb; subst hb; exact fun e => hnew (e ▸ ha)⟩, fun y => ?_⟩
  by_cases hy : y = x
  · subst hy; simp [hh, sameI]
  · simp [h.2 y, hy, sameI]
theorem ColT.sorted {M : List Ik} {S : List Bf} {bk : Nat → Nat} {left : Lit → Bool} {ks : List Int} (h : ColT M left ks) (hl : ∀ z, left z = false) (hM : ThQ M S bk) : ks.mergeSort (fun x y => decide (x ≤ y)) = thL S := by
  have hperm : ks.Perm (thL S) := (List.perm_ext_iff_of_nodup h.1 ((thL_asc S).imp (fun hlt => by omega))).2 fun x => by
    rw [h.2 x, hl, mem_thL]
    simp only [and_true]
    rw [hasI_iff]
    constructor
    · rintro ⟨⟨a, b⟩, hp, rfl⟩
      obtain ⟨k, s, h1, h2, h3, _⟩ := (hM.mem a b).1 hp
      exact ⟨k, s, h1, h2, h3⟩
    · rintro ⟨k, s, rfl, h2, h3⟩
      exact ⟨((k : Int), (bk k : Int)), (hM.mem _ _).2 ⟨k, s, rfl, h2, h3, rfl⟩, rfl⟩
  refine List.Perm.eq_of_pairwise (le := fun a b : Int => a ≤ b) (fun a b _ _ h1 h2 => Int.le_antisymm h1 h2) ?_ ((thL_asc S).imp (fun h => Int.le_of_lt h)) ((List.mergeSort_perm _ _).trans hperm)
  have := List.pairwise_mergeSort (le := fun (x y : Int) => decide (x ≤ y)) (by intro a b c; simp; omega) (by intro a b; simp; omega) ks
  exact this.imp (by intro a b; simp)

end Go.Proofs.YtablogiielclaaaGreat
namespace Go.Proofs.YtablogiielclaaaGreat
open Go.ChangeShapes Go.WideShapes Go.ChangeAt Go.RowKit Go.Joins Go.Sort Go.Deep Go.Maps

theorem keyInt : Keyed Tryz.prog 3 := int_keyed Tryz.underlying3
theorem zeroInt (w : World) : (zeroValue 3).run Tryz.prog w = .ok (.int .i64 0) w := by kernel_rfl
theorem wf64 {n : Int} (h : I64 n) : (Lit.int .i64 n).wf = true := by
  unfold I64 at h
  simp [Lit.wf, IntKind.min, IntKind.max, IntKind.bits, IntKind.signed]
  omega
theorem tight {P : Program} {k : TypeId} {R : Value → Option (DataW Unit × List MemPlace)} {w : World} {b n : Nat} {D : DataW Unit} (h : w.ownsMap P k R b n D) : w.ownsMap P k R b (Maps.size D) D := by
  obtain ⟨es, clock, hb, F, hs, rfl⟩ := h
  exact ⟨es, clock, hb, F, by simp [Maps.size, length_sorted], rfl⟩
/-- Block b is a map that reads as this list. -/
def Mp (w : World) (b : Nat) (L : List Ik) : Prop := w.ownsMap Tryz.prog 3 (plainElem Tryz.prog 3) b L.length (dmap L)
theorem Mp.of {w : World} {b n : Nat} {L : List Ik} (h : w.ownsMap Tryz.prog 3 (plainElem Tryz.prog 3) b n (dmap L)) : Mp w b L := by
  have := tight h
  rw [size_dmap] at this
  exact this
theorem Mp.lt {w : World} {b : Nat} {L : List Ik} (h : Mp w b L) : b < w.heap.size := World.ownsMap.lt h
theorem Mp.by {w w' : World} {b : Nat} {L : List Ik} (h : Mp w b L) {row : Option Nat} (g : w.grownBy w' row) (hne : some b ≠ row) : Mp w' b L := World.ownsMap.kept h g hne
theorem Mp.bl {w w' : World} {b : Nat} {L : List Ik} (h : Mp w b L) (g : Bl w w') : Mp w' b L := h.by (g.byr none) (by simp)
theorem Mp.cell {w : World} {b : Nat} {L : List Ik} (h : Mp w b L) (p : Addr) (hp : p.block = b) : w.cell? p = none := by
  obtain ⟨es, clock, hb, _⟩ := h
  unfold World.cell?
  rw [hp, hb]
theorem Mp.ne {w : World} {a b : Nat} {L : List Ik} {cs : Array Value} {t : TypeId} (h : Mp w b L) (g : At w a cs t) : a ≠ b := by
  rintro rfl
  obtain ⟨es, clock, hb, _⟩ := h
  unfold At at g
  rw [hb] at g
  cases g
/-- A table. -/
structure Tb (w : World) (a b : Nat) (m : Int) (L : List Ik) : Prop where
  hd : At w a #[.int .i64 m, .map (some b)] 243
  mp : Mp w b L
  ok : OkT m L
theorem Tb.bl {w w' : World} {a b : Nat} {m : Int} {L : List Ik} (h : Tb w a b m L) (g : Bl w w') : Tb w' a b m L := ⟨h.hd.bl g, h.mp.bl g, h.ok⟩
theorem Tb.by {w w' : World} {a b : Nat} {m : Int} {L : List Ik} (h : Tb w a b m L) {row : Option Nat} (g : w.grownBy w' row) (h1 : some a ≠ row) (h2 : some b ≠ row) : Tb w' a b m L := ⟨h.hd.grown g h1, h.mp.by g h2, h.ok⟩
theorem Tb.ne {w : World} {a b : Nat} {m : Int} {L : List Ik} (h : Tb w a b m L) : a ≠ b := h.mp.ne h.hd

section
attribute [local go_sem ↓] run_min2 run_max2
set_option maxRecDepth 100000 in
theorem idNew1 (n : Int) (w : World) : Calls Tryz.prog 107 #[.int .i64 n] w fun e w' => ∃ a b, e = .returned (.pointer (some ⟨a, 0, none⟩)) ∧ w.heap.size ≤ a ∧ w.heap.size ≤ b ∧ Tb w' a b (mostN n) [] ∧ Bl w w' := by
  have hmm := @run_makeMap Tryz.prog
  go_enter Tryz.func107, Tryz.ntmps107
  go_wp2
  go_ret
  have g1 : Bl w (w.alloc (.map #[] 0)) := (Bl.refl w).alloc _
  have hm : Mp (w.alloc (.map #[] 0)) w.heap.size [] := World.ownsMap_made w _ _ _
  exact ⟨_, w.heap.size, rfl, by simp, Nat.le_refl _, ⟨At.newAt (by simp) _ _, hm.bl ((Bl.refl _).alloc _), OkT.nil n⟩, g1.alloc _⟩
end

set_option maxRecDepth 100000 in
theorem idFind1 {w : World} {a b : Nat} {m : Int} {L : List Ik} (h : Tb w a b m L) (i k : Int) (hi : I64 i) : Calls Tryz.prog 259 #[.pointer (some ⟨a, 0, none⟩), .int .i64 i, .int .i64 k] w (Rt w (.int .i64 (findE L i k))) := by
  have c1 := h.hd.cell 1
  have hown := h.mp
  unfold Mp at hown
  have hkey := keyOf_int_mk Tryz.underlying3 (wf64 hi)
  have hh := has_dmap L i
  have hc : ∀ c, (dmap L).atKey (.int .i64 i) (.lit (.int .i64 0)) = .lit (.int .i64 c) → c = kindL L i := fun c hc => by
    rw [atKey_dmap0] at hc; injection hc with hc; injection hc with _ hc; exact hc.symm
  have hf : findE L i k = if hasI L i then (if kindL L i = k then 0 else 9) else 5 := rfl
  generalize findE L i k = F at *
  generalize kindL L i = K at *
  replace hc := Lib.hid hc
  cases hb : hasI L i
  · rw [hb] at hh hf
    simp only [Bool.false_eq_true, if_false] at hf
    subst hf
    clear hb
    go_enter Tryz.func259, Tryz.ntmps259
    go_wp2_with (first | (at_lookup; refine wpList_lookup_own_ok_int _ rfl _ _ 241 rfl 3 3 .i64 keyInt Tryz.underlying241 Tryz.underlying3 (zeroInt _) b _ _ rfl hown _ _ rfl hkey ?_; intro c hat hwc; clear hat) | go_in)
    go_ret
    exact ⟨rfl, Gr.refl _⟩
  · rw [hb] at hh hf
    clear hb
    by_cases hk : K = k
    · have hke : (K != k) = false := by simp [hk]
      rw [if_pos rfl, if_pos hk] at hf
      subst hf
      clear hk
      go_enter Tryz.func259, Tryz.ntmps259
      go_wp2_with (first | (at_lookup; refine wpList_lookup_own_ok_int _ rfl _ _ 241 rfl 3 3 .i64 keyInt Tryz.underlying241 Tryz.underlying3 (zeroInt _) b _ _ rfl hown _ _ rfl hkey ?_; intro c hat hwc; obtain rfl := hc.out c hat; clear hat) | go_in)
      go_ret
      exact ⟨rfl, Gr.refl _⟩
    · have hke : (K != k) = true := by simpa using hk
      rw [if_pos rfl, if_neg hk] at hf
      subst hf
      clear hk
      go_enter Tryz.func259, Tryz.ntmps259
      go_wp2_with (first | (at_lookup; refine wpList_lookup_own_ok_int _ rfl _ _ 241 rfl 3 3 .i64 keyInt Tryz.underlying241 Tryz.underlying3 (zeroInt _) b _ _ rfl hown _ _ rfl hkey ?_; intro c hat hwc; obtain rfl := hc.out c hat; clear hat) | go_in)
      go_ret
      exact ⟨rfl, Gr.refl _⟩

set_option maxRecDepth 100000 in
theorem idFree1 {w : World} {a b : Nat} {m : Int} {L : List Ik} (h : Tb w a b m L) : Calls Tryz.prog 258 #[.pointer (some ⟨a, 0, none⟩)] w (Rt w (.int .i64 (m - L.length))) := by
  have c0 := h.hd.cell 0
  have c1 := h.hd.cell 1
  have c0' := fun n os => h.hd.cells n os 0
  have c1' := fun n os => h.hd.cells n os 1
  have hl := fun n os ty => World.ownsMap.len ((show Mp (Go.Sort.grow (w.drewN n) os) b L from h.mp.bl (((Bl.refl w).drewN n).grow os))) (e := 3) Tryz.underlying241 ty
  have w1 : IntKind.i64.wrap (m - L.length) = m - L.length := IntWalk.i64_in _ (by have := h.ok.most; have := h.ok.m32; omega)
  simp only [size_dmap] at hl
  go_enter Tryz.func258, Tryz.ntmps258
  go_wp2_with fail
  refine wp_region_quiet_grown (by kernel_rfl) (by kernel_rfl) ?_
  repeat (first | go_big_quiet_step (fail) | quiet_step (fail))
  refine wpQuiet_nil ?_
  intro w2 g2
  go_wp2
  go_ret
  exact ⟨rfl, g2⟩

set_option maxRecDepth 100000 in
theorem idAddBad {w : World} (a : Nat) (i k : Int) (hb : i < 1 ∨ 4294967295 < i ∨ k < 1 ∨ 8 < k) : Calls Tryz.prog 223 #[.pointer (some ⟨a, 0, none⟩), .int .i64 i, .int .i64 k] w (Rt w (.int .i64 1)) := by
  go_enter Tryz.func223, Tryz.ntmps223
  cases d1 : decide (i < 1)
  · cases d2 : decide (4294967295 < i)
    · cases d3 : decide (k < 1)
      · have d4 : decide (8 < k) = true := by simp at d1 d2 d3 ⊢; omega
        clear hb
        go_wp2
        go_ret
        exact ⟨rfl, Gr.refl _⟩
      · clear hb
        go_wp2
        go_ret
        exact ⟨rfl, Gr.refl _⟩
    · clear hb
      go_wp2
      go_ret
      exact ⟨rfl, Gr.refl _⟩
  · clear hb
    go_wp2
    go_ret
    exact ⟨rfl, Gr.refl _⟩

set_option maxRecDepth 100000 in
theorem idAdd1 {w : World} {a b : Nat} {m : Int} {L : List Ik} (h : Tb w a b m L) (i k : Int) (hi : I64 i) (hk : I64 k) : Calls Tryz.prog 223 #[.pointer (some ⟨a, 0, none⟩), .int .i64 i, .int .i64 k] w fun e w' =>
    e = .returned (.int .i64 (addIE m L i k)) ∧ Tb w' a b m (addIL m L i k) ∧ w.grownBy w' (some b) := by
  by_cases hb : i < 1 ∨ 4294967295 < i ∨ k < 1 ∨ 8 < k
  · refine (idAddBad a i k hb).mono ?_
    rintro e w' ⟨rfl, g⟩
    have e1 := addIE_bad (m := m) (L := L) hb
    have e2 : addIL m L i k = L := by unfold addIL; rw [e1]; rfl
    rw [e1, e2]
    exact ⟨rfl, h.bl g.bl, g.bl.byr _⟩
  have e1 := addIE_ok (m := m) (L := L) hb
  have e2 : addIL m L i k = if addIE m L i k = 0 then insL (i, k) L else L := rfl
  have d1 : decide (i < 1) = false := by simp; omega
  have d2 : decide (4294967295 < i) = false := by simp; omega
  have d3 : decide (k < 1) = false := by simp; omega
  have d4 : decide (8 < k) = false := by simp; omega
  have hok := h.ok.add i k
  have c1 := h.hd.cell 1
  have hown := h.mp
  unfold Mp at hown
  have hkey := keyOf_int_mk Tryz.underlying3 (wf64 hi)
  have hh := has_dmap L i
  have cf := fun W (g : Bl w W) => idFree1 (h.bl g)
  have hne := h.ne
  have hlen := h.ok.len
  cases hx : hasI L i
  · rw [hx] at hh e1
    simp only [Bool.false_eq_true, if_false] at e1
    have hput := put_dmap hx k
    clear hb hx
    by_cases hq : m ≤ L.length
    · rw [if_pos hq] at e1
      rw [e1, if_neg (by decide)] at e2
      rw [e1, e2]
      have hz : (m - (L.length : Int) == 0) = true := by have := h.ok.most; simp; omega
      clear e1 e2 hq hok
      replace hlen := Lib.hid hlen
      go_enter Tryz.func223, Tryz.ntmps223
      go_wp2_with (first
        | (at_lookup; refine wpList_lookup_own_ok_int _ rfl _ _ 241 rfl 3 3 .i64 keyInt Tryz.underlying241 Tryz.underlying3 (zeroInt _) b _ _ rfl hown _ _ rfl hkey ?_; intro c hat hwc; clear hat)
        )
      refine (cf _ (Bl.refl _)).mono ?_
      rintro e w2 ⟨rfl, g2⟩
      go_wp2
      go_ret
      exact ⟨rfl, h.bl g2.bl, g2.bl.byr _⟩
    · rw [if_neg hq] at e1
      rw [e1, if_pos rfl] at e2
      rw [e2] at hok
      rw [e1, e2]
      have hz : (m - (L.length : Int) == 0) = false := by simp; omega
      clear e1 e2 hq
      replace hlen := Lib.hid hlen
      go_enter Tryz.func223, Tryz.ntmps223
      go_wp2_with (first
        | (at_lookup; refine wpList_lookup_own_ok_int _ rfl _ _ 241 rfl 3 3 .i64 keyInt Tryz.underlying241 Tryz.underlying3 (zeroInt _) b _ _ rfl hown _ _ rfl hkey ?_; intro c hat hwc; clear hat)
        )
      refine (cf _ (Bl.refl _)).mono ?_
      rintro e w2 ⟨rfl, g2⟩
      have h2 := h.bl g2.bl
      have c2 := h2.hd.cell 1
      have hown2 := h2.mp
      unfold Mp at hown2
      go_wp2_with (first
        | (at_mapUpdate; refine wpList_mapUpdate_in _ rfl _ _ _ 241 rfl 3 3 keyInt Tryz.underlying241 _ b _ _ rfl hown2 (by have := hlen.out; unfold maxLen; omega) _ _ _ rfl rfl hkey _ [] (plainElem_int Tryz.underlying3 (wf64 hk)) ?_; intro w3 hown3 hturn3; rw [hput] at hown3)
        | go_in)
      go_ret
      exact ⟨rfl, ⟨h2.hd.grown hturn3.grown (by simpa using hne), Mp.of hown3, hok⟩, By.trans (g2.bl.byr _) hturn3.grown⟩
  · rw [hx] at hh e1
    simp only [if_true] at e1
    rw [e1, if_neg (by decide)] at e2
    rw [e1, e2]
    clear e1 e2 hb hok hx
    go_enter Tryz.func223, Tryz.ntmps223
    go_wp2_with (first
      | (at_lookup; refine wpList_lookup_own_ok_int _ rfl _ _ 241 rfl 3 3 .i64 keyInt Tryz.underlying241 Tryz.underlying3 (zeroInt _) b _ _ rfl hown _ _ rfl hkey ?_; intro c hat hwc; clear hat)
      | go_in)
    go_ret
    exact ⟨rfl, h, By.refl _ _⟩

end Go.Proofs.YtablogiielclaaaGreat
namespace Go.Proofs.YtablogiielclaaaGreat
open Go.RowKit Go.Sort

attribute [local go_sem ↓] run_min2 run_max2

theorem putRun_splice {L vs : List Int} {k : Nat} (h : k + vs.length ≤ L.length) : putRun L k vs = L.take k ++ (vs ++ L.drop (k + vs.length)) := by
  apply List.ext_getElem?
  intro i
  rw [putRun_get]
  by_cases h1 : i < k
  · rw [if_neg (by omega), List.getElem?_append_left (by rw [List.length_take]; omega), List.getElem?_take, if_pos h1]
  · rw [List.getElem?_append_right (by rw [List.length_take]; omega), List.length_take, show min k L.length = k by omega]
    by_cases h2 : i < k + vs.length
    · rw [if_pos (by omega), List.getElem?_append_left (by omega)]
    · rw [if_neg (by omega), List.getElem?_append_right (by omega), List.getElem?_drop, show k + vs.length + (i - k - vs.length) = i by omega]
/-- One row of an image, put into another. -/
def cpRow (W W2 u0 v0 x0 y0 m : Nat) (L2 F : List Int) (t : Nat) : List Int := putRun F ((v0 + t) * W + u0) ((L2.drop ((y0 + t) * W2 + x0)).take m)
def cpAll (W W2 u0 v0 x0 y0 m : Nat) (L2 F : List Int) (ts : List Nat) : List Int := ts.foldl (cpRow W W2 u0 v0 x0 y0 m L2) F
theorem cpAll_snoc (W W2 u0 v0 x0 y0 m : Nat) (L2 F : List Int) (ts : List Nat) (t : Nat) : cpAll W W2 u0 v0 x0 y0 m L2 F (ts ++ [t]) = cpRow W W2 u0 v0 x0 y0 m L2 (cpAll W W2 u0 v0 x0 y0 m L2 F ts) t := by simp [cpAll]
theorem cpAll_get {W W2 u0 v0 x0 y0 m h : Nat} {L2 : List Int} (h1 : 1 ≤ W) (hm : u0 + m ≤ W) (hs : ∀ t, t < h → (y0 + t) * W2 + x0 + m ≤ L2.length) :
    ∀ (ts : List Nat) (F : List Int) (i : Nat), (∀ t ∈ ts, t < h) → (cpAll W W2 u0 v0 x0 y0 m L2 F ts)[i]? = if i < F.length ∧ u0 ≤ i % W ∧ i % W < u0 + m ∧ v0 ≤ i / W ∧ i / W - v0 ∈ ts then L2[(y0 + (i / W - v0)) * W2 + x0 + (i % W - u0)]? else F[i]?
  | [], F, i, _ => by rw [if_neg (by simp)]; rfl
  | t :: ts, F, i, hts => by
    show (cpAll W W2 u0 v0 x0 y0 m L2 (cpRow W W2 u0 v0 x0 y0 m L2 F t) ts)[i]? = _
    have hl := hs t (hts t List.mem_cons_self)
    have hvs : ((L2.drop ((y0 + t) * W2 + x0)).take m).length = m := by rw [List.length_take, List.length_drop]; omega
    rw [cpAll_get h1 hm hs ts _ i (fun t' h' => hts t' (List.mem_cons_of_mem _ h')), cpRow, putRun_len, putRun_get, hvs]
    have r := row_iff (x0 := u0) (x1 := u0 + m) (y := v0 + t) (i := i) (by omega) hm h1
    rw [show u0 + m - u0 = m by omega] at r
    by_cases k : i < F.length ∧ u0 ≤ i % W ∧ i % W < u0 + m ∧ v0 ≤ i / W ∧ i / W - v0 ∈ ts
    · rw [if_pos k, if_pos ⟨k.1, k.2.1, k.2.2.1, k.2.2.2.1, List.mem_cons_of_mem _ k.2.2.2.2⟩]
    · rw [if_neg k]
      by_cases q : (v0 + t) * W + u0 ≤ i ∧ i < (v0 + t) * W + u0 + m ∧ i < F.length
      · obtain ⟨q1, q2, q3⟩ := r.1 ⟨q.1, q.2.1⟩
        have e : i / W - v0 = t := by omega
        rw [if_pos q, if_pos ⟨q.2.2, q2, q3, by omega, by rw [e]; exact List.mem_cons_self⟩, List.getElem?_take, if_pos (by omega), List.getElem?_drop, e]
        congr 1
        have hd := Nat.div_add_mod i W
        rw [q1, Nat.mul_comm] at hd
        omega
      · rw [if_neg q, if_neg]
        rintro ⟨l1, l2, l3, l4, l5⟩
        rcases List.mem_cons.1 l5 with l | l
        · have := r.2 ⟨by omega, l2, l3⟩; omega
        · exact k ⟨l1, l2, l3, l4, l⟩

theorem step_copy_run {ops : Array Oper} {o : Oper} {a : Act} {w : World} {K : Act → World → Prop} {Q : Exit → Act → World → Prop} {E : Prop}
    (hg : o.guard = none) (d x : Operand) (dT sT : TypeId) (hop : o.op = Op.call { callee := Callee.builtin Builtin.copy, args := #[d, x], argTypes := #[dT, sT] })
    (v u : Value) (hd : a.eval d = v) (hx : a.eval x = u) {v' : Value} {w' : World} (hr : (Builtin.copy_ #[dT, sT] o.type #[v, u]).run Tryz.prog w = .ok v' w') (hK : K (a.put o.dst v') w') :
    if Region.wanted o (yielded ops a.tmps) = true then Oper.wp Tryz.prog o a w K Q else E := by
  have hw : Region.wanted o (yielded ops a.tmps) = true := by simp [Region.wanted, hg]
  rw [if_pos hw]
  unfold Oper.wp
  simp [execOp, hop, resolve, invoke, builtin, hd, hx, hr, Result.andThen]
  exact hK
theorem by_setRow {a b : World} {r : Nat} (h : a.grownBy b (some r)) (cs : Array Value) : a.grownBy (b.setRow r cs) (some r) :=
  ⟨h.os, h.tape, h.output, Nat.le_trans h.size (by simp [World.setRow]), fun k hk hne => (setRow_other b r k cs (by intro e; exact hne (by rw [e]))).trans (h.block k hk hne)⟩
theorem cC_list (L : List Int) : (cC L).toList = L.map (Value.int .u32) := by simp [cC]
theorem Img.setRow {w : World} {pm pc W H : Nat} {F vs : List Int} (h : Img w pm pc W H F) (k : Nat) (hk : k + vs.length ≤ F.length) :
    Img (w.setRow pc ((cC F).toList.take k ++ vs.map (Value.int .u32) ++ (cC F).toList.drop (k + vs.length)).toArray) pm pc W H (putRun F k vs) := by
  have hl : (putRun F k vs).length = F.length := putRun_len _ _ _
  have he : ((cC F).toList.take k ++ vs.map (Value.int .u32) ++ (cC F).toList.drop (k + vs.length)).toArray = cC (putRun F k vs) := by
    rw [cC_list, putRun_splice hk]
    simp [cC, List.map_take, List.map_drop]
  rw [he]
  refine { h with hd := ?_, cs := ?_, len := hl.trans h.len }
  · rw [hl]; exact h.hd.same (setRow_other _ _ _ _ h.ne)
  · exact setRow_heap w pc _ _ _ _ h.cs
set_option maxHeartbeats 400000 in
theorem near1 (n : Int) (w : World) (h0 : -1048576 ≤ n) (h1 : n ≤ 1048576) : Calls Tryz.prog 203 #[.int .i64 n] w (fun e w' => e = .returned (.int .i64 n) ∧ w = w') := by
  have e : min (max n (-1048576)) 1048576 = n := by omega
  go_enter Tryz.func203, Tryz.ntmps203
  go_wp2
  go_ret
  exact ⟨rfl, rfl⟩

end Go.Proofs.YtablogiielclaaaGreat
namespace Go.Proofs.YtablogiielclaaaGreat
open Go.RowKit Go.Sort

attribute [local go_sem ↓] run_min2 run_max2

end Go.Proofs.YtablogiielclaaaGreat

namespace Go.Proofs.YtablogiielclaaaGreat
open Go.ChangeShapes Go.WideShapes Go.ChangeAt Go.RowKit Go.Joins Go.Sort

end Go.Proofs.YtablogiielclaaaGreat
namespace Go.Proofs.YtablogiielclaaaGreat
open Go.RowKit Go.Sort Go.Deep

attribute [local go_sem] cell?_grow frozen?_grow nlt_r

/-- The color of four bytes. -/
def colB (b0 b1 b2 b3 : Int) : Int := b0 * 16777216 + b1 * 65536 + b2 * 256 + b3
/-- The k-th color of bytes. -/
def colAt (bs : List Int) (k : Nat) : Int := colB (bs.getD (4 * k) 0) (bs.getD (4 * k + 1) 0) (bs.getD (4 * k + 2) 0) (bs.getD (4 * k + 3) 0)
end Go.Proofs.YtablogiielclaaaGreat
namespace Go.Proofs.YtablogiielclaaaGreat
open Go.RowKit Go.Sort Go.Shelf

attribute [local go_sem] Oper.semAt_some

/-- Rows y of W colors, from x0 on, m of each, that get the colors C, one by one. -/
def wrS (W x0 m : Nat) (st : List Int × List Int) (ys : List Nat) : List Int × List Int := ys.foldl (fun st y => (putRun st.1 (y * W + x0) (st.2.take m), st.2.drop m)) st
/-- The colors of bytes. -/
def colsL (bs : List Int) (n : Nat) : List Int := (List.range n).map (colAt bs)
/-- The box of the bytes that are left: k colors of them are gone. -/
def Left (w : World) (b g off n cb k : Nat) : Prop := ∃ A : Option Addr, At w b #[.slice A (n - 4 * k) (cb - 4 * k)] 89 ∧ (4 * k < n → A = some ⟨g, off + 4 * k, none⟩)
end Go.Proofs.YtablogiielclaaaGreat
namespace Go.Proofs.YtablogiielclaaaGreat
open Go.RowKit Go.Sort Go.Shelf

attribute [local go_sem] Oper.semAt_some

/-- A color's bytes. -/
def px (c : Int) : List Int := [pA c, pR c, pG c, pB c]
/-- The bytes of m colors from place k on. -/
def rowPx (L : List Int) (k m : Nat) : List Int := ((L.drop k).take m).flatMap px
/-- The bytes of rows y of W colors, from x0 up to x1. -/
def readR (W x0 x1 : Nat) (L : List Int) (ys : List Nat) : List Int := ys.flatMap fun y => rowPx L (y * W + x0) (x1 - x0)
/-- A row of bytes that the call owns abides the loop's book-keeping. -/
theorem OwN.turn {k : IntKind} {e : TypeId} {X Y : World} {B : Nat} {A : Option Addr} {c : Nat} {L : List Int} {row : Option Nat} (h : OwN k e X B A c L) (g : X.grownBy Y row) (hr : ∀ r, row = some r → ∃ o : Obj, X.heap[r]? = some o ∧ o.isCells = false) : OwN k e Y B A c L := by
  refine h.grown g ?_
  rcases h.2 with ⟨h1, _⟩ | ⟨b, cap, cur, h1, _, h3, _⟩
  · injection h1 with h1; exact .inl h1
  · right
    intro e'
    injection h1 with h1 _ _
    rw [h1] at e'
    obtain ⟨o, ho, hc⟩ := hr b e'.symm
    rw [h3] at ho
    cases ho; cases hc
/-- The box that holds the row. -/
theorem OwN.isCells {k : IntKind} {e : TypeId} {X : World} {B g c : Nat} {L : List Int} (h : OwN k e X B (some ⟨g, 0, none⟩) c L) {o : Obj} (ho : X.heap[g]? = some o) : o.isCells = true := by
  rcases h.2 with ⟨h1, _⟩ | ⟨b, cap, cur, h1, _, h3, _⟩
  · injection h1 with h1; cases h1
  · injection h1 with h1 _ _
    injection h1 with h1
    injection h1 with h1
    subst h1
    rw [h3] at ho
    cases ho; rfl
theorem OwN.cap {k : IntKind} {e : TypeId} {w : World} {B : Nat} {A : Option Addr} {c : Nat} {L : List Int} (h : OwN k e w B A c L) : L.length ≤ c := by
  rcases h.2 with ⟨h1, h2⟩ | ⟨g, cap, cur, h1, _, _, h4, _⟩
  · omega
  · injection h1 with a b c'; omega
structure BoxB (w : World) (B b g cap : Nat) (L : List Int) : Prop where
  at_ : At w b #[.slice (some ⟨g, 0, none⟩) L.length cap] 89
  own : OwN .u8 5 w B (some ⟨g, 0, none⟩) cap L
theorem BoxB.gr {w w' : World} {B b g cap : Nat} {L : List Int} (h : BoxB w B b g cap L) (k : Gr w w') : BoxB w' B b g cap L := ⟨h.at_.gr k, h.own.gr k⟩
end Go.Proofs.YtablogiielclaaaGreat
namespace Go.Proofs.YtablogiielclaaaGreat

/-- The colors of rows y of W, m of each from x0 on. -/
def rowsL (W x0 m : Nat) (L : List Int) (ys : List Nat) : List Int := ys.flatMap fun y => (L.drop (y * W + x0)).take m
end Go.Proofs.YtablogiielclaaaGreat
namespace Go.Proofs.YtablogiielclaaaGreat
open Go.RowKit Go.Sort

/-- Does a point get a color of the other image; and which one it has then. -/
def cpP (W W2 H2 : Nat) (a b c d dx dy : Int) (k : Nat) : Bool := hasB 0 0 W2 H2 ((k % W : Nat) - dx) ((k / W : Nat) - dy) && hasB a b c d ((k % W : Nat) - dx) ((k / W : Nat) - dy)
def cpF (W W2 H2 : Nat) (a b c d dx dy : Int) (L L2 : List Int) (k : Nat) : Int := if cpP W W2 H2 a b c d dx dy k = true then L2.getD (((k / W : Nat) - dy).toNat * W2 + ((k % W : Nat) - dx).toNat) 0 else L.getD k 0

/-- What the document writes, point by point. -/
def wrL (W x0 y0 m : Nat) (L bs : List Int) (k : Nat) : List Int := (List.range k).foldl (fun l i => l.set ((y0 + i / m) * W + x0 + i % m) (colAt bs i)) L
theorem wrL_succ (W x0 y0 m : Nat) (L bs : List Int) (k : Nat) : wrL W x0 y0 m L bs (k + 1) = (wrL W x0 y0 m L bs k).set ((y0 + k / m) * W + x0 + k % m) (colAt bs k) := by
  unfold wrL; rw [List.range_succ, List.foldl_append]; rfl
theorem wrL_len (W x0 y0 m : Nat) (L bs : List Int) : ∀ k, (wrL W x0 y0 m L bs k).length = L.length
  | 0 => rfl
  | k + 1 => by rw [wrL_succ, List.length_set, wrL_len W x0 y0 m L bs k]
end Go.Proofs.YtablogiielclaaaGreat
namespace Go.Proofs.YtablogiielclaaaGreat
open Go.RowKit Go.Sort Go.Deep

theorem row_at {w : World} {g c : Nat} {L : List Int} {B : Nat} (h : OwN .u32 52 w B (some ⟨g, 0, none⟩) c L) : ∃ X : List Value, c = L.length + X.length ∧ At w g (L.map (Value.int .u32) ++ X).toArray 52 := by
  rcases h.2 with ⟨h1, _⟩ | ⟨g', cap, cur, h1, _, h3, h4, _, h6, h7⟩
  · injection h1 with h1; cases h1
  · injection h1 with a _ b
    injection a with a
    injection a with a
    subst a b
    refine ⟨cur.toList.drop L.length, ?_, ?_⟩
    · have hz : cur.toList.length = c := by simpa using h6
      rw [List.length_drop, hz]; omega
    · unfold At
      rw [h3]
      have : L.map (Value.int .u32) ++ cur.toList.drop L.length = cur.toList := by
        rw [← h7, Nat.mul_one, List.take_append_drop]
      rw [this]

set_option maxHeartbeats 2000000 in
theorem cloneC (pc C : Nat) (L : List Int) (w : World) (hR : RowN .u32 w pc 0 L) (hl : L.length ≤ 100000) (hp : 0 < L.length) :
    Calls Tryz.prog 149 #[.slice (some ⟨pc, 0, none⟩) L.length C] w (fun e w' => ∃ (g : Nat) (X : List Value), e = .returned (.slice (some ⟨g, 0, none⟩) L.length (L.length + X.length)) ∧ At w' g (L.map (Value.int .u32) ++ X).toArray 52 ∧ w.heap.size ≤ g ∧ Bl w w') := by
  have qT : ∀ (w : World) (a : Option Addr) (n c n' c' : Nat), (binOp .eql 25 (.slice a n c) (.slice none n' c')).run Tryz.prog w = .ok (.bool a.isNone) w := fun w a n c n' c' => Lib.run_eql_slice_nil w _ _ a n c n' c' Tryz.underlying25
  have own : OwN .u32 52 (w.alloc (.cells #[] 52)) w.heap.size (some ⟨w.heap.size, 0, none⟩) 0 [] := ⟨rfl, .inr ⟨w.heap.size, 0, #[], rfl, Nat.le_refl _, heap_alloc_new w _, Nat.le_refl _, Nat.zero_le _, rfl, rfl⟩⟩
  have hR1 := hR.gr ((Gr.refl w).alloc (.cells #[] 52))
  go_enter Tryz.func149, Tryz.ntmps149
  go_wp2_with (at_builtin; refine wp_app_n (bs := 4) Tryz.underlying25 infoC rfl (by decide) rfl (.tmp 5) (.tmp 6) rfl (some ⟨w.heap.size, 0, none⟩) 0 [] rfl w.heap.size own pc 0 L C rfl hR1 hp (by simp; omega) (by simp) ?_; rintro A' c' w' own2 ap2 ⟨g, rfl⟩)
  go_ret
  have h2 : OwN .u32 52 w' w.heap.size (some ⟨g, 0, none⟩) c' L := by simpa using own2
  obtain ⟨X, rfl, hX⟩ := row_at h2
  have hg := h2.addr
  refine ⟨g, X, by simp, hX, ?_, ap2.bl ((Bl.refl w).alloc _) own (Nat.le_refl _)⟩
  rcases hg with ⟨h, _⟩ | ⟨g', h, h3, _⟩
  · cases h
  · injection h with h; injection h with h; omega

set_option maxRecDepth 100000 in
set_option maxHeartbeats 4000000 in
theorem iclone1 {pm pc W H : Nat} {L : List Int} {X : List Value} (w : World) (hI : ImgX w pm pc W H L X) :
    Calls Tryz.prog 91 #[.pointer (some ⟨pm, 0, none⟩)] w (fun e w' => ∃ (p2 c2 : Nat) (Y : List Value), e = .returned (.pointer (some ⟨p2, 0, none⟩)) ∧ ImgX w' p2 c2 W H L Y ∧ w.heap.size ≤ p2 ∧ w.heap.size ≤ c2 ∧ Bl w w') := by
  have hle := area_le hI.w2 hI.h2
  rw [← hI.len] at hle
  have hp : 0 < L.length := by rw [hI.len]; exact Nat.mul_pos hI.w1 hI.h1
  have hrow : RowN .u32 w pc 0 L := fun i x hi => by rw [Nat.zero_add]; exact hI.at hi
  have cC := fun (w' : World) (g : Bl w w') => cloneC pc (L.length + X.length) L w' (hrow.bl g) (by omega) hp
  obtain ⟨n, hn⟩ : ∃ n, n = L.length := ⟨_, rfl⟩
  rw [← hn] at cC
  have hnn := Lib.hid hn
  have mixed : Tryz.prog.follows .mixedOrders = true := by kernel_rfl
  have SK : ∀ V, Bl w V → (V.cell? ⟨pm, 0, none⟩ = some (.int .i64 W) ∧ V.cell? ⟨pm, 1, none⟩ = some (.int .i64 H) ∧ V.cell? ⟨pm, 2, none⟩ = some (.slice (some ⟨pc, 0, none⟩) n (n + X.length)) ∧ Bl w V) := fun V g => ⟨(hI.bl g).c0, (hI.bl g).c1, by rw [hn]; exact (hI.bl g).c2, g⟩
  clear hn hle hp hrow
  go_enter Tryz.func91, Tryz.ntmps91
  go_wp2
  go_region_held3 (fun V => V.cell? ⟨pm, 0, none⟩ = some (.int .i64 W) ∧ V.cell? ⟨pm, 1, none⟩ = some (.int .i64 H) ∧ V.cell? ⟨pm, 2, none⟩ = some (.slice (some ⟨pc, 0, none⟩) n (n + X.length)) ∧ Bl w V) ((refine SK _ ?_; repeat (first | with_reducible assumption | with_reducible exact Bl.refl _ | with_reducible exact (And.right (And.right (And.right (by assumption)))) | with_reducible exact Bl.trans (And.right (And.right (And.right (by assumption)))) (by assumption) | with_reducible apply Bl.drew | with_reducible apply Bl.alloc)))
    ((first
      | (go_at_call 149; (refine (cC _ (And.right (And.right (And.right (by assumption))))).mono ?_); rintro e v2 ⟨g, Y, rfl, cY, hg, g2⟩; have G2 : Bl w v2 := Bl.trans (And.right (And.right (And.right (by assumption)))) g2)))
  all_goals
    clear SK
    have hs := G2.size
    have A2 := At.new v2 #[.int .i64 W, .int .i64 H, .slice (some ⟨g, 0, none⟩) n (n + Y.length)] 173
    have A3 := cY.alloc (.cells #[.int .i64 W, .int .i64 H, .slice (some ⟨g, 0, none⟩) n (n + Y.length)] 173)
    have hlt := cY.lt
    have hwg : w.heap.size ≤ g := Nat.le_trans (by first | exact Nat.le_refl _ | exact Bl.size (by assumption)) hg
    go_wp2
    go_ret
    exact ⟨v2.heap.size, g, Y, rfl, { hd := by rw [← hnn.out]; exact A2, cs := A3, len := hI.len, w1 := hI.w1, w2 := hI.w2, h1 := hI.h1, h2 := hI.h2, ne := by omega }, hs, hwg, G2.alloc _⟩

end Go.Proofs.YtablogiielclaaaGreat
namespace Go.Proofs.YtablogiielclaaaGreat
open Go.RowKit Go.Sort Go.Deep

/-- What Set of the document does: the list behind, and the error. -/
def setL (L : List Int) (k : Nat) (q : Int) : List Int := if mayC q = true then L.set k q else L
def setE (q : Int) : Int := if mayC q = true then 0 else 1

end Go.Proofs.YtablogiielclaaaGreat
namespace Go.Proofs.YtablogiielclaaaGreat
open Go.RowKit Go.Sort Go.Shelf

end Go.Proofs.YtablogiielclaaaGreat
namespace Go.Proofs.YtablogiielclaaaGreat
open Go.RowKit Go.Sort Go.Shelf

end Go.Proofs.YtablogiielclaaaGreat
namespace Go.Proofs.YtablogiielclaaaGreat
open Go.RowKit Go.Sort Go.Shelf

end Go.Proofs.YtablogiielclaaaGreat
namespace Go.Proofs.YtablogiielclaaaGreat
open Go.RowKit Go.Sort Go.Deep

attribute [local go_sem ↓] run_min2 run_max2

def clN (n : Int) : Int := min (max n (-1048576)) 1048576
def cpL (W W2 H2 : Nat) (a b c d dx dy : Int) (L L2 : List Int) : List Int := upto (cpF W W2 H2 a b c d (clN dx) (clN dy) L L2) L.length
def cpN (W H W2 H2 : Nat) (a b c d dx dy : Int) : Int := ((cntI (cpP W W2 H2 a b c d (clN dx) (clN dy)) (W * H) : Nat) : Int)

def atW (W H : Nat) (L : List Int) (x y : Int) : Int := if hasB 0 0 W H x y = true then L.getD (y.toNat * W + x.toNat) 0 else 0
end Go.Proofs.YtablogiielclaaaGreat
namespace Go.Proofs.YtablogiielclaaaGreat
open Go.RowKit Go.Sort Go.Deep

attribute [local go_sem ↓] run_min2 run_max2

end Go.Proofs.YtablogiielclaaaGreat
