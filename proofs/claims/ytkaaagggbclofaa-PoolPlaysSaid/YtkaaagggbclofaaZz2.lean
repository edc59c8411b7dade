/-
  What is proved: plain mathematics of a table of ids: a list of ids and their kinds that rises; what a map that reads so tells. No program. what each function of package ids does to a table that reads as a list of ids that rises. Conditions: the table's ids rise and may be; numbers are ints. what the calls of package rect hand back. how a law's row is closed from a walk that only lays memory of its own, for arguments that hold no memory (no conditions); and how a rectangle handed in by value is opened and shut. what the calls of package rect, and of the document's answers, hand back. what Covers hands back. what Move and Area hand back of a rectangle within the bounds. what Area hands back of a rectangle that may be. what the calls of package rect, and of the document's answers, hand back. nothing of its own: it hands on the calls of package rect. No conditions. what more calls of package rect, and of the document's answers, hand back (for an image's seat). what the small calls of package color hand back, and the document's. what the calls of package color hand back, and the document's.
-/
import Derived.Test.YtkaaagggbclofaaZz1
import Derived.Maps.RangeWalk
import Derived.ProofKit
import Derived.OpenShut
import Derived.Below
import Derived.ChangeSame
import Derived.Lib.SmallJoins
import Derived.StillTailTactics
import Derived.Deep.QuietTactic
import Derived.BigQuiet
import Derived.Handy
import Derived.IntWalk
import Derived.Lib.Hide
import Derived.Deep.RegionHeld3
import Derived.Deep.DeepCutAuto
import Derived.Laws.BitsAllLaws
namespace Go.Proofs.Ytkaaagggbclofaa
open Go.RowKit Go.Sort

abbrev Ik := Int × Int
def dmap (L : List Ik) : DataW Unit := .map (L.map fun p => (.int .i64 p.1, .lit (.int .i64 p.2)))
def hasL (L : List Ik) (i : Int) : Bool := L.any fun p => p.1 == i
def kindL (L : List Ik) (i : Int) : Int := match L.find? (fun p => p.1 == i) with | some p => p.2 | none => 0
def insL (x : Ik) : List Ik → List Ik
  | [] => [x]
  | y :: r => if x.1 < y.1 then x :: y :: r else y :: insL x r
def dropL (L : List Ik) (i : Int) : List Ik := L.filter fun p => !(p.1 == i)
def ofL (L : List Ik) (k : Int) : List Int := (L.filter fun p => p.2 == k).map fun p => p.1
def Asc (L : List Ik) : Prop := L.Pairwise fun p q => p.1 < q.1
/-- A table's ids: they rise, and may be. -/
structure OkT (m : Int) (L : List Ik) : Prop where
  asc : Asc L
  ids : ∀ p ∈ L, 1 ≤ p.1 ∧ p.1 ≤ 4294967295 ∧ 1 ≤ p.2 ∧ p.2 ≤ 8
  most : (L.length : Int) ≤ m
  m1 : 1 ≤ m
  m32 : m ≤ 32
def mostN (n : Int) : Int := min (max n 1) 32
theorem OkT.nil (n : Int) : OkT (mostN n) [] := ⟨List.Pairwise.nil, by simp, by unfold mostN; simp; omega, by unfold mostN; omega, by unfold mostN; omega⟩
theorem OkT.len {m : Int} {L : List Ik} (h : OkT m L) : L.length ≤ 32 := by have := h.most; have := h.m32; omega

theorem sameI (a b : Int) : (Lit.int .i64 a).sameKey (.int .i64 b) = (a == b) := by
  by_cases h : a = b <;> simp [Lit.sameKey, h]
theorem has_dmap (L : List Ik) (i : Int) : Maps.has (dmap L) (.int .i64 i) = hasL L i := by
  unfold dmap hasL
  rw [Maps.has_eq, List.any_map]
  congr 1; funext p; exact sameI _ _
theorem size_dmap (L : List Ik) : Maps.size (dmap L) = L.length := by simp [dmap, Maps.size_eq]
theorem atKey_dmap : ∀ (L : List Ik) (i : Int) (z : DataW Unit), (dmap L).atKey (.int .i64 i) z = if hasL L i then .lit (.int .i64 (kindL L i)) else z
  | [], i, z => by simp [dmap, DataW.atKey, hasL]
  | p :: L, i, z => by
    have ih := atKey_dmap L i z
    unfold dmap DataW.atKey hasL kindL at *
    simp only [List.map_cons, List.find?_cons, List.any_cons, sameI] at ih ⊢
    by_cases h : p.1 = i
    · simp [h]
    · simp only [beq_eq_false_iff_ne.2 h, Bool.false_or]; exact ih
theorem kindL_no {L : List Ik} {i : Int} (h : hasL L i = false) : kindL L i = 0 := by
  unfold hasL at h
  unfold kindL
  rw [List.find?_eq_none.2 (fun p hp => by have := List.any_eq_false.1 h p hp; simpa using this)]
theorem atKey_dmap0 (L : List Ik) (i : Int) : (dmap L).atKey (.int .i64 i) (.lit (.int .i64 0)) = .lit (.int .i64 (kindL L i)) := by
  rw [atKey_dmap]
  cases h : hasL L i
  · rw [kindL_no h]; rfl
  · rfl
theorem ins_dmap (x : Ik) : ∀ L : List Ik, DataW.insert (H := Unit) (.int .i64 x.1, .lit (.int .i64 x.2)) (L.map fun p => (.int .i64 p.1, .lit (.int .i64 p.2))) = (insL x L).map fun p => (.int .i64 p.1, .lit (.int .i64 p.2))
  | [] => rfl
  | y :: r => by
    have hb : (Lit.int .i64 x.1).before (.int .i64 y.1) = decide (x.1 < y.1) := rfl
    unfold insL
    rw [List.map_cons]
    unfold DataW.insert
    rw [hb]
    by_cases h : x.1 < y.1
    · simp [h]
    · simp only [decide_eq_false h, Bool.false_eq_true, if_false, if_neg h, List.map_cons]
      rw [ins_dmap x r]
theorem filter_map_d (L : List Ik) (i : Int) : (L.map fun p => ((.int .i64 p.1, .lit (.int .i64 p.2)) : Lit × DataW Unit)).filter (fun p => !p.1.sameKey (.int .i64 i)) = (dropL L i).map fun p => (.int .i64 p.1, .lit (.int .i64 p.2)) := by
  unfold dropL
  rw [List.filter_map]
  congr 2
  funext p
  simp [sameI]
theorem dropL_no {L : List Ik} {i : Int} (h : hasL L i = false) : dropL L i = L := by
  unfold dropL
  rw [List.filter_eq_self]
  intro p hp
  have := List.any_eq_false.1 h p hp
  simpa using this
theorem put_dmap {L : List Ik} {i : Int} (h : hasL L i = false) (k : Int) : (dmap L).put (.int .i64 i) (.lit (.int .i64 k)) = dmap (insL (i, k) L) := by
  unfold dmap DataW.put
  dsimp only
  rw [filter_map_d, dropL_no h, ins_dmap (i, k)]
theorem del_dmap (L : List Ik) (i : Int) : (dmap L).del (.int .i64 i) = dmap (dropL L i) := by
  unfold dmap DataW.del
  dsimp only
  rw [filter_map_d]

theorem insL_len (x : Ik) : ∀ L : List Ik, (insL x L).length = L.length + 1
  | [] => rfl
  | y :: r => by
    unfold insL
    split
    · rfl
    · simp [insL_len x r]
theorem mem_insL (x : Ik) : ∀ (L : List Ik) (p : Ik), p ∈ insL x L ↔ p = x ∨ p ∈ L
  | [], p => by simp [insL]
  | y :: r, p => by
    unfold insL
    split
    · simp
    · simp only [List.mem_cons, mem_insL x r]
      constructor
      · rintro (h | h | h)
        · exact .inr (.inl h)
        · exact .inl h
        · exact .inr (.inr h)
      · rintro (h | h | h)
        · exact .inr (.inl h)
        · exact .inl h
        · exact .inr (.inr h)
theorem hasL_iff (L : List Ik) (i : Int) : hasL L i = true ↔ ∃ p ∈ L, p.1 = i := by simp [hasL, List.any_eq_true]
theorem hasL_no {L : List Ik} {i : Int} (h : hasL L i = false) : ∀ p ∈ L, p.1 ≠ i := fun p hp => by
  have := List.any_eq_false.1 h p hp
  simpa using this
theorem Asc.ins {x : Ik} : ∀ {L : List Ik}, Asc L → hasL L x.1 = false → Asc (insL x L)
  | [], _, _ => by simp [insL, Asc]
  | y :: r, h, hn => by
    obtain ⟨h1, h2⟩ := List.pairwise_cons.1 h
    unfold insL
    split
    · rename_i hlt
      refine List.pairwise_cons.2 ⟨fun q hq => ?_, h⟩
      rcases List.mem_cons.1 hq with rfl | hq
      · exact hlt
      · have := h1 q hq; omega
    · rename_i hlt
      have hn' : hasL r x.1 = false := by
        simp only [hasL, List.any_cons, Bool.or_eq_false_iff] at hn ⊢; exact hn.2
      have hy := hasL_no hn y (by simp)
      refine List.pairwise_cons.2 ⟨fun q hq => ?_, Asc.ins h2 hn'⟩
      rcases (mem_insL x r q).1 hq with rfl | hq
      · show y.1 < q.1; omega
      · exact h1 q hq
theorem insL_at (x : Ik) : ∀ (L : List Ik) (k : Nat), k ≤ L.length → (∀ j p, L[j]? = some p → k ≤ j → x.1 < p.1) → (∀ j p, L[j]? = some p → j < k → ¬ x.1 < p.1) → insL x L = L.take k ++ [x] ++ L.drop k
  | [], k, hk, _, _ => by simp at hk; subst hk; rfl
  | y :: r, 0, _, h1, _ => by
    have := h1 0 y rfl (Nat.le_refl _)
    unfold insL
    rw [if_pos this]; rfl
  | y :: r, k + 1, hk, h1, h2 => by
    have := h2 0 y rfl (by omega)
    unfold insL
    rw [if_neg this, insL_at x r k (by simpa using hk) (fun j p hj hkj => h1 (j + 1) p (by simpa using hj) (by omega)) (fun j p hj hkj => h2 (j + 1) p (by simpa using hj) (by omega))]
    rfl
theorem Asc.at {L : List Ik} (h : Asc L) {i j : Nat} {p q : Ik} (hp : L[i]? = some p) (hq : L[j]? = some q) (hij : i < j) : p.1 < q.1 := by
  obtain ⟨h1, rfl⟩ := List.getElem?_eq_some_iff.1 hp
  obtain ⟨h2, rfl⟩ := List.getElem?_eq_some_iff.1 hq
  exact List.pairwise_iff_getElem.1 h i j h1 h2 hij
theorem kindL_yes {L : List Ik} (h : Asc L) {p : Ik} (hp : p ∈ L) : kindL L p.1 = p.2 := by
  unfold kindL
  cases hf : L.find? (fun q => q.1 == p.1) with
  | none => have := List.find?_eq_none.1 hf p hp; simp at this
  | some q =>
    have hq1 : q.1 = p.1 := by simpa using List.find?_some hf
    have hq2 := List.mem_of_find?_eq_some hf
    obtain ⟨i, hi⟩ := List.getElem?_of_mem hp
    obtain ⟨j, hj⟩ := List.getElem?_of_mem hq2
    rcases Nat.lt_trichotomy i j with hij | hij | hij
    · have := h.at hi hj hij; omega
    · subst hij; rw [hi] at hj; cases hj; rfl
    · have := h.at hj hi hij; omega
theorem kindL_pos {m : Int} {L : List Ik} (h : OkT m L) (i : Int) : 0 < kindL L i ↔ hasL L i = true := by
  constructor
  · intro h1
    cases h2 : hasL L i
    · rw [kindL_no h2] at h1; omega
    · rfl
  · intro h1
    obtain ⟨p, hp, rfl⟩ := (hasL_iff L i).1 h1
    rw [kindL_yes h.asc hp]
    have := h.ids p hp; omega
theorem OkT.ins {m : Int} {L : List Ik} (h : OkT m L) {i k : Int} (hi : 1 ≤ i ∧ i ≤ 4294967295) (hk : 1 ≤ k ∧ k ≤ 8) (hn : hasL L i = false) (hm : (L.length : Int) < m) : OkT m (insL (i, k) L) :=
  ⟨h.asc.ins hn, fun p hp => by
    rcases (mem_insL _ _ _).1 hp with rfl | hp
    · exact ⟨hi.1, hi.2, hk.1, hk.2⟩
    · exact h.ids p hp, by rw [insL_len]; omega, h.m1, h.m32⟩
theorem dropL_le (L : List Ik) (i : Int) : (dropL L i).length ≤ L.length := List.length_filter_le _ _
theorem OkT.drop {m : Int} {L : List Ik} (h : OkT m L) (i : Int) : OkT m (dropL L i) :=
  ⟨List.Pairwise.sublist List.filter_sublist h.asc, fun p hp => h.ids p (List.mem_filter.1 hp).1, by have := h.most; have := dropL_le L i; omega, h.m1, h.m32⟩
theorem dropL_lt (L : List Ik) (i : Int) : hasL L i = decide ((dropL L i).length < L.length) := by
  cases h : hasL L i
  · rw [dropL_no h]; simp
  · obtain ⟨p, hp, rfl⟩ := (hasL_iff L i).1 h
    have : (dropL L p.1).length < L.length := by
      unfold dropL
      rcases Nat.lt_or_ge (L.filter fun q => !(q.1 == p.1)).length L.length with h' | h'
      · exact h'
      · have := List.length_filter_eq_length_iff.1 (Nat.le_antisymm (List.length_filter_le _ _) h') p hp
        simp at this
    simp [this]

/-- What Add tells. -/
def addE (m : Int) (L : List Ik) (i k : Int) : Int :=
  if i < 1 ∨ 4294967295 < i ∨ k < 1 ∨ 8 < k then 1 else if hasL L i then 6 else if m ≤ L.length then 10 else 0
def addL (m : Int) (L : List Ik) (i k : Int) : List Ik := if addE m L i k = 0 then insL (i, k) L else L
theorem addE_bad {m : Int} {L : List Ik} {i k : Int} (h : i < 1 ∨ 4294967295 < i ∨ k < 1 ∨ 8 < k) : addE m L i k = 1 := if_pos h
theorem addE_ok {m : Int} {L : List Ik} {i k : Int} (h : ¬(i < 1 ∨ 4294967295 < i ∨ k < 1 ∨ 8 < k)) : addE m L i k = if hasL L i then 6 else if m ≤ L.length then 10 else 0 := if_neg h
theorem OkT.add {m : Int} {L : List Ik} (h : OkT m L) (i k : Int) : OkT m (addL m L i k) := by
  unfold addL
  split
  · rename_i h0
    unfold addE at h0
    split at h0
    · cases h0
    · rename_i h1
      split at h0
      · cases h0
      · rename_i h2
        split at h0
        · cases h0
        · rename_i h3
          exact h.ins (by omega) (by omega) (by simpa using h2) (by omega)
  · exact h
def findE (L : List Ik) (i k : Int) : Int := if hasL L i then (if kindL L i = k then 0 else 9) else 5

/-- Ids of a kind. -/
theorem ofL_asc {L : List Ik} (h : Asc L) (k : Int) : (ofL L k).Pairwise (· < ·) := by
  unfold ofL
  rw [List.pairwise_map]
  exact List.Pairwise.sublist List.filter_sublist h
theorem mem_ofL (L : List Ik) (k x : Int) : x ∈ ofL L k ↔ (x, k) ∈ L := by
  unfold ofL
  simp only [List.mem_map, List.mem_filter, beq_iff_eq]
  constructor
  · rintro ⟨⟨a, b⟩, ⟨h1, h2⟩, h3⟩; simp only at h2 h3; subst h2 h3; exact h1
  · intro h; exact ⟨(x, k), ⟨h, rfl⟩, rfl⟩
theorem ofL_len (L : List Ik) (k : Int) : (ofL L k).length ≤ L.length := by unfold ofL; rw [List.length_map]; exact List.length_filter_le _ _
theorem mem_kind {L : List Ik} (h : Asc L) (i : Int) (hi : hasL L i = true) (k : Int) : (i, k) ∈ L ↔ kindL L i = k := by
  obtain ⟨p, hp, rfl⟩ := (hasL_iff L i).1 hi
  constructor
  · intro hq; exact kindL_yes h hq
  · intro hq; rw [kindL_yes h hp] at hq; subst hq; exact hp
/-- What was collected of a map that is gone through: those of the kind that are no longer to come. -/
def Col (L : List Ik) (k : Int) (left : Lit → Bool) (ks : List Int) : Prop := ks.Nodup ∧ ∀ x, x ∈ ks ↔ ((x, k) ∈ L ∧ left (.int .i64 x) = false)
theorem Col.start (L : List Ik) (k : Int) : Col L k (Maps.has (dmap L)) [] := ⟨List.nodup_nil, fun x => by
  rw [has_dmap]
  constructor
  · intro h; cases h
  · rintro ⟨h1, h2⟩; have := hasL_no h2 _ h1; simp at this⟩
theorem Col.skip {L : List Ik} {k : Int} {left : Lit → Bool} {ks : List Int} (h : Col L k left ks) {x c : Int} (hx : ∀ z, (dmap L).atKey (.int .i64 x) z = .lit (.int .i64 c)) (hL : Asc L) (hc : c ≠ k) :
    Col L k (fun z => left z && !z.sameKey (.int .i64 x)) ks := ⟨h.1, fun y => by
  have hh : hasL L x = true := by
    cases h' : hasL L x
    · have := hx .nil; rw [atKey_dmap, h'] at this; cases this
    · rfl
  have hkx : kindL L x = c := by have := hx .nil; rw [atKey_dmap, hh] at this; simpa using this
  rw [h.2 y]
  by_cases hy : y = x
  · subst hy
    have : (y, k) ∉ L := fun h' => hc (by rw [← hkx]; exact (mem_kind hL y hh k).1 h')
    simp [this]
  · simp [sameI, hy]⟩
theorem Col.step {L : List Ik} {k : Int} {left : Lit → Bool} {ks : List Int} (h : Col L k left ks) {x : Int} (hlk : left (.int .i64 x) = true) (hx : ∀ z, (dmap L).atKey (.int .i64 x) z = .lit (.int .i64 k)) (hL : Asc L) :
    Col L k (fun z => left z && !z.sameKey (.int .i64 x)) (ks ++ [x]) := by
  have hh : hasL L x = true := by
    cases h' : hasL L x
    · have := hx .nil; rw [atKey_dmap, h'] at this; cases this
    · rfl
  have hkx : kindL L x = k := by have := hx .nil; rw [atKey_dmap, hh] at this; simpa using this
  have hm := (mem_kind hL x hh k).2 hkx
  have hnew : x ∉ ks := fun h' => by have := ((h.2 x).1 h').2; rw [hlk] at this; cases this
  refine ⟨List.nodup_append.2 ⟨h.1, by simp, fun a ha b hb => by simp at hb; subst hb; exact fun e => hnew (e ▸ ha)⟩, fun y => ?_⟩
  by_cases hy : y = x
  · subst hy; simp [hm, sameI]
  · simp [h.2 y, hy, sameI]
theorem Col.perm {L : List Ik} {k : Int} {left : Lit → Bool} {ks : List Int} (h : Col L k left ks) (hl : ∀ z, left z = false) (hL : Asc L) : ks.Perm (ofL L k) :=
  (List.perm_ext_iff_of_nodup h.1 ((ofL_asc hL k).imp (fun hlt => by omega))).2 fun x => by rw [h.2 x, hl, mem_ofL]; simp
theorem Col.sorted {L : List Ik} {k : Int} {left : Lit → Bool} {ks : List Int} (h : Col L k left ks) (hl : ∀ z, left z = false) (hL : Asc L) : ks.mergeSort (fun x y => decide (x ≤ y)) = ofL L k := by
  refine List.Perm.eq_of_pairwise (le := fun a b : Int => a ≤ b) (fun a b _ _ h1 h2 => Int.le_antisymm h1 h2) ?_ ((ofL_asc hL k).imp (fun h => Int.le_of_lt h)) ((List.mergeSort_perm _ _).trans (h.perm hl hL))
  have := List.pairwise_mergeSort (le := fun (x y : Int) => decide (x ≤ y)) (by intro a b c; simp; omega) (by intro a b; simp; omega) ks
  exact this.imp (by intro a b; simp)

end Go.Proofs.Ytkaaagggbclofaa
namespace Go.Proofs.Ytkaaagggbclofaa
open Go.ChangeShapes Go.WideShapes Go.ChangeAt Go.RowKit Go.Joins Go.Sort Go.Deep Go.Maps

theorem keyInt : Keyed Try.prog 3 := int_keyed Try.underlying3
theorem zeroInt (w : World) : (zeroValue 3).run Try.prog w = .ok (.int .i64 0) w := by kernel_rfl
theorem wf64 {n : Int} (h : I64 n) : (Lit.int .i64 n).wf = true := by
  unfold I64 at h
  simp [Lit.wf, IntKind.min, IntKind.max, IntKind.bits, IntKind.signed]
  omega
theorem tight {P : Program} {k : TypeId} {R : Value → Option (DataW Unit × List MemPlace)} {w : World} {b n : Nat} {D : DataW Unit} (h : w.ownsMap P k R b n D) : w.ownsMap P k R b (Maps.size D) D := by
  obtain ⟨es, clock, hb, F, hs, rfl⟩ := h
  exact ⟨es, clock, hb, F, by simp [Maps.size, length_sorted], rfl⟩
/-- Block b is a map that reads as this list. -/
def Mp (w : World) (b : Nat) (L : List Ik) : Prop := w.ownsMap Try.prog 3 (plainElem Try.prog 3) b L.length (dmap L)
theorem Mp.of {w : World} {b n : Nat} {L : List Ik} (h : w.ownsMap Try.prog 3 (plainElem Try.prog 3) b n (dmap L)) : Mp w b L := by
  have := tight h
  rw [size_dmap] at this
  exact this
theorem Mp.lt {w : World} {b : Nat} {L : List Ik} (h : Mp w b L) : b < w.heap.size := World.ownsMap.lt h
theorem Mp.by {w w' : World} {b : Nat} {L : List Ik} (h : Mp w b L) {row : Option Nat} (g : w.grownBy w' row) (hne : some b ≠ row) : Mp w' b L := World.ownsMap.kept h g hne
theorem Mp.bl {w w' : World} {b : Nat} {L : List Ik} (h : Mp w b L) (g : Bl w w') : Mp w' b L := h.by (g.byr none) (by simp)
theorem Mp.cell {w : World} {b : Nat} {L : List Ik} (h : Mp w b L) (p : Addr) (hp : p.block = b) : w.cell? p = none := by
  obtain ⟨es, clock, hb, _⟩ := h
  unfold World.cell?
  rw [hp, hb]
theorem Mp.ne {w : World} {a b : Nat} {L : List Ik} {cs : Array Value} {t : TypeId} (h : Mp w b L) (g : At w a cs t) : a ≠ b := by
  rintro rfl
  obtain ⟨es, clock, hb, _⟩ := h
  unfold At at g
  rw [hb] at g
  cases g
attribute [local go_sem ↓] run_min2 run_max2
end Go.Proofs.Ytkaaagggbclofaa
namespace Go.Proofs.Ytkaaagggbclofaa
open Go.RowKit Go.Sort

def mayB (a b c d : Int) : Bool := decide (-1048576 ≤ a ∧ a ≤ c ∧ c ≤ 1048576 ∧ -1048576 ≤ b ∧ b ≤ d ∧ d ≤ 1048576)
def emptyB (a b c d : Int) : Bool := decide (c ≤ a ∨ d ≤ b)
def hasB (a b c d x y : Int) : Bool := decide (a ≤ x ∧ x < c ∧ b ≤ y ∧ y < d)
def inB (a : Int) : Bool := decide (-1048576 ≤ a ∧ a ≤ 1048576)

set_option maxHeartbeats 400000 in
theorem empty1 (a b c d : Int) (w : World) :
    Calls Try.prog 52 #[.agg #[.int .i64 a, .int .i64 b, .int .i64 c, .int .i64 d]] w (Rt w (.bool (emptyB a b c d))) := by
  go_enter Try.func52, Try.ntmps52
  go_wp2
  all_goals
    go_ret
    refine Rt.bool ?_ ?_
    · simp [emptyB] <;> omega
    · repeat (first | with_reducible exact Gr.refl _ | with_reducible apply Gr.drew | with_reducible apply Gr.drewN | with_reducible apply Gr.grow | with_reducible apply Gr.alloc | (with_reducible refine Gr.setCell ?_ ?_ _; rotate_left; (simp; try omega)))

set_option maxHeartbeats 400000 in
theorem has1 (a b c d x y : Int) (w : World) :
    Calls Try.prog 36 #[.agg #[.int .i64 a, .int .i64 b, .int .i64 c, .int .i64 d], .int .i64 x, .int .i64 y] w (Rt w (.bool (hasB a b c d x y))) := by
  go_enter Try.func36, Try.ntmps36
  go_wp2
  all_goals
    go_ret
    refine Rt.bool ?_ ?_
    · simp [hasB] <;> omega
    · repeat (first | with_reducible exact Gr.refl _ | with_reducible apply Gr.drew | with_reducible apply Gr.drewN | with_reducible apply Gr.grow | with_reducible apply Gr.alloc | (with_reducible refine Gr.setCell ?_ ?_ _; rotate_left; (simp; try omega)))

set_option maxHeartbeats 400000 in
theorem refempty1 (a b c d : Int) (w : World) :
    Calls Try.prog 48 #[.agg #[.int .i64 a, .int .i64 b, .int .i64 c, .int .i64 d]] w (Rt w (.bool (emptyB a b c d))) := by
  go_enter Try.func48, Try.ntmps48
  go_wp2
  all_goals
    go_ret
    refine Rt.bool ?_ ?_
    · simp [emptyB] <;> omega
    · repeat (first | with_reducible exact Gr.refl _ | with_reducible apply Gr.drew | with_reducible apply Gr.drewN | with_reducible apply Gr.grow | with_reducible apply Gr.alloc | (with_reducible refine Gr.setCell ?_ ?_ _; rotate_left; (simp; try omega)))

end Go.Proofs.Ytkaaagggbclofaa
namespace Go.Proofs.Ytkaaagggbclofaa
open Go.ChangeShapes Go.WideShapes Go.ChangeAt Go.RowKit Go.Joins Go.Sort

theorem cellsRect : Try.prog.cellsOf 31 = 4 := by kernel_rfl

section
variable {H : Type} {enc : TypeId × Value → H} {w : World} {base b0 : Nat} {r : Reach} {spare : Nat → Bool} {held : Bool}
set_option maxRecDepth 100000 in
/-- A rectangle that came in by value. -/
theorem open_rect {v : Value} {dd : DataW H} {p : List MemPlace} (hv : Value.okWide Try.prog w r b0 31 v) (h : DataW.Trod enc Try.prog w base spare held 31 v dd p) :
    ∃ a b c d : Int, v = .agg #[.int .i64 a, .int .i64 b, .int .i64 c, .int .i64 d] ∧ dd = .agg [.lit (.int .i64 a), .lit (.int .i64 b), .lit (.int .i64 c), .lit (.int .i64 d)] ∧ p = [] ∧
      (Lit.int .i64 a).wf = true ∧ (Lit.int .i64 b).wf = true ∧ (Lit.int .i64 c).wf = true ∧ (Lit.int .i64 d).wf = true := by
  obtain ⟨a0, a1, a2, a3, y0, y1, y2, y3, m, rfl, rfl, rfl, hy0, hy1, hy2, hy3⟩ := open_agg4 Try.underlying31 (by kernel_rfl) cellsRect hv h
  obtain ⟨a, e0, rfl, wa⟩ := DataW.trod_int Try.underlying3 hy0
  obtain ⟨b, e1, rfl, wb⟩ := DataW.trod_int Try.underlying3 hy1
  obtain ⟨c, e2, rfl, wc⟩ := DataW.trod_int Try.underlying3 hy2
  obtain ⟨d, e3, rfl, wd⟩ := DataW.trod_int Try.underlying3 hy3
  simp at e0 e1 e2 e3
  subst e0 e1 e2 e3
  exact ⟨a, b, c, d, rfl, rfl, rfl, wa, wb, wc, wd⟩
set_option maxRecDepth 100000 in
theorem shut_rect {a b c d : Int} (wa : (Lit.int .i64 a).wf = true) (wb : (Lit.int .i64 b).wf = true) (wc : (Lit.int .i64 c).wf = true) (wd : (Lit.int .i64 d).wf = true) :
    DataW.Trod enc Try.prog w base spare held 31 (.agg #[.int .i64 a, .int .i64 b, .int .i64 c, .int .i64 d]) (.agg [.lit (.int .i64 a), .lit (.int .i64 b), .lit (.int .i64 c), .lit (.int .i64 d)]) [] :=
  shut_agg4 (y0 := (.lit (.int .i64 a), [])) (y1 := (.lit (.int .i64 b), [])) (y2 := (.lit (.int .i64 c), [])) (y3 := (.lit (.int .i64 d), [])) Try.underlying31 (by kernel_rfl) cellsRect ⟨1, by simp [DataW.trod, Try.underlying3, wa]⟩ ⟨1, by simp [DataW.trod, Try.underlying3, wb]⟩ ⟨1, by simp [DataW.trod, Try.underlying3, wc]⟩ ⟨1, by simp [DataW.trod, Try.underlying3, wd]⟩
end

end Go.Proofs.Ytkaaagggbclofaa
namespace Go.Proofs.Ytkaaagggbclofaa
open Go.RowKit Go.Sort

structure Rc where
  a : Int
  b : Int
  c : Int
  d : Int
def cutR (a b c d a' b' c' d' : Int) : Rc :=
  if emptyB (max a a') (max b b') (min c c') (min d d') = true then ⟨0, 0, 0, 0⟩ else ⟨max a a', max b b', min c c', min d d'⟩
theorem cutR_t {a b c d a' b' c' d' p q r s : Int} (e : emptyB p q r s = true) (h : max a a' = p ∧ max b b' = q ∧ min c c' = r ∧ min d d' = s) :
    (cutR a b c d a' b' c' d').a = 0 ∧ (cutR a b c d a' b' c' d').b = 0 ∧ (cutR a b c d a' b' c' d').c = 0 ∧ (cutR a b c d a' b' c' d').d = 0 := by
  obtain ⟨h1, h2, h3, h4⟩ := h
  unfold cutR; rw [h1, h2, h3, h4, if_pos e]; exact ⟨rfl, rfl, rfl, rfl⟩
theorem cutR_f {a b c d a' b' c' d' p q r s : Int} (e : emptyB p q r s = false) (h : max a a' = p ∧ max b b' = q ∧ min c c' = r ∧ min d d' = s) :
    (cutR a b c d a' b' c' d').a = p ∧ (cutR a b c d a' b' c' d').b = q ∧ (cutR a b c d a' b' c' d').c = r ∧ (cutR a b c d a' b' c' d').d = s := by
  obtain ⟨h1, h2, h3, h4⟩ := h
  unfold cutR; rw [h1, h2, h3, h4, if_neg (by simp [e])]; exact ⟨rfl, rfl, rfl, rfl⟩
def meetsB (a b c d a' b' c' d' : Int) : Bool := !emptyB (max a a') (max b b') (min c c') (min d d')
def coversB (a b c d a' b' c' d' : Int) : Bool := emptyB a' b' c' d' || decide (a ≤ a' ∧ b ≤ b' ∧ c' ≤ c ∧ d' ≤ d)
def clamp (n : Int) : Int := min (max n (-1048576)) 1048576
def goodR (a b c d : Int) : Rc := ⟨min (clamp a) (clamp c), min (clamp b) (clamp d), max (clamp a) (clamp c), max (clamp b) (clamp d)⟩
def around (n m : Int) : Int := if n < 0 then -((n + 1).tmod m) else n % m
def smallR (a b c d : Int) : Rc := ⟨around a 24 - 4, around b 24 - 4, around a 24 - 4 + around c 13, around b 24 - 4 + around d 13⟩

theorem around_bd (n m : Int) (hm : 1 ≤ m) : 0 ≤ around n m ∧ around n m < m := by
  unfold around
  split
  · rw [← Int.neg_tmod, Int.tmod_eq_emod_of_nonneg (by omega)]
    exact ⟨Int.emod_nonneg _ (by omega), Int.emod_lt_of_pos _ (by omega)⟩
  · exact ⟨Int.emod_nonneg _ (by omega), Int.emod_lt_of_pos _ (by omega)⟩

theorem Rt.rect {w w' : World} {a b c d : Int} {r : Rc} (h : r.a = a ∧ r.b = b ∧ r.c = c ∧ r.d = d) (hg : Gr w w') :
    Rt w (.agg #[.int .i64 r.a, .int .i64 r.b, .int .i64 r.c, .int .i64 r.d]) (.returned (.agg #[.int .i64 a, .int .i64 b, .int .i64 c, .int .i64 d])) w' := by
  obtain ⟨rfl, rfl, rfl, rfl⟩ := h
  exact ⟨rfl, hg⟩

set_option maxHeartbeats 400000 in
theorem around1 (n m : Int) (w : World) (hn : I64 n) (hm : 1 ≤ m ∧ m ≤ 1000000) :
    Calls Try.prog 11 #[.int .i64 n, .int .i64 m] w fun e w' => e = .returned (.int .i64 (around n m)) ∧ w = w' := by
  obtain ⟨hn1, hn2⟩ := hn
  obtain ⟨hm1, hm2⟩ := hm
  go_enter Try.func11, Try.ntmps11
  go_wp2
  all_goals
    go_ret
    refine ⟨ret_int ?_, rfl⟩
    unfold around
    first | rw [if_pos ‹_›] | rw [if_neg (by omega)]

attribute [local go_sem] cell?_grow frozen?_grow nlt_r
attribute [local go_sem ↓] run_min2 run_max2

set_option maxHeartbeats 2000000 in
theorem cut1 (a b c d a' b' c' d' : Int) (w : World) :
    Calls Try.prog 69 #[.agg #[.int .i64 a, .int .i64 b, .int .i64 c, .int .i64 d], .agg #[.int .i64 a', .int .i64 b', .int .i64 c', .int .i64 d']] w
      (Rt w (.agg #[.int .i64 (cutR a b c d a' b' c' d').a, .int .i64 (cutR a b c d a' b' c' d').b, .int .i64 (cutR a b c d a' b' c' d').c, .int .i64 (cutR a b c d a' b' c' d').d])) := by
  go_enter Try.func69, Try.ntmps69
  go_wp2_with fail
  all_goals
    refine (empty1 _ _ _ _ _).mono ?_
    rintro e w' ⟨rfl, ⟨⟨n, os⟩, rfl⟩⟩
    go_wp2
    all_goals
      go_returns
      refine Rt.rect (by first | exact cutR_t ‹_› (by omega) | exact cutR_f ‹_› (by omega)) ?_
      repeat (first | with_reducible exact Gr.refl _ | with_reducible apply Gr.drew | with_reducible apply Gr.drewN | with_reducible apply Gr.grow | with_reducible apply Gr.alloc | (with_reducible refine Gr.setCell ?_ ?_ _; rotate_left; (simp; try omega)))

end Go.Proofs.Ytkaaagggbclofaa
namespace Go.Proofs.Ytkaaagggbclofaa
open Go.RowKit Go.Sort

theorem covers_of (a b c d a' b' c' d' : Int) {t : Bool} (e : emptyB a' b' c' d' = false) (h : t = true ↔ ((cutR a b c d a' b' c' d').a = a' ∧ (cutR a b c d a' b' c' d').b = b' ∧ (cutR a b c d a' b' c' d').c = c' ∧ (cutR a b c d a' b' c' d').d = d')) :
    t = true ↔ coversB a b c d a' b' c' d' = true := by
  rw [h]
  unfold coversB cutR
  simp only [e, Bool.false_or, decide_eq_true_eq]
  simp [emptyB] at e
  by_cases e' : emptyB (max a a') (max b b') (min c c') (min d d') = true
  · rw [if_pos e']
    simp [emptyB] at e'
    simp only []
    omega
  · rw [if_neg e']
    simp [emptyB] at e'
    simp only []
    omega

attribute [local go_sem] cell?_grow frozen?_grow nlt_r

set_option maxHeartbeats 1000000 in
theorem covers1 (a b c d a' b' c' d' : Int) (w : World) :
    Calls Try.prog 53 #[.agg #[.int .i64 a, .int .i64 b, .int .i64 c, .int .i64 d], .agg #[.int .i64 a', .int .i64 b', .int .i64 c', .int .i64 d']] w (Rt w (.bool (coversB a b c d a' b' c' d'))) := by
  have mixed : Try.prog.follows .mixedOrders = true := by kernel_rfl
  have c1 := cut1 a b c d a' b' c' d'
  have c2 := empty1 a' b' c' d'
  by_cases e : emptyB a' b' c' d' = true
  · rw [e] at c2
    go_enter Try.func53, Try.ntmps53
    go_wp2
    go_quiet_grown (first | (go_at_call 52; exact Calls.grown (c2 _)) | (go_at_call 69; exact Calls.grown (c1 _)))
    go_wp2
    go_ret
    refine Rt.bool (by simp [coversB, e]) ?_
    repeat (first | with_reducible exact Gr.refl _ | with_reducible apply Gr.drew | with_reducible apply Gr.drewN | with_reducible apply Gr.grow | with_reducible apply Gr.alloc)
  · simp only [Bool.not_eq_true] at e
    rw [e] at c2
    have hh : (¬(cutR a b c d a' b' c' d').a = a') ∨ ((cutR a b c d a' b' c' d').a = a' ∧ ¬(cutR a b c d a' b' c' d').b = b') ∨ ((cutR a b c d a' b' c' d').a = a' ∧ (cutR a b c d a' b' c' d').b = b' ∧ ¬(cutR a b c d a' b' c' d').c = c') ∨
        ((cutR a b c d a' b' c' d').a = a' ∧ (cutR a b c d a' b' c' d').b = b' ∧ (cutR a b c d a' b' c' d').c = c' ∧ ¬(cutR a b c d a' b' c' d').d = d') ∨ ((cutR a b c d a' b' c' d').a = a' ∧ (cutR a b c d a' b' c' d').b = b' ∧ (cutR a b c d a' b' c' d').c = c' ∧ (cutR a b c d a' b' c' d').d = d') := by omega
    rcases hh with h1 | ⟨h1, h2⟩ | ⟨h1, h2, h3⟩ | ⟨h1, h2, h3, h4⟩ | ⟨h1, h2, h3, h4⟩
    all_goals
      go_enter Try.func53, Try.ntmps53
      go_wp2
      go_quiet_grown (first | (go_at_call 52; exact Calls.grown (c2 _)) | (go_at_call 69; exact Calls.grown (c1 _)))
      go_wp2
      go_ret
      refine Rt.bool (covers_of _ _ _ _ _ _ _ _ e (by simp [*])) ?_
      repeat (first | with_reducible exact Gr.refl _ | with_reducible apply Gr.drew | with_reducible apply Gr.drewN | with_reducible apply Gr.grow | with_reducible apply Gr.alloc)

end Go.Proofs.Ytkaaagggbclofaa
namespace Go.Proofs.Ytkaaagggbclofaa
open Go.RowKit Go.Sort

def Bd (n : Int) : Prop := -1048576 ≤ n ∧ n ≤ 1048576
def moveB (a b c d x y : Int) : Bool := decide (-2097152 ≤ x ∧ x ≤ 2097152 ∧ -2097152 ≤ y ∧ y ≤ 2097152) && mayB (a + x) (b + y) (c + x) (d + y)
def moveR (a b c d x y : Int) : Rc := if moveB a b c d x y = true then ⟨a + x, b + y, c + x, d + y⟩ else ⟨0, 0, 0, 0⟩
def moveE (a b c d x y : Int) : Int := if moveB a b c d x y = true then 0 else 4

theorem Rt.rect2 {w w' : World} {a b c d m : Int} {r : Rc} {n : Int} (h : r.a = a ∧ r.b = b ∧ r.c = c ∧ r.d = d ∧ n = m) (hg : Gr w w') :
    Rt w (.tuple #[.agg #[.int .i64 r.a, .int .i64 r.b, .int .i64 r.c, .int .i64 r.d], .int .i64 n]) (.returned (.tuple #[.agg #[.int .i64 a, .int .i64 b, .int .i64 c, .int .i64 d], .int .i64 m])) w' := by
  obtain ⟨rfl, rfl, rfl, rfl, rfl⟩ := h
  exact ⟨rfl, hg⟩
theorem moveR_t {a b c d x y : Int} (h : moveB a b c d x y = true) : (moveR a b c d x y).a = a + x ∧ (moveR a b c d x y).b = b + y ∧ (moveR a b c d x y).c = c + x ∧ (moveR a b c d x y).d = d + y ∧ moveE a b c d x y = 0 := by
  unfold moveR moveE; rw [if_pos h, if_pos h]; exact ⟨rfl, rfl, rfl, rfl, rfl⟩
theorem moveR_f {a b c d x y : Int} (h : moveB a b c d x y = false) : (moveR a b c d x y).a = 0 ∧ (moveR a b c d x y).b = 0 ∧ (moveR a b c d x y).c = 0 ∧ (moveR a b c d x y).d = 0 ∧ moveE a b c d x y = 4 := by
  unfold moveR moveE; rw [if_neg (by simp [h]), if_neg (by simp [h])]; exact ⟨rfl, rfl, rfl, rfl, rfl⟩

/-- Whether a sum of two ints is none. -/
def wrapsB (a b : Int) : Bool := decide (a + b < -9223372036854775808 ∨ 9223372036854775807 < a + b)
attribute [local go_sem] cell?_grow frozen?_grow nlt_r

theorem wraps_no {a b : Int} (h : -9223372036854775808 ≤ a + b ∧ a + b ≤ 9223372036854775807) : wrapsB a b = false := by
  unfold wrapsB; simp; omega
theorem move_no {a b c d x y : Int} (h : wrapsB a x = true ∨ wrapsB c x = true ∨ wrapsB b y = true ∨ wrapsB d y = true) : moveB a b c d x y = false := by
  cases hm : moveB a b c d x y with
  | false => rfl
  | true => unfold moveB mayB wrapsB at *; simp at *; omega
theorem Bd.i64 {n : Int} (h : Bd n) : I64 n := by unfold Bd at h; unfold I64; omega

end Go.Proofs.Ytkaaagggbclofaa
namespace Go.Proofs.Ytkaaagggbclofaa
open Go.RowKit Go.Sort

attribute [local go_sem] cell?_grow frozen?_grow nlt_r

def areaI (a b c d : Int) : Int := (c - a) * (d - b)

theorem area_bd {a b c d : Int} (h : mayB a b c d = true) : 0 ≤ (c - a) * (d - b) ∧ (c - a) * (d - b) ≤ 4398046511104 := by
  simp only [mayB, decide_eq_true_eq] at h
  obtain ⟨b1, b2, b3, b4, b5, b6⟩ := h
  have h1 : 0 ≤ c - a := by omega
  have h2 : c - a ≤ 2097152 := by omega
  have h3 : 0 ≤ d - b := by omega
  have h4 : d - b ≤ 2097152 := by omega
  refine ⟨Int.mul_nonneg h1 h3, ?_⟩
  calc (c - a) * (d - b) ≤ 2097152 * (d - b) := Int.mul_le_mul_of_nonneg_right h2 h3
    _ ≤ 2097152 * 2097152 := Int.mul_le_mul_of_nonneg_left h4 (by omega)

set_option maxHeartbeats 1000000 in
theorem area1 (a b c d : Int) (w : World) (h : mayB a b c d = true) :
    Calls Try.prog 41 #[.agg #[.int .i64 a, .int .i64 b, .int .i64 c, .int .i64 d]] w (Rt w (.int .i64 (areaI a b c d))) := by
  have hp := area_bd h
  obtain ⟨hp1, hp2⟩ := hp
  have hb := h
  simp only [mayB, decide_eq_true_eq] at hb
  obtain ⟨b1, b2, b3, b4, b5, b6⟩ := hb
  clear h
  go_enter Try.func41, Try.ntmps41
  go_wp2
  go_ret
  refine Rt.int ?_ ?_
  · unfold areaI; first | rfl | (exact IntWalk.i64_in _ (by omega))
  · repeat (first | with_reducible exact Gr.refl _ | with_reducible apply Gr.drew | with_reducible apply Gr.alloc)

set_option maxHeartbeats 1000000 in
theorem refarea1 (a b c d : Int) (w : World) (h : mayB a b c d = true) :
    Calls Try.prog 49 #[.agg #[.int .i64 a, .int .i64 b, .int .i64 c, .int .i64 d]] w (Rt w (.int .i64 (areaI a b c d))) := by
  have hp := area_bd h
  obtain ⟨hp1, hp2⟩ := hp
  have hb := h
  simp only [mayB, decide_eq_true_eq] at hb
  obtain ⟨b1, b2, b3, b4, b5, b6⟩ := hb
  clear h
  have c1 := refempty1 a b c d
  by_cases e : emptyB a b c d = true
  · have hz : 0 = areaI a b c d := by
      simp [emptyB] at e
      unfold areaI
      rcases e with e | e
      · have : c - a = 0 := by omega
        rw [this]; simp
      · have : d - b = 0 := by omega
        rw [this]; simp
    rw [e] at c1
    have Hz := Lib.hid hz
    clear hz
    go_enter Try.func49, Try.ntmps49
    go_wp2_with fail
    refine (c1 _).mono ?_
    rintro e w' ⟨rfl, ⟨⟨n, os⟩, rfl⟩⟩
    go_wp2
    go_ret
    refine Rt.int Hz.out ?_
    repeat (first | with_reducible exact Gr.refl _ | with_reducible apply Gr.drew | with_reducible apply Gr.drewN | with_reducible apply Gr.grow | with_reducible apply Gr.alloc)
  · simp only [Bool.not_eq_true] at e
    rw [e] at c1
    go_enter Try.func49, Try.ntmps49
    go_wp2_with fail
    refine (c1 _).mono ?_
    rintro e w' ⟨rfl, ⟨⟨n, os⟩, rfl⟩⟩
    go_wp2
    go_ret
    refine Rt.int ?_ ?_
    · unfold areaI; first | rfl | (exact IntWalk.i64_in _ (by omega))
    · repeat (first | with_reducible exact Gr.refl _ | with_reducible apply Gr.drew | with_reducible apply Gr.drewN | with_reducible apply Gr.grow | with_reducible apply Gr.alloc)

end Go.Proofs.Ytkaaagggbclofaa
namespace Go.Proofs.Ytkaaagggbclofaa
open Go.RowKit Go.Sort

attribute [local go_sem] cell?_grow frozen?_grow nlt_r
attribute [local go_sem ↓] run_min2 run_max2

end Go.Proofs.Ytkaaagggbclofaa

namespace Go.Proofs.Ytkaaagggbclofaa
open Go.RowKit Go.Sort

attribute [local go_sem] cell?_grow frozen?_grow nlt_r

set_option maxHeartbeats 1000000 in
theorem refcovers1 (a b c d a' b' c' d' : Int) (w : World) :
    Calls Try.prog 47 #[.agg #[.int .i64 a, .int .i64 b, .int .i64 c, .int .i64 d], .agg #[.int .i64 a', .int .i64 b', .int .i64 c', .int .i64 d']] w (Rt w (.bool (coversB a b c d a' b' c' d'))) := by
  go_enter Try.func47, Try.ntmps47
  go_wp2_with fail
  refine (refempty1 _ _ _ _ _).mono ?_
  rintro e w' ⟨rfl, ⟨⟨n, os⟩, rfl⟩⟩
  go_wp2
  all_goals
    go_ret
    refine Rt.bool ?_ ?_
    · simp [coversB, *] <;> omega
    · repeat (first | with_reducible exact Gr.refl _ | with_reducible apply Gr.drew | with_reducible apply Gr.drewN | with_reducible apply Gr.grow | with_reducible apply Gr.alloc | (with_reducible refine Gr.setCell ?_ ?_ _; rotate_left; (simp; try omega)))

end Go.Proofs.Ytkaaagggbclofaa
namespace Go.Proofs.Ytkaaagggbclofaa
open Go.RowKit Go.Sort

def C32 (c : Int) : Prop := 0 ≤ c ∧ c ≤ 4294967295
def pA (c : Int) : Int := c / 16777216
def pR (c : Int) : Int := c / 65536 % 256
def pG (c : Int) : Int := c / 256 % 256
def pB (c : Int) : Int := c % 256
def cl (n : Int) : Int := min (max n 0) 255
def mk (a r g b : Int) : Int := cl a * 16777216 + cl r * 65536 + cl g * 256 + cl b
def pt (p q : Int) : Int := (cl p * cl q + 127) / 255
def By (n : Int) : Prop := 0 ≤ n ∧ n ≤ 255

theorem cl_by (n : Int) : By (cl n) := by unfold By cl; omega
theorem cl_of {n : Int} (h : By n) : cl n = n := by unfold By at h; unfold cl; omega
theorem pA_by {c : Int} (h : C32 c) : By (pA c) := by unfold C32 at h; unfold By pA; omega
theorem pR_by (c : Int) : By (pR c) := by unfold By pR; omega
theorem pG_by (c : Int) : By (pG c) := by unfold By pG; omega
theorem pB_by (c : Int) : By (pB c) := by unfold By pB; omega
theorem mk_c32 (a r g b : Int) : C32 (mk a r g b) := by
  have h1 := cl_by a; have h2 := cl_by r; have h3 := cl_by g; have h4 := cl_by b
  unfold By at *; unfold C32 mk; omega
theorem pA_mk (a r g b : Int) : pA (mk a r g b) = cl a := by
  have h1 := cl_by a; have h2 := cl_by r; have h3 := cl_by g; have h4 := cl_by b
  unfold By at *; unfold pA mk; omega
theorem pR_mk (a r g b : Int) : pR (mk a r g b) = cl r := by
  have h1 := cl_by a; have h2 := cl_by r; have h3 := cl_by g; have h4 := cl_by b
  unfold By at *; unfold pR mk; omega
theorem pG_mk (a r g b : Int) : pG (mk a r g b) = cl g := by
  have h1 := cl_by a; have h2 := cl_by r; have h3 := cl_by g; have h4 := cl_by b
  unfold By at *; unfold pG mk; omega
theorem pB_mk (a r g b : Int) : pB (mk a r g b) = cl b := by
  have h1 := cl_by a; have h2 := cl_by r; have h3 := cl_by g; have h4 := cl_by b
  unfold By at *; unfold pB mk; omega
theorem mk_parts {c : Int} (h : C32 c) : mk (pA c) (pR c) (pG c) (pB c) = c := by
  have h1 := pA_by h
  unfold mk
  rw [cl_of h1, cl_of (pR_by c), cl_of (pG_by c), cl_of (pB_by c)]
  unfold C32 at h; unfold pA pR pG pB; omega
/-- Products of parts. -/
theorem mul_by {a b : Int} (ha : By a) (hb : By b) : 0 ≤ a * b ∧ a * b ≤ 65025 := by
  unfold By at *
  refine ⟨Int.mul_nonneg ha.1 hb.1, ?_⟩
  exact Int.le_trans (Int.mul_le_mul ha.2 hb.2 hb.1 (by omega)) (by omega)
theorem pt_by (p q : Int) : By (pt p q) := by
  have h := mul_by (cl_by p) (cl_by q)
  unfold By pt; omega
theorem and255 {x : Int} (h0 : 0 ≤ x) (h1 : x ≤ 4294967295) : bits .and .u32 x 255 = x % 256 :=
  bits_mask .u32 32 (by decide) (fun n h h' => by rw [IntKind.wrap_u32]; omega) 8 (by decide) x h0 (by omega)
theorem or256 {x y : Int} (h0 : 0 ≤ x) (h1 : x ≤ 16777215) (h2 : 0 ≤ y) (h3 : y ≤ 255) : bits .or .u32 (x * 256) y = x * 256 + y :=
  bits_join .u32 32 (by decide) (fun n h h' => by rw [IntKind.wrap_u32]; omega) 8 (x * 256) y (by omega) (by omega) (by omega) h2 (by omega) (by omega)
theorem w64 {x : Int} (h0 : 0 ≤ x) (h1 : x ≤ 4294967295) : wrap64 x = x := by unfold wrap64; omega

theorem Rt.agg4 {w w' : World} {a b c d a' b' c' d' : Int} (h : a = a' ∧ b = b' ∧ c = c' ∧ d = d') (hg : Gr w w') :
    Rt w (.agg #[.int .i64 a', .int .i64 b', .int .i64 c', .int .i64 d']) (.returned (.agg #[.int .i64 a, .int .i64 b, .int .i64 c, .int .i64 d])) w' := by
  obtain ⟨rfl, rfl, rfl, rfl⟩ := h; exact ⟨rfl, hg⟩

attribute [local go_sem ↓] run_min2 run_max2

set_option maxHeartbeats 400000 in
theorem parts1 (c : Int) (w : World) (hc : C32 c) :
    Calls Try.prog 54 #[.int .u32 c] w (Rt w (.agg #[.int .i64 (pA c), .int .i64 (pR c), .int .i64 (pG c), .int .i64 (pB c)])) := by
  obtain ⟨hc0, hc1⟩ := hc
  go_enter Try.func54, Try.ntmps54
  go_wp2
  go_returns
  refine Rt.agg4 ?_ ((Gr.refl _).alloc _)
  rw [and255 (by omega) (by omega), and255 (by omega) (by omega), and255 (by omega) (by omega), w64 (by omega) (by omega), w64 (by omega) (by omega), w64 (by omega) (by omega)]
  exact ⟨rfl, rfl, rfl, rfl⟩

set_option maxHeartbeats 400000 in
theorem refparts1 (c : Int) (w : World) (hc : C32 c) :
    Calls Try.prog 68 #[.int .u32 c] w (Rt w (.agg #[.int .i64 (pA c), .int .i64 (pR c), .int .i64 (pG c), .int .i64 (pB c)])) := by
  obtain ⟨hc0, hc1⟩ := hc
  go_enter Try.func68, Try.ntmps68
  go_wp2
  go_returns
  exact Rt.agg4 ⟨rfl, rfl, rfl, rfl⟩ ((Gr.refl _).alloc _)

set_option maxHeartbeats 400000 in
theorem refmake1 (a r g b : Int) (w : World) :
    Calls Try.prog 50 #[.int .i64 a, .int .i64 r, .int .i64 g, .int .i64 b] w (Rt w (.int .u32 (mk a r g b))) := by
  have h1 := cl_by a; have h2 := cl_by r; have h3 := cl_by g; have h4 := cl_by b
  unfold By cl at h1 h2 h3 h4
  go_enter Try.func50, Try.ntmps50
  go_wp2
  go_ret
  exact ⟨rfl, Gr.refl _⟩

/-- A function value that is called with one int. -/
def KcC (g : FuncId) : Prop := ∀ (args : Array Value) (w : World), Sem.run Try.prog (callFunc g args) w = Result.ok (Next.enter g args) w

end Go.Proofs.Ytkaaagggbclofaa
namespace Go.Proofs.Ytkaaagggbclofaa
open Go.RowKit Go.Sort

def ix (a b c d i : Int) : Int := if i = 0 then a else if i = 1 then b else if i = 2 then c else d
theorem ix0 (a b c d : Int) : ix a b c d 0 = a := rfl
theorem ix1 (a b c d : Int) : ix a b c d 1 = b := rfl
theorem ix2 (a b c d : Int) : ix a b c d 2 = c := rfl
theorem ix3 (a b c d : Int) : ix a b c d 3 = d := rfl
theorem four {i : Int} (h0 : 0 ≤ i) (h1 : i < 4) : i = 0 ∨ i = 1 ∨ i = 2 ∨ i = 3 := by omega

def ovc (pa p q : Int) : Int := p + pt q (255 - pa)
def ov (c d : Int) : Int := mk (ovc (pA c) (pA c) (pA d)) (ovc (pA c) (pR c) (pR d)) (ovc (pA c) (pG c) (pG d)) (ovc (pA c) (pB c) (pB d))
def fd (c al : Int) : Int := mk (pt (pA c) al) (pt (pR c) al) (pt (pG c) al) (pt (pB c) al)
def pre (a r g b : Int) : Int := mk a (pt r a) (pt g a) (pt b a)
def mayC (c : Int) : Bool := decide (pR c ≤ pA c ∧ pG c ≤ pA c ∧ pB c ≤ pA c)
def gd (c : Int) : Int := mk (pA c) (min (pR c) (pA c)) (min (pG c) (pA c)) (min (pB c) (pA c))

theorem cl_ovc {pa p q : Int} (ha : By pa) (hp : By p) : By pa ∧ 0 ≤ ovc pa p q ∧ ovc pa p q ≤ 510 := by
  have := pt_by q (255 - pa)
  unfold By at *; unfold ovc; omega

attribute [local go_sem ↓] run_min2 run_max2

theorem ix_cell {w : World} {k : Nat} {t : TypeId} {a b c d : Int} (hA : At w k #[.int .i64 a, .int .i64 b, .int .i64 c, .int .i64 d] t) {i : Nat} (h : i < 4) (n : Nat) (os : Array Obj) :
    (grow (w.drewN n) os).cell? ⟨k, i, none⟩ = some (.int .i64 (ix a b c d i)) := by
  rw [hA.cells n os i]
  obtain rfl | rfl | rfl | rfl : i = 0 ∨ i = 1 ∨ i = 2 ∨ i = 3 := by omega
  all_goals rfl
theorem ix_by {a b c d : Int} (ha : By a) (hb : By b) (hc : By c) (hd : By d) (i : Int) : By (ix a b c d i) := by unfold ix; (repeat' split) <;> assumption
theorem ix_map (f : Int → Int → Int) (a b c d a' b' c' d' i : Int) : ix (f a a') (f b b') (f c c') (f d d') i = f (ix a b c d i) (ix a' b' c' d' i) := by unfold ix; (repeat' split) <;> rfl

end Go.Proofs.Ytkaaagggbclofaa
