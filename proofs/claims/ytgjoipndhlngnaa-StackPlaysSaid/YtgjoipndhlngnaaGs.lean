/-
  What is proved: an element of a row that a call owns is turned, all of its cells, one by one. No conditions.
-/
import Derived.Test.YtgjoipndhlngnaaGw
import Derived.Deep.MidRow
namespace Go.Proofs.Ytgjoipndhlngnaa
open Go.ChangeShapes Go.WideShapes Go.ChangeAt Go.RowKit Go.Joins Go.Sort Go.Deep

theorem own_set1 {w : World} {B s n c g : Nat} {e : TypeId} {xs : List Value} (h : w.ownsRow B e s (.slice (some ⟨g, 0, none⟩) n c) n xs) (i : Nat) (u : Value) : (w.setCell ⟨g, i, none⟩ u).ownsRow B e s (.slice (some ⟨g, 0, none⟩) n c) n (xs.set i u) :=
  (World.ownsRow.stored h i u).1
/-- Cells from i on are turned to these. -/
def setsL : List Value → Nat → List Value → List Value
  | xs, _, [] => xs
  | xs, i, u :: us => setsL (xs.set i u) (i + 1) us
theorem own_sets {B s n c g : Nat} {e : TypeId} : ∀ (us : List Value) {w : World} {xs : List Value} (i : Nat), w.ownsRow B e s (.slice (some ⟨g, 0, none⟩) n c) n xs → (w.setCells g i us).ownsRow B e s (.slice (some ⟨g, 0, none⟩) n c) n (setsL xs i us)
  | [], _, _, _, h => h
  | u :: us, _, _, i, h => own_sets us (i + 1) (own_set1 h i u)
theorem setsL_len : ∀ (us : List Value) (xs : List Value) (i : Nat), (setsL xs i us).length = xs.length
  | [], _, _ => rfl
  | u :: us, xs, i => by
    show (setsL (xs.set i u) (i + 1) us).length = _
    rw [setsL_len, List.length_set]
theorem setsL_get : ∀ (us : List Value) (xs : List Value) (i j : Nat), (setsL xs i us)[j]? = if i ≤ j ∧ j < i + us.length ∧ j < xs.length then us[j - i]? else xs[j]?
  | [], xs, i, j => by
    rw [if_neg (by simp; omega)]; rfl
  | u :: us, xs, i, j => by
    show (setsL (xs.set i u) (i + 1) us)[j]? = _
    rw [setsL_get us, List.length_set]
    by_cases h : i + 1 ≤ j ∧ j < i + 1 + us.length ∧ j < xs.length
    · rw [if_pos h, if_pos (by simp; omega), show j - i = (j - (i + 1)) + 1 by omega]
      rfl
    · rw [if_neg h]
      by_cases hij : i = j
      · subst hij
        by_cases hl : i < xs.length
        · rw [if_pos (by simp; omega), List.getElem?_set_self hl]
          simp
        · rw [if_neg (by omega), List.getElem?_eq_none (by rw [List.length_set]; omega), List.getElem?_eq_none (by omega)]
      · rw [List.getElem?_set_ne hij, if_neg (by simp; omega)]
theorem setsL_cs {α : Type} (S : Shp α) (L : List α) (k : Nat) (x : α) (hk : k < L.length) : setsL (S.cs L) (k * S.n) (S.c x) = S.cs (L.set k x) := by
  apply List.ext_getElem?
  intro j
  rw [setsL_get, S.len, S.cs_len]
  have hp := S.pos
  have hd : j / S.n * S.n + j % S.n = j := by rw [Nat.mul_comm]; exact Nat.div_add_mod j S.n
  have hm := Nat.mod_lt j hp
  by_cases hj : j < L.length * S.n
  · have hq : j / S.n < L.length := Nat.div_lt_of_lt_mul (by rw [Nat.mul_comm]; exact hj)
    by_cases hjk : j / S.n = k
    · have h1 : (L.set k x)[j / S.n]? = some x := by rw [hjk, List.getElem?_set_self hk]
      have := S.cs_get (L.set k x) (j / S.n) x (j % S.n) h1 hm
      rw [hd] at this
      rw [this]
      have hk2 : k * S.n + j % S.n = j := by rw [← hjk]; exact hd
      rw [if_pos (by omega), show j - k * S.n = j % S.n by omega]
    · obtain ⟨y, hy⟩ := list_at hq
      have h1 : (L.set k x)[j / S.n]? = some y := by rw [List.getElem?_set_ne (fun e => hjk e.symm)]; exact hy
      have e1 := S.cs_get (L.set k x) (j / S.n) y (j % S.n) h1 hm
      have e2 := S.cs_get L (j / S.n) y (j % S.n) hy hm
      rw [hd] at e1 e2
      rw [e1, e2, if_neg]
      rintro ⟨a, b, _⟩
      apply hjk
      have : j / S.n = k := by
        apply Nat.div_eq_of_lt_le
        · exact a
        · rw [Nat.add_mul]; omega
      exact this
  · rw [if_neg (by omega), List.getElem?_eq_none (by rw [S.cs_len]; omega), List.getElem?_eq_none (by rw [S.cs_len, List.length_set]; omega)]
/-- An element of a row that the call owns is turned. -/
theorem Shp.Ow.putAt {α : Type} {S : Shp α} {T : TypeId} {w : World} {B c g : Nat} {l : List α} (h : S.Ow T w B (some ⟨g, 0, none⟩) c l) {k : Nat} (hk : k < l.length) (x : α) : S.Ow T (w.setCells g (k * S.n) (S.c x)) B (some ⟨g, 0, none⟩) c (l.set k x) := by
  have := own_sets (S.c x) (k * S.n) h
  rw [setsL_cs S l k x hk] at this
  unfold Shp.Ow
  rw [List.length_set]
  exact this
theorem setCells_by {g : Nat} : ∀ (us : List Value) (w : World) (i : Nat), w.grownBy (w.setCells g i us) (some g)
  | [], w, _ => By.refl w _
  | u :: us, w, i => By.trans (By.set (p := ⟨g, i, none⟩) (By.refl w _) u) (setCells_by us _ _)
theorem Shp.Ow.free {α : Type} {S : Shp α} {T : TypeId} {w : World} {B c g : Nat} {l : List α} (h : S.Ow T w B (some ⟨g, 0, none⟩) c l) (i : Nat) : w.frozen? ⟨g, i, none⟩ = false := by
  rcases h.2 with ⟨h1, _⟩ | ⟨g', cap, cur, h1, _, h3, _⟩
  · cases h1
  · injection h1 with h1
    injection h1 with h1
    injection h1 with h1
    subst h1
    simp [World.frozen?, h3]
/-- An element's cells are there, and may be written. -/
theorem Shp.Ow.there {α : Type} {S : Shp α} {T : TypeId} {w : World} {B c g : Nat} {l : List α} (h : S.Ow T w B (some ⟨g, 0, none⟩) c l) {k : Nat} (hk : k < l.length) : w.there g (k * S.n) S.n := fun j hj => by
  have hb : k * S.n + j < l.length * S.n := by
    have : (k + 1) * S.n ≤ l.length * S.n := Nat.mul_le_mul_right _ hk
    rw [Nat.add_mul] at this; omega
  have q := World.ownsRow.cellAt h (k * S.n + j) hb
  refine ⟨?_, h.free _⟩
  rw [q, List.getElem?_eq_getElem (by rw [S.cs_len]; exact hb)]
  rfl

end Go.Proofs.Ytgjoipndhlngnaa
