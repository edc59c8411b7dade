/-
  What is proved: what region.Has hands back. what the document's Scale hands back. what Hull (the code's and the document's) hands back of a row of rectangles. what region.Move, region.Scale, and the document's, hand back.
-/
import Derived.Test.YtafceieenhogpaaZh
import Derived.Test.YtafceieenhogpaaZb
import Derived.Test.YtafceieenhogpaaZa
import Derived.Test.YtafceieenhogpaaM3
import Derived.Lib.Hide
import Derived.LoopTactic
import Derived.OwnWalk
namespace Go.Proofs.Ytafceieenhogpaa
open Go.RowKit Go.Sort

theorem any_take_more {P : Rc → Bool} {L : List Rc} {k : Nat} {r : Rc} (h : L[k]? = some r) (hp : P r = false) (ha : (L.take k).any P = false) : (L.take (k + 1)).any P = false := by
  rw [take_more h, List.any_append, ha]
  simp [hp]

theorem hasL_any (L : List Rc) (x y : Int) : (L.any fun r => hasB r.a r.b r.c r.d x y) = hasL L x y := rfl

end Go.Proofs.Ytafceieenhogpaa
namespace Go.Proofs.Ytafceieenhogpaa
open Go.RowKit Go.Sort

attribute [local go_sem] cell?_grow frozen?_grow nlt_r

end Go.Proofs.Ytafceieenhogpaa
namespace Go.Proofs.Ytafceieenhogpaa
open Go.RowKit Go.Sort

/-- The least rectangle round what was met so far (zero: none) and one more. -/
def joinR (h r : Rc) : Rc := if h.a = 0 ∧ h.b = 0 ∧ h.c = 0 ∧ h.d = 0 then r else ⟨min h.a r.a, min h.b r.b, max h.c r.c, max h.d r.d⟩
def stepR (h r : Rc) : Rc := if emptyB r.a r.b r.c r.d = true then h else joinR h r
def hullR (f : Nat → Rc) : Nat → Rc
  | 0 => ⟨0, 0, 0, 0⟩
  | k + 1 => stepR (hullR f k) (f k)
theorem hullR_zero (f : Nat → Rc) : hullR f 0 = ⟨0, 0, 0, 0⟩ := rfl
theorem hullR_succ (f : Nat → Rc) (k : Nat) : hullR f (k + 1) = stepR (hullR f k) (f k) := rfl

attribute [local go_sem] cell?_grow frozen?_grow nlt_r
attribute [local go_sem ↓] run_min2 run_max2

end Go.Proofs.Ytafceieenhogpaa
namespace Go.Proofs.Ytafceieenhogpaa
open Go.RowKit Go.Sort

/-- What is made of each rectangle of a row, up to the first error. -/
def EQ (F1 : Rc → Rc) (F2 : Rc → Int) (L R : List Rc) (e : Int) : Prop :=
  (∃ (k : Nat) (r : Rc), L[k]? = some r ∧ (∀ (j : Nat) (q : Rc), j < k → L[j]? = some q → F2 q = 0) ∧ F2 r = e ∧ e ≠ 0 ∧ R = []) ∨ ((∀ (j : Nat) (q : Rc), j < L.length → L[j]? = some q → F2 q = 0) ∧ R = L.map F1 ∧ e = 0)
theorem EQ.one {F1 : Rc → Rc} {F2 : Rc → Int} {L R R' : List Rc} {e e' : Int} (h : EQ F1 F2 L R e) (h' : EQ F1 F2 L R' e') : R = R' ∧ e = e' := by
  rcases h with ⟨k, r, h1, h2, h3, h4, h5⟩ | ⟨h1, h2, h3⟩ <;> rcases h' with ⟨k', r', h1', h2', h3', h4', h5'⟩ | ⟨h1', h2', h3'⟩
  · rcases Nat.lt_trichotomy k k' with hl | hl | hl
    · have := h2' k r hl h1; omega
    · subst hl
      rw [h1] at h1'
      injection h1' with h1'
      subst h1'
      exact ⟨h5.trans h5'.symm, h3.symm.trans h3'⟩
    · have := h2 k' r' hl h1'; omega
  · have := h1' k r (get_lt h1) h1; omega
  · have := h1 k' r' (get_lt h1') h1'; omega
  · exact ⟨h2.trans h2'.symm, h3.trans h3'.symm⟩
def RE (w : World) (Q : List Rc → Int → Prop) (e : Ending) (w' : World) : Prop := ∃ (A : Option Addr) (c : Nat) (R : List Rc) (z : Int), e = .returned (.tuple #[.slice A R.length c, .int .i64 z]) ∧ OwR w' w.heap.size A c R ∧ Q R z ∧ Bl w w'
theorem map_more {F : Rc → Rc} {L : List Rc} {k : Nat} {r : Rc} (h : L[k]? = some r) : (L.take (k + 1)).map F = (L.take k).map F ++ [F r] := by
  rw [take_more h, List.map_append]; rfl
theorem ok_more {F2 : Rc → Int} {L : List Rc} {k : Nat} {r : Rc} (h : L[k]? = some r) (h0 : F2 r = 0) (ho : ∀ (j : Nat) (q : Rc), j < k → L[j]? = some q → F2 q = 0) : ∀ (j : Nat) (q : Rc), j < k + 1 → L[j]? = some q → F2 q = 0 := fun j q hj hq => by
  rcases Nat.lt_or_ge j k with hl | hl
  · exact ho j q hl hq
  · obtain rfl : j = k := by omega
    rw [h] at hq
    injection hq with hq
    subst hq; exact h0

theorem OwR.base {w : World} {B B' : Nat} {A : Option Addr} {c : Nat} {L : List Rc} (h : OwR w B A c L) (hB : B' ≤ B) : OwR w B' A c L :=
  ⟨h.1, h.2.imp id fun ⟨g, cap, cur, h1, h2, r⟩ => ⟨g, cap, cur, h1, Nat.le_trans hB h2, r⟩⟩
def mvF (x y : Int) (r : Rc) : Rc := moveR r.a r.b r.c r.d x y
def mvE (x y : Int) (r : Rc) : Int := moveE r.a r.b r.c r.d x y
def scF (m : Int) (r : Rc) : Rc := scaleR r.a r.b r.c r.d m
def scE (m : Int) (r : Rc) : Int := scaleE r.a r.b r.c r.d m
def BdL (L : List Rc) : Prop := ∀ r ∈ L, Bd r.a ∧ Bd r.b ∧ Bd r.c ∧ Bd r.d
end Go.Proofs.Ytafceieenhogpaa
