/-
  What is proved: what the calls of package color hand back, and the document's.
-/
import Derived.Test.YtackojmckloacaaCa
import Derived.StillTailTactics
import Derived.Deep.QuietTactic
import Derived.BigQuiet
import Derived.Deep.RegionHeld3
namespace Go.Proofs.Ytackojmckloacaa
open Go.RowKit Go.Sort

def ix (a b c d i : Int) : Int := if i = 0 then a else if i = 1 then b else if i = 2 then c else d
theorem ix0 (a b c d : Int) : ix a b c d 0 = a := rfl
theorem ix1 (a b c d : Int) : ix a b c d 1 = b := rfl
theorem ix2 (a b c d : Int) : ix a b c d 2 = c := rfl
theorem ix3 (a b c d : Int) : ix a b c d 3 = d := rfl
theorem four {i : Int} (h0 : 0 ≤ i) (h1 : i < 4) : i = 0 ∨ i = 1 ∨ i = 2 ∨ i = 3 := by omega

def ovc (pa p q : Int) : Int := p + pt q (255 - pa)
def ov (c d : Int) : Int := mk (ovc (pA c) (pA c) (pA d)) (ovc (pA c) (pR c) (pR d)) (ovc (pA c) (pG c) (pG d)) (ovc (pA c) (pB c) (pB d))
def fd (c al : Int) : Int := mk (pt (pA c) al) (pt (pR c) al) (pt (pG c) al) (pt (pB c) al)
def pre (a r g b : Int) : Int := mk a (pt r a) (pt g a) (pt b a)
def mayC (c : Int) : Bool := decide (pR c ≤ pA c ∧ pG c ≤ pA c ∧ pB c ≤ pA c)
def gd (c : Int) : Int := mk (pA c) (min (pR c) (pA c)) (min (pG c) (pA c)) (min (pB c) (pA c))

theorem cl_ovc {pa p q : Int} (ha : By pa) (hp : By p) : By pa ∧ 0 ≤ ovc pa p q ∧ ovc pa p q ≤ 510 := by
  have := pt_by q (255 - pa)
  unfold By at *; unfold ovc; omega

attribute [local go_sem ↓] run_min2 run_max2

theorem ix_cell {w : World} {k : Nat} {t : TypeId} {a b c d : Int} (hA : At w k #[.int .i64 a, .int .i64 b, .int .i64 c, .int .i64 d] t) {i : Nat} (h : i < 4) (n : Nat) (os : Array Obj) :
    (grow (w.drewN n) os).cell? ⟨k, i, none⟩ = some (.int .i64 (ix a b c d i)) := by
  rw [hA.cells n os i]
  obtain rfl | rfl | rfl | rfl : i = 0 ∨ i = 1 ∨ i = 2 ∨ i = 3 := by omega
  all_goals rfl
theorem ix_by {a b c d : Int} (ha : By a) (hb : By b) (hc : By c) (hd : By d) (i : Int) : By (ix a b c d i) := by unfold ix; (repeat' split) <;> assumption
theorem ix_map (f : Int → Int → Int) (a b c d a' b' c' d' i : Int) : ix (f a a') (f b b') (f c c') (f d d') i = f (ix a b c d i) (ix a' b' c' d' i) := by unfold ix; (repeat' split) <;> rfl

end Go.Proofs.Ytackojmckloacaa
