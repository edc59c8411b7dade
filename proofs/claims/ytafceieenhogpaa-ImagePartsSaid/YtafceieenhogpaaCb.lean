/-
  What is proved: what the calls of package color hand back, and the document's.
-/
import Derived.Test.YtafceieenhogpaaCa
import Derived.StillTailTactics
import Derived.Deep.QuietTactic
import Derived.BigQuiet
import Derived.Deep.RegionHeld3
namespace Go.Proofs.Ytafceieenhogpaa
open Go.RowKit Go.Sort

def ix (a b c d i : Int) : Int := if i = 0 then a else if i = 1 then b else if i = 2 then c else d
theorem ix0 (a b c d : Int) : ix a b c d 0 = a := rfl
theorem ix1 (a b c d : Int) : ix a b c d 1 = b := rfl
theorem ix2 (a b c d : Int) : ix a b c d 2 = c := rfl
theorem ix3 (a b c d : Int) : ix a b c d 3 = d := rfl
theorem four {i : Int} (h0 : 0 ≤ i) (h1 : i < 4) : i = 0 ∨ i = 1 ∨ i = 2 ∨ i = 3 := by omega

def ovc (pa p q : Int) : Int := p + pt q (255 - pa)
def ov (c d : Int) : Int := mk (ovc (pA c) (pA c) (pA d)) (ovc (pA c) (pR c) (pR d)) (ovc (pA c) (pG c) (pG d)) (ovc (pA c) (pB c) (pB d))
def fd (c al : Int) : Int := mk (pt (pA c) al) (pt (pR c) al) (pt (pG c) al) (pt (pB c) al)
def pre (a r g b : Int) : Int := mk a (pt r a) (pt g a) (pt b a)
def mayC (c : Int) : Bool := decide (pR c ≤ pA c ∧ pG c ≤ pA c ∧ pB c ≤ pA c)
def gd (c : Int) : Int := mk (pA c) (min (pR c) (pA c)) (min (pG c) (pA c)) (min (pB c) (pA c))

theorem cl_ovc {pa p q : Int} (ha : By pa) (hp : By p) : By pa ∧ 0 ≤ ovc pa p q ∧ ovc pa p q ≤ 510 := by
  have := pt_by q (255 - pa)
  unfold By at *; unfold ovc; omega

attribute [local go_sem ↓] run_min2 run_max2

theorem kcOver : KcC 110 := fun _ _ => by kernel_rfl
theorem kcFade : KcC 112 := fun _ _ => by kernel_rfl

theorem ix_cell {w : World} {k : Nat} {t : TypeId} {a b c d : Int} (hA : At w k #[.int .i64 a, .int .i64 b, .int .i64 c, .int .i64 d] t) {i : Nat} (h : i < 4) (n : Nat) (os : Array Obj) :
    (grow (w.drewN n) os).cell? ⟨k, i, none⟩ = some (.int .i64 (ix a b c d i)) := by
  rw [hA.cells n os i]
  obtain rfl | rfl | rfl | rfl : i = 0 ∨ i = 1 ∨ i = 2 ∨ i = 3 := by omega
  all_goals rfl
theorem ix_by {a b c d : Int} (ha : By a) (hb : By b) (hc : By c) (hd : By d) (i : Int) : By (ix a b c d i) := by unfold ix; (repeat' split) <;> assumption
theorem ix_map (f : Int → Int → Int) (a b c d a' b' c' d' i : Int) : ix (f a a') (f b b') (f c c') (f d d') i = f (ix a b c d i) (ix a' b' c' d' i) := by unfold ix; (repeat' split) <;> rfl

set_option maxHeartbeats 1000000 in
theorem overc0 (x y r : Int) (i k k' k2 : Nat) (w : World) (hx : ∀ n os, (grow (w.drewN n) os).cell? ⟨k, i, none⟩ = some (.int .i64 x)) (hy : ∀ n os, (grow (w.drewN n) os).cell? ⟨k', i, none⟩ = some (.int .i64 y))
    (hr : ∀ n os, (grow (w.drewN n) os).cell? ⟨k2, 0, none⟩ = some (.int .i64 r)) (z : Int) (hz : pt y r = z) (h0 : 0 ≤ z) (h1 : z ≤ 255) (h2 : 0 ≤ x) (h3 : x ≤ 255) (h4 : i < 4) :
    Calls Try.prog 110 #[.int .i64 i, .pointer (some ⟨k, 0, none⟩), .pointer (some ⟨k', 0, none⟩), .pointer (some ⟨k2, 0, none⟩)] w
      (Rt w (.int .i64 (x + z))) := by
  have q := part1 y r
  rw [hz] at q
  clear hz
  have s0 : IntKind.i64.wrap (x + z) = x + z := IntWalk.i64_in _ (by omega)
  have s1 : (i : Int) < 4 := by omega
  go_enter Try.func110, Try.ntmps110
  go_wp2
  refine wp_region_quiet_grown (by kernel_rfl) (by kernel_rfl) ?_
  repeat (first | go_big_quiet_step ((go_at_call 111; exact Calls.grown (q _))) | quiet_step ((go_at_call 111; exact Calls.grown (q _))))
  refine wpQuiet_nil ?_
  intro W2 g8
  replace g8 : Gr _ W2 := g8
  go_wp2
  go_ret
  exact ⟨rfl, g8⟩
theorem overc1 (a b c d a' b' c' d' r i : Int) (k k' k2 : Nat) (t t' t2 : TypeId) (w : World) (hA : At w k #[.int .i64 a, .int .i64 b, .int .i64 c, .int .i64 d] t) (hB : At w k' #[.int .i64 a', .int .i64 b', .int .i64 c', .int .i64 d'] t')
    (hC : At w k2 #[.int .i64 (255 - r)] t2) (ha : By a) (hb : By b) (hc : By c) (hd : By d) (h0 : 0 ≤ i) (h1 : i < 4) :
    Calls Try.prog 110 #[.int .i64 i, .pointer (some ⟨k, 0, none⟩), .pointer (some ⟨k', 0, none⟩), .pointer (some ⟨k2, 0, none⟩)] w
      (Rt w (.int .i64 (ix (ovc r a a') (ovc r b b') (ovc r c c') (ovc r d d') i))) := by
  obtain ⟨j, rfl⟩ := Int.eq_ofNat_of_zero_le h0
  have hj : j < 4 := by omega
  rw [ix_map (ovc r)]
  have h := ix_by ha hb hc hd (j : Int)
  have h' := pt_by (ix a' b' c' d' (j : Int)) (255 - r)
  exact overc0 _ _ (255 - r) j k k' k2 w (ix_cell hA hj) (ix_cell hB hj) (fun n os => hC.cells n os 0) _ rfl h'.1 h'.2 h.1 h.2 hj

set_option maxHeartbeats 1000000 in
theorem fadec0 (x r : Int) (i k k2 : Nat) (w : World) (hx : ∀ n os, (grow (w.drewN n) os).cell? ⟨k, i, none⟩ = some (.int .i64 x))
    (hr : ∀ n os, (grow (w.drewN n) os).cell? ⟨k2, 0, none⟩ = some (.int .i64 r)) (h4 : i < 4) :
    Calls Try.prog 112 #[.int .i64 i, .pointer (some ⟨k, 0, none⟩), .pointer (some ⟨k2, 0, none⟩)] w
      (Rt w (.int .i64 (pt x r))) := by
  have q := part1 x r
  have s1 : (i : Int) < 4 := by omega
  go_enter Try.func112, Try.ntmps112
  go_wp2
  refine wp_region_quiet_grown (by kernel_rfl) (by kernel_rfl) ?_
  repeat (first | go_big_quiet_step ((go_at_call 111; exact Calls.grown (q _))) | quiet_step ((go_at_call 111; exact Calls.grown (q _))))
  refine wpQuiet_nil ?_
  intro W2 g8
  replace g8 : Gr _ W2 := g8
  go_wp2
  go_ret
  exact ⟨rfl, g8⟩
theorem fadec1 (a b c d r i : Int) (k k2 : Nat) (t t2 : TypeId) (w : World) (hA : At w k #[.int .i64 a, .int .i64 b, .int .i64 c, .int .i64 d] t)
    (hC : At w k2 #[.int .i64 r] t2) (h0 : 0 ≤ i) (h1 : i < 4) :
    Calls Try.prog 112 #[.int .i64 i, .pointer (some ⟨k, 0, none⟩), .pointer (some ⟨k2, 0, none⟩)] w
      (Rt w (.int .i64 (ix (pt a r) (pt b r) (pt c r) (pt d r) i))) := by
  obtain ⟨j, rfl⟩ := Int.eq_ofNat_of_zero_le h0
  have hj : j < 4 := by omega
  rw [ix_map (fun x _ => pt x r) a b c d a b c d]
  exact fadec0 _ r j k k2 w (ix_cell hA hj) (fun n os => hC.cells n os 0) hj

set_option maxHeartbeats 1000000 in
theorem over1 (c d : Int) (w : World) (hc : C32 c) (hd : C32 d) :
    Calls Try.prog 99 #[.int .u32 c, .int .u32 d] w (Rt w (.int .u32 (ov c d))) := by
  have b0 := pA_by hc; have b1 := pR_by c; have b2 := pG_by c; have b3 := pB_by c
  have m : 0 ≤ pA c ∧ pA c ≤ 255 := b0
  obtain ⟨m0, m1⟩ := m
  have ep := fun w => parts1 c w hc
  have eq := fun w => parts1 d w hd
  unfold ov
  clear hc hd
  generalize pA c = a at *; generalize pR c = r at *; generalize pG c = g at *; generalize pB c = b at *
  generalize pA d = a' at *; generalize pR d = r' at *; generalize pG d = g' at *; generalize pB d = b' at *
  go_enter Try.func99, Try.ntmps99
  go_wp2_with fail
  refine (ep _).mono ?_
  rintro e w1 ⟨rfl, g1⟩
  go_wp2_with fail
  refine (eq _).mono ?_
  rintro e w2 ⟨rfl, g2⟩
  replace g2 := g1.trans g2
  clear g1
  go_wp2_with fail
  refine (each1 110 _ (ix (ovc a a a') (ovc a r r') (ovc a g g') (ovc a b b')) _ kcOver (fun i w' h0 h1 gg => ?_)).mono ?_
  · exact overc1 a r g b a' r' g' b' a i _ _ _ _ _ _ w' ((((At.new w2 _ _).alloc _).alloc _).gr gg) (((At.newAt (w := w2.alloc _) (by simp) _ _).alloc _).gr gg) ((At.newAt (w := (w2.alloc _).alloc _) (by simp) _ _).gr gg) b0 b1 b2 b3 h0 h1
  · rintro e w' ⟨rfl, g3⟩
    go_wp2
    go_ret
    exact ⟨rfl, (((g2.alloc _).alloc _).alloc _).trans g3⟩

set_option maxHeartbeats 1000000 in
theorem fade1 (c al : Int) (w : World) (hc : C32 c) :
    Calls Try.prog 100 #[.int .u32 c, .int .i64 al] w (Rt w (.int .u32 (fd c al))) := by
  have ep := fun w => parts1 c w hc
  unfold fd
  clear hc
  generalize pA c = a at *; generalize pR c = r at *; generalize pG c = g at *; generalize pB c = b at *
  go_enter Try.func100, Try.ntmps100
  go_wp2_with fail
  refine (ep _).mono ?_
  rintro e w1 ⟨rfl, g1⟩
  have bx := (At.new w #[.int .i64 al] 3).gr g1
  replace g1 := ((Gr.refl w).alloc (.cells #[.int .i64 al] 3)).trans g1
  go_wp2_with fail
  refine (each1 112 _ (ix (pt a al) (pt r al) (pt g al) (pt b al)) _ kcFade (fun i w' h0 h1 gg => ?_)).mono ?_
  · exact fadec1 a r _ b al i _ _ _ _ w' ((At.new w1 _ _).gr gg) ((bx.alloc _).gr gg) h0 h1
  · rintro e w' ⟨rfl, g3⟩
    go_wp2
    go_ret
    exact ⟨rfl, (g1.alloc _).trans g3⟩

end Go.Proofs.Ytafceieenhogpaa
