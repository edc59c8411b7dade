/-
  What is proved: what the calls of package rect, and of the document's answers, hand back.
-/
import Derived.Test.YtackojmckloacaaA1
import Derived.Test.YtackojmckloacaaLaw
import Derived.StillTailTactics
import Derived.Deep.QuietTactic
import Derived.BigQuiet
import Derived.Handy
namespace Go.Proofs.Ytackojmckloacaa
open Go.RowKit Go.Sort

structure Rc where
  a : Int
  b : Int
  c : Int
  d : Int
def cutR (a b c d a' b' c' d' : Int) : Rc :=
  if emptyB (max a a') (max b b') (min c c') (min d d') = true then ⟨0, 0, 0, 0⟩ else ⟨max a a', max b b', min c c', min d d'⟩
theorem cutR_t {a b c d a' b' c' d' p q r s : Int} (e : emptyB p q r s = true) (h : max a a' = p ∧ max b b' = q ∧ min c c' = r ∧ min d d' = s) :
    (cutR a b c d a' b' c' d').a = 0 ∧ (cutR a b c d a' b' c' d').b = 0 ∧ (cutR a b c d a' b' c' d').c = 0 ∧ (cutR a b c d a' b' c' d').d = 0 := by
  obtain ⟨h1, h2, h3, h4⟩ := h
  unfold cutR; rw [h1, h2, h3, h4, if_pos e]; exact ⟨rfl, rfl, rfl, rfl⟩
theorem cutR_f {a b c d a' b' c' d' p q r s : Int} (e : emptyB p q r s = false) (h : max a a' = p ∧ max b b' = q ∧ min c c' = r ∧ min d d' = s) :
    (cutR a b c d a' b' c' d').a = p ∧ (cutR a b c d a' b' c' d').b = q ∧ (cutR a b c d a' b' c' d').c = r ∧ (cutR a b c d a' b' c' d').d = s := by
  obtain ⟨h1, h2, h3, h4⟩ := h
  unfold cutR; rw [h1, h2, h3, h4, if_neg (by simp [e])]; exact ⟨rfl, rfl, rfl, rfl⟩
def meetsB (a b c d a' b' c' d' : Int) : Bool := !emptyB (max a a') (max b b') (min c c') (min d d')
def coversB (a b c d a' b' c' d' : Int) : Bool := emptyB a' b' c' d' || decide (a ≤ a' ∧ b ≤ b' ∧ c' ≤ c ∧ d' ≤ d)
def clamp (n : Int) : Int := min (max n (-1048576)) 1048576
def goodR (a b c d : Int) : Rc := ⟨min (clamp a) (clamp c), min (clamp b) (clamp d), max (clamp a) (clamp c), max (clamp b) (clamp d)⟩
def around (n m : Int) : Int := if n < 0 then -((n + 1).tmod m) else n % m
def smallR (a b c d : Int) : Rc := ⟨around a 24 - 4, around b 24 - 4, around a 24 - 4 + around c 13, around b 24 - 4 + around d 13⟩

theorem around_bd (n m : Int) (hm : 1 ≤ m) : 0 ≤ around n m ∧ around n m < m := by
  unfold around
  split
  · rw [← Int.neg_tmod, Int.tmod_eq_emod_of_nonneg (by omega)]
    exact ⟨Int.emod_nonneg _ (by omega), Int.emod_lt_of_pos _ (by omega)⟩
  · exact ⟨Int.emod_nonneg _ (by omega), Int.emod_lt_of_pos _ (by omega)⟩

theorem Rt.rect {w w' : World} {a b c d : Int} {r : Rc} (h : r.a = a ∧ r.b = b ∧ r.c = c ∧ r.d = d) (hg : Gr w w') :
    Rt w (.agg #[.int .i64 r.a, .int .i64 r.b, .int .i64 r.c, .int .i64 r.d]) (.returned (.agg #[.int .i64 a, .int .i64 b, .int .i64 c, .int .i64 d])) w' := by
  obtain ⟨rfl, rfl, rfl, rfl⟩ := h
  exact ⟨rfl, hg⟩

set_option maxHeartbeats 400000 in
theorem around1 (n m : Int) (w : World) (hn : I64 n) (hm : 1 ≤ m ∧ m ≤ 1000000) :
    Calls Try.prog 17 #[.int .i64 n, .int .i64 m] w fun e w' => e = .returned (.int .i64 (around n m)) ∧ w = w' := by
  obtain ⟨hn1, hn2⟩ := hn
  obtain ⟨hm1, hm2⟩ := hm
  go_enter Try.func17, Try.ntmps17
  go_wp2
  all_goals
    go_ret
    refine ⟨ret_int ?_, rfl⟩
    unfold around
    first | rw [if_pos ‹_›] | rw [if_neg (by omega)]

attribute [local go_sem] cell?_grow frozen?_grow nlt_r
attribute [local go_sem ↓] run_min2 run_max2

set_option maxHeartbeats 2000000 in
theorem cut1 (a b c d a' b' c' d' : Int) (w : World) :
    Calls Try.prog 27 #[.agg #[.int .i64 a, .int .i64 b, .int .i64 c, .int .i64 d], .agg #[.int .i64 a', .int .i64 b', .int .i64 c', .int .i64 d']] w
      (Rt w (.agg #[.int .i64 (cutR a b c d a' b' c' d').a, .int .i64 (cutR a b c d a' b' c' d').b, .int .i64 (cutR a b c d a' b' c' d').c, .int .i64 (cutR a b c d a' b' c' d').d])) := by
  go_enter Try.func27, Try.ntmps27
  go_wp2_with fail
  all_goals
    refine (empty1 _ _ _ _ _).mono ?_
    rintro e w' ⟨rfl, ⟨⟨n, os⟩, rfl⟩⟩
    go_wp2
    all_goals
      go_returns
      refine Rt.rect (by first | exact cutR_t ‹_› (by omega) | exact cutR_f ‹_› (by omega)) ?_
      repeat (first | with_reducible exact Gr.refl _ | with_reducible apply Gr.drew | with_reducible apply Gr.drewN | with_reducible apply Gr.grow | with_reducible apply Gr.alloc | (with_reducible refine Gr.setCell ?_ ?_ _; rotate_left; (simp; try omega)))

end Go.Proofs.Ytackojmckloacaa
