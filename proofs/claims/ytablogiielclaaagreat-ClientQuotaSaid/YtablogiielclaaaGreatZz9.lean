/-
  What is proved: what Covers hands back. nothing of its own: it hands on the calls of package rect. No conditions. what more calls of package rect, and of the document's answers, hand back (for an image's seat). what the small calls of package color hand back, and the document's. what the calls of package color hand back, and the document's. what more calls of package color, and the document's, hand back. what the document's 'over' hands back. how parts of colors, colors one over the other and faded ones go together: plain arithmetic. nothing of its own: it hands on the calls of package color. No conditions. small words for an image in memory, and what New, Box, At, Set of package image hand back.
-/
import Derived.Test.YtablogiielclaaaGreatZz1
import Derived.Test.YtablogiielclaaaGreatZz6
import Derived.Test.YtablogiielclaaaGreatZz5
import Derived.Lib.Hide
import Derived.IntWalk
import Derived.Laws.BitsAllLaws
import Derived.Handy
import Derived.StillTailTactics
import Derived.Deep.QuietTactic
import Derived.BigQuiet
import Derived.Deep.RegionHeld3
import Derived.Laws.Cover1
import Derived.Lib.SmallJoins
import Derived.RegionTactic
import Derived.Laws.AppendOwn
import Derived.Laws.OwnMore
import Derived.Laws.MakeOwn
import Derived.RowKit
namespace Go.Proofs.YtablogiielclaaaGreat
open Go.RowKit Go.Sort

theorem covers_of (a b c d a' b' c' d' : Int) {t : Bool} (e : emptyB a' b' c' d' = false) (h : t = true ↔ ((cutR a b c d a' b' c' d').a = a' ∧ (cutR a b c d a' b' c' d').b = b' ∧ (cutR a b c d a' b' c' d').c = c' ∧ (cutR a b c d a' b' c' d').d = d')) :
    t = true ↔ coversB a b c d a' b' c' d' = true := by
  rw [h]
  unfold coversB cutR
  simp only [e, Bool.false_or, decide_eq_true_eq]
  simp [emptyB] at e
  by_cases e' : emptyB (max a a') (max b b') (min c c') (min d d') = true
  · rw [if_pos e']
    simp [emptyB] at e'
    simp only []
    omega
  · rw [if_neg e']
    simp [emptyB] at e'
    simp only []
    omega

attribute [local go_sem] cell?_grow frozen?_grow nlt_r

set_option maxHeartbeats 1000000 in
theorem covers1 (a b c d a' b' c' d' : Int) (w : World) :
    Calls Tryz.prog 286 #[.agg #[.int .i64 a, .int .i64 b, .int .i64 c, .int .i64 d], .agg #[.int .i64 a', .int .i64 b', .int .i64 c', .int .i64 d']] w (Rt w (.bool (coversB a b c d a' b' c' d'))) := by
  have mixed : Tryz.prog.follows .mixedOrders = true := by kernel_rfl
  have c1 := cut1 a b c d a' b' c' d'
  have c2 := empty1 a' b' c' d'
  by_cases e : emptyB a' b' c' d' = true
  · rw [e] at c2
    go_enter Tryz.func286, Tryz.ntmps286
    go_wp2
    go_quiet_grown (first | (go_at_call 150; exact Calls.grown (c2 _)) | (go_at_call 102; exact Calls.grown (c1 _)))
    go_wp2
    go_ret
    refine Rt.bool (by simp [coversB, e]) ?_
    repeat (first | with_reducible exact Gr.refl _ | with_reducible apply Gr.drew | with_reducible apply Gr.drewN | with_reducible apply Gr.grow | with_reducible apply Gr.alloc)
  · simp only [Bool.not_eq_true] at e
    rw [e] at c2
    have hh : (¬(cutR a b c d a' b' c' d').a = a') ∨ ((cutR a b c d a' b' c' d').a = a' ∧ ¬(cutR a b c d a' b' c' d').b = b') ∨ ((cutR a b c d a' b' c' d').a = a' ∧ (cutR a b c d a' b' c' d').b = b' ∧ ¬(cutR a b c d a' b' c' d').c = c') ∨
        ((cutR a b c d a' b' c' d').a = a' ∧ (cutR a b c d a' b' c' d').b = b' ∧ (cutR a b c d a' b' c' d').c = c' ∧ ¬(cutR a b c d a' b' c' d').d = d') ∨ ((cutR a b c d a' b' c' d').a = a' ∧ (cutR a b c d a' b' c' d').b = b' ∧ (cutR a b c d a' b' c' d').c = c' ∧ (cutR a b c d a' b' c' d').d = d') := by omega
    rcases hh with h1 | ⟨h1, h2⟩ | ⟨h1, h2, h3⟩ | ⟨h1, h2, h3, h4⟩ | ⟨h1, h2, h3, h4⟩
    all_goals
      go_enter Tryz.func286, Tryz.ntmps286
      go_wp2
      go_quiet_grown (first | (go_at_call 150; exact Calls.grown (c2 _)) | (go_at_call 102; exact Calls.grown (c1 _)))
      go_wp2
      go_ret
      refine Rt.bool (covers_of _ _ _ _ _ _ _ _ e (by simp [*])) ?_
      repeat (first | with_reducible exact Gr.refl _ | with_reducible apply Gr.drew | with_reducible apply Gr.drewN | with_reducible apply Gr.grow | with_reducible apply Gr.alloc)

end Go.Proofs.YtablogiielclaaaGreat

namespace Go.Proofs.YtablogiielclaaaGreat
open Go.RowKit Go.Sort

attribute [local go_sem] cell?_grow frozen?_grow nlt_r

set_option maxHeartbeats 2000000 in
theorem refcutI1 (a b c d a' b' c' d' : Int) (w : World) :
    Calls Tryz.prog 199 #[.agg #[.int .i64 a, .int .i64 b, .int .i64 c, .int .i64 d], .agg #[.int .i64 a', .int .i64 b', .int .i64 c', .int .i64 d']] w
      (Rt w (.agg #[.int .i64 (cutR a b c d a' b' c' d').a, .int .i64 (cutR a b c d a' b' c' d').b, .int .i64 (cutR a b c d a' b' c' d').c, .int .i64 (cutR a b c d a' b' c' d').d])) := by
  go_enter Tryz.func199, Tryz.ntmps199
  go_wp2_with fail
  all_goals
    refine (refempty1 _ _ _ _ _).mono ?_
    rintro e w' ⟨rfl, ⟨⟨n, os⟩, rfl⟩⟩
    go_wp2
    all_goals
      go_returns
      refine Rt.rect (by first | exact cutR_t ‹_› (by omega) | exact cutR_f ‹_› (by omega)) ?_
      repeat (first | with_reducible exact Gr.refl _ | with_reducible apply Gr.drew | with_reducible apply Gr.drewN | with_reducible apply Gr.grow | with_reducible apply Gr.alloc | (with_reducible refine Gr.setCell ?_ ?_ _; rotate_left; (simp; try omega)))

set_option maxHeartbeats 1000000 in
theorem refcovers1 (a b c d a' b' c' d' : Int) (w : World) :
    Calls Tryz.prog 256 #[.agg #[.int .i64 a, .int .i64 b, .int .i64 c, .int .i64 d], .agg #[.int .i64 a', .int .i64 b', .int .i64 c', .int .i64 d']] w (Rt w (.bool (coversB a b c d a' b' c' d'))) := by
  go_enter Tryz.func256, Tryz.ntmps256
  go_wp2_with fail
  refine (refempty1 _ _ _ _ _).mono ?_
  rintro e w' ⟨rfl, ⟨⟨n, os⟩, rfl⟩⟩
  go_wp2
  all_goals
    go_ret
    refine Rt.bool ?_ ?_
    · simp [coversB, *] <;> omega
    · repeat (first | with_reducible exact Gr.refl _ | with_reducible apply Gr.drew | with_reducible apply Gr.drewN | with_reducible apply Gr.grow | with_reducible apply Gr.alloc | (with_reducible refine Gr.setCell ?_ ?_ _; rotate_left; (simp; try omega)))

end Go.Proofs.YtablogiielclaaaGreat
namespace Go.Proofs.YtablogiielclaaaGreat
open Go.RowKit Go.Sort

def C32 (c : Int) : Prop := 0 ≤ c ∧ c ≤ 4294967295
def pA (c : Int) : Int := c / 16777216
def pR (c : Int) : Int := c / 65536 % 256
def pG (c : Int) : Int := c / 256 % 256
def pB (c : Int) : Int := c % 256
def cl (n : Int) : Int := min (max n 0) 255
def mk (a r g b : Int) : Int := cl a * 16777216 + cl r * 65536 + cl g * 256 + cl b
def pt (p q : Int) : Int := (cl p * cl q + 127) / 255
def By (n : Int) : Prop := 0 ≤ n ∧ n ≤ 255

theorem cl_by (n : Int) : By (cl n) := by unfold By cl; omega
theorem cl_of {n : Int} (h : By n) : cl n = n := by unfold By at h; unfold cl; omega
theorem pA_by {c : Int} (h : C32 c) : By (pA c) := by unfold C32 at h; unfold By pA; omega
theorem pR_by (c : Int) : By (pR c) := by unfold By pR; omega
theorem pG_by (c : Int) : By (pG c) := by unfold By pG; omega
theorem pB_by (c : Int) : By (pB c) := by unfold By pB; omega
theorem mk_c32 (a r g b : Int) : C32 (mk a r g b) := by
  have h1 := cl_by a; have h2 := cl_by r; have h3 := cl_by g; have h4 := cl_by b
  unfold By at *; unfold C32 mk; omega
theorem pA_mk (a r g b : Int) : pA (mk a r g b) = cl a := by
  have h1 := cl_by a; have h2 := cl_by r; have h3 := cl_by g; have h4 := cl_by b
  unfold By at *; unfold pA mk; omega
theorem pR_mk (a r g b : Int) : pR (mk a r g b) = cl r := by
  have h1 := cl_by a; have h2 := cl_by r; have h3 := cl_by g; have h4 := cl_by b
  unfold By at *; unfold pR mk; omega
theorem pG_mk (a r g b : Int) : pG (mk a r g b) = cl g := by
  have h1 := cl_by a; have h2 := cl_by r; have h3 := cl_by g; have h4 := cl_by b
  unfold By at *; unfold pG mk; omega
theorem pB_mk (a r g b : Int) : pB (mk a r g b) = cl b := by
  have h1 := cl_by a; have h2 := cl_by r; have h3 := cl_by g; have h4 := cl_by b
  unfold By at *; unfold pB mk; omega
theorem mk_parts {c : Int} (h : C32 c) : mk (pA c) (pR c) (pG c) (pB c) = c := by
  have h1 := pA_by h
  unfold mk
  rw [cl_of h1, cl_of (pR_by c), cl_of (pG_by c), cl_of (pB_by c)]
  unfold C32 at h; unfold pA pR pG pB; omega
/-- Products of parts. -/
theorem mul_by {a b : Int} (ha : By a) (hb : By b) : 0 ≤ a * b ∧ a * b ≤ 65025 := by
  unfold By at *
  refine ⟨Int.mul_nonneg ha.1 hb.1, ?_⟩
  exact Int.le_trans (Int.mul_le_mul ha.2 hb.2 hb.1 (by omega)) (by omega)
theorem pt_by (p q : Int) : By (pt p q) := by
  have h := mul_by (cl_by p) (cl_by q)
  unfold By pt; omega
theorem and255 {x : Int} (h0 : 0 ≤ x) (h1 : x ≤ 4294967295) : bits .and .u32 x 255 = x % 256 :=
  bits_mask .u32 32 (by decide) (fun n h h' => by rw [IntKind.wrap_u32]; omega) 8 (by decide) x h0 (by omega)
theorem or256 {x y : Int} (h0 : 0 ≤ x) (h1 : x ≤ 16777215) (h2 : 0 ≤ y) (h3 : y ≤ 255) : bits .or .u32 (x * 256) y = x * 256 + y :=
  bits_join .u32 32 (by decide) (fun n h h' => by rw [IntKind.wrap_u32]; omega) 8 (x * 256) y (by omega) (by omega) (by omega) h2 (by omega) (by omega)
theorem w64 {x : Int} (h0 : 0 ≤ x) (h1 : x ≤ 4294967295) : wrap64 x = x := by unfold wrap64; omega

theorem Rt.agg4 {w w' : World} {a b c d a' b' c' d' : Int} (h : a = a' ∧ b = b' ∧ c = c' ∧ d = d') (hg : Gr w w') :
    Rt w (.agg #[.int .i64 a', .int .i64 b', .int .i64 c', .int .i64 d']) (.returned (.agg #[.int .i64 a, .int .i64 b, .int .i64 c, .int .i64 d])) w' := by
  obtain ⟨rfl, rfl, rfl, rfl⟩ := h; exact ⟨rfl, hg⟩

attribute [local go_sem ↓] run_min2 run_max2

set_option maxHeartbeats 400000 in
theorem cnear1 (n : Int) (w : World) :
    Calls Tryz.prog 252 #[.int .i64 n] w (Rt w (.int .i64 (cl n))) := by
  go_enter Tryz.func252, Tryz.ntmps252
  go_wp2
  go_ret
  exact ⟨rfl, Gr.refl _⟩

set_option maxHeartbeats 400000 in
theorem parts1 (c : Int) (w : World) (hc : C32 c) :
    Calls Tryz.prog 155 #[.int .u32 c] w (Rt w (.agg #[.int .i64 (pA c), .int .i64 (pR c), .int .i64 (pG c), .int .i64 (pB c)])) := by
  obtain ⟨hc0, hc1⟩ := hc
  go_enter Tryz.func155, Tryz.ntmps155
  go_wp2
  go_returns
  refine Rt.agg4 ?_ ((Gr.refl _).alloc _)
  rw [and255 (by omega) (by omega), and255 (by omega) (by omega), and255 (by omega) (by omega), w64 (by omega) (by omega), w64 (by omega) (by omega), w64 (by omega) (by omega)]
  exact ⟨rfl, rfl, rfl, rfl⟩

set_option maxHeartbeats 400000 in
theorem refparts1 (c : Int) (w : World) (hc : C32 c) :
    Calls Tryz.prog 78 #[.int .u32 c] w (Rt w (.agg #[.int .i64 (pA c), .int .i64 (pR c), .int .i64 (pG c), .int .i64 (pB c)])) := by
  obtain ⟨hc0, hc1⟩ := hc
  go_enter Tryz.func78, Tryz.ntmps78
  go_wp2
  go_returns
  exact Rt.agg4 ⟨rfl, rfl, rfl, rfl⟩ ((Gr.refl _).alloc _)

set_option maxHeartbeats 400000 in
theorem refpart1 (p q : Int) (w : World) :
    Calls Tryz.prog 205 #[.int .i64 p, .int .i64 q] w (Rt w (.int .i64 (pt p q))) := by
  have h := mul_by (cl_by p) (cl_by q)
  unfold cl at h
  obtain ⟨h1, h2⟩ := h
  go_enter Tryz.func205, Tryz.ntmps205
  go_wp2
  go_ret
  exact ⟨rfl, Gr.refl _⟩

set_option maxHeartbeats 400000 in
theorem part1 (p q : Int) (w : World) :
    Calls Tryz.prog 208 #[.int .i64 p, .int .i64 q] w (Rt w (.int .i64 (pt p q))) := by
  obtain ⟨h1, h2⟩ := mul_by (cl_by p) (cl_by q)
  go_enter Tryz.func208, Tryz.ntmps208
  go_wp2_with fail
  refine (cnear1 _ _).mono ?_
  rintro e w1 ⟨rfl, g1⟩
  go_wp2_with fail
  refine (cnear1 _ _).mono ?_
  rintro e w2 ⟨rfl, g2⟩
  go_wp2
  go_ret
  exact ⟨rfl, g1.trans g2⟩

set_option maxHeartbeats 400000 in
theorem refmake1 (a r g b : Int) (w : World) :
    Calls Tryz.prog 135 #[.int .i64 a, .int .i64 r, .int .i64 g, .int .i64 b] w (Rt w (.int .u32 (mk a r g b))) := by
  have h1 := cl_by a; have h2 := cl_by r; have h3 := cl_by g; have h4 := cl_by b
  unfold By cl at h1 h2 h3 h4
  go_enter Tryz.func135, Tryz.ntmps135
  go_wp2
  go_ret
  exact ⟨rfl, Gr.refl _⟩

/-- A function value that is called with one int. -/
def KcC (g : FuncId) : Prop := ∀ (args : Array Value) (w : World), Sem.run Tryz.prog (callFunc g args) w = Result.ok (Next.enter g args) w

set_option maxHeartbeats 2000000 in
theorem each1 (g : FuncId) (cap : Array Value) (F : Int → Int) (w : World) (hg : KcC g) (hc : ∀ (i : Int) (w' : World), 0 ≤ i → i < 4 → Gr w w' → Calls Tryz.prog g (#[.int .i64 i] ++ cap) w' (Rt w' (.int .i64 (F i)))) :
    Calls Tryz.prog 206 #[.func (.func g) #[] cap] w (Rt w (.int .u32 (mk (F 0) (F 1) (F 2) (F 3)))) := by
  unfold KcC at hg
  have n0 := cnear1 (F 0); have n1 := cnear1 (F 1); have n2 := cnear1 (F 2); have n3 := cnear1 (F 3)
  have b0 := cl_by (F 0); have b1 := cl_by (F 1); have b2 := cl_by (F 2); have b3 := cl_by (F 3)
  unfold mk
  have k0 := fun w' => hc 0 w' (by decide) (by decide); have k1 := fun w' => hc 1 w' (by decide) (by decide); have k2 := fun w' => hc 2 w' (by decide) (by decide); have k3 := fun w' => hc 3 w' (by decide) (by decide)
  clear hc
  generalize cl (F 0) = f0 at *; generalize cl (F 1) = f1 at *; generalize cl (F 2) = f2 at *; generalize cl (F 3) = f3 at *
  generalize F 0 = F0 at *; generalize F 1 = F1 at *; generalize F 2 = F2 at *; generalize F 3 = F3 at *
  unfold By at b0 b1 b2 b3
  obtain ⟨b00, b01⟩ := b0; obtain ⟨b10, b11⟩ := b1; obtain ⟨b20, b21⟩ := b2; obtain ⟨b30, b31⟩ := b3
  have e0 : bits .or .u32 0 f0 = f0 := by have := or256 (x := 0) (y := f0) (by omega) (by omega) b00 b01; simpa using this
  have e1 : bits .or .u32 (f0 * 256) f1 = f0 * 256 + f1 := or256 (by omega) (by omega) b10 b11
  obtain ⟨c1, hc1⟩ : ∃ c, c = f0 * 256 + f1 := ⟨_, rfl⟩
  rw [← hc1] at e1
  have d10 : 0 ≤ c1 := by omega
  have d11 : c1 ≤ 65535 := by omega
  have e2 : bits .or .u32 (c1 * 256) f2 = c1 * 256 + f2 := or256 (by omega) (by omega) b20 b21
  obtain ⟨c2, hc2⟩ : ∃ c, c = c1 * 256 + f2 := ⟨_, rfl⟩
  rw [← hc2] at e2
  have d20 : 0 ≤ c2 := by omega
  have d21 : c2 ≤ 16777215 := by omega
  have e3 : bits .or .u32 (c2 * 256) f3 = c2 * 256 + f3 := or256 (by omega) (by omega) b30 b31
  obtain ⟨c3, hc3⟩ : ∃ c, c = c2 * 256 + f3 := ⟨_, rfl⟩
  rw [← hc3] at e3
  have he : c3 = f0 * 16777216 + f1 * 65536 + f2 * 256 + f3 := by omega
  rw [← he]
  clear he hc1 hc2 hc3
  go_enter Tryz.func206, Tryz.ntmps206
  go_wp2
  refine wp_loop_rounds 5 ?_
  rw [rounds_succ]; go_wp2_with fail
  refine (k0 _ (Gr.refl _)).mono ?_
  rintro e u0 ⟨rfl, g0⟩
  skip
  go_wp2_with fail
  refine (n0 _).mono ?_
  rintro e v0 ⟨rfl, q0⟩
  replace q0 := g0.trans q0
  clear g0
  go_wp2_with fail
  rw [rounds_succ]; go_wp2_with fail
  refine (k1 _ q0).mono ?_
  rintro e u1 ⟨rfl, g1⟩
  replace g1 := q0.trans g1
  clear q0
  go_wp2_with fail
  refine (n1 _).mono ?_
  rintro e v1 ⟨rfl, q1⟩
  replace q1 := g1.trans q1
  clear g1
  go_wp2_with fail
  rw [rounds_succ]; go_wp2_with fail
  refine (k2 _ q1).mono ?_
  rintro e u2 ⟨rfl, g2⟩
  replace g2 := q1.trans g2
  clear q1
  go_wp2_with fail
  refine (n2 _).mono ?_
  rintro e v2 ⟨rfl, q2⟩
  replace q2 := g2.trans q2
  clear g2
  go_wp2_with fail
  rw [rounds_succ]; go_wp2_with fail
  refine (k3 _ q2).mono ?_
  rintro e u3 ⟨rfl, g3⟩
  replace g3 := q2.trans g3
  clear q2
  go_wp2_with fail
  refine (n3 _).mono ?_
  rintro e v3 ⟨rfl, q3⟩
  replace q3 := g3.trans q3
  clear g3
  go_wp2_with fail
  rw [rounds_succ]; go_wp2
  go_ret
  exact ⟨rfl, q3⟩

end Go.Proofs.YtablogiielclaaaGreat
namespace Go.Proofs.YtablogiielclaaaGreat
open Go.RowKit Go.Sort

def ix (a b c d i : Int) : Int := if i = 0 then a else if i = 1 then b else if i = 2 then c else d
theorem ix0 (a b c d : Int) : ix a b c d 0 = a := rfl
theorem ix1 (a b c d : Int) : ix a b c d 1 = b := rfl
theorem ix2 (a b c d : Int) : ix a b c d 2 = c := rfl
theorem ix3 (a b c d : Int) : ix a b c d 3 = d := rfl
theorem four {i : Int} (h0 : 0 ≤ i) (h1 : i < 4) : i = 0 ∨ i = 1 ∨ i = 2 ∨ i = 3 := by omega

def ovc (pa p q : Int) : Int := p + pt q (255 - pa)
def ov (c d : Int) : Int := mk (ovc (pA c) (pA c) (pA d)) (ovc (pA c) (pR c) (pR d)) (ovc (pA c) (pG c) (pG d)) (ovc (pA c) (pB c) (pB d))
def fd (c al : Int) : Int := mk (pt (pA c) al) (pt (pR c) al) (pt (pG c) al) (pt (pB c) al)
def pre (a r g b : Int) : Int := mk a (pt r a) (pt g a) (pt b a)
def mayC (c : Int) : Bool := decide (pR c ≤ pA c ∧ pG c ≤ pA c ∧ pB c ≤ pA c)
def gd (c : Int) : Int := mk (pA c) (min (pR c) (pA c)) (min (pG c) (pA c)) (min (pB c) (pA c))

theorem cl_ovc {pa p q : Int} (ha : By pa) (hp : By p) : By pa ∧ 0 ≤ ovc pa p q ∧ ovc pa p q ≤ 510 := by
  have := pt_by q (255 - pa)
  unfold By at *; unfold ovc; omega

attribute [local go_sem ↓] run_min2 run_max2

theorem kcOver : KcC 249 := fun _ _ => by kernel_rfl
theorem kcFade : KcC 207 := fun _ _ => by kernel_rfl

theorem ix_cell {w : World} {k : Nat} {t : TypeId} {a b c d : Int} (hA : At w k #[.int .i64 a, .int .i64 b, .int .i64 c, .int .i64 d] t) {i : Nat} (h : i < 4) (n : Nat) (os : Array Obj) :
    (grow (w.drewN n) os).cell? ⟨k, i, none⟩ = some (.int .i64 (ix a b c d i)) := by
  rw [hA.cells n os i]
  obtain rfl | rfl | rfl | rfl : i = 0 ∨ i = 1 ∨ i = 2 ∨ i = 3 := by omega
  all_goals rfl
theorem ix_by {a b c d : Int} (ha : By a) (hb : By b) (hc : By c) (hd : By d) (i : Int) : By (ix a b c d i) := by unfold ix; (repeat' split) <;> assumption
theorem ix_map (f : Int → Int → Int) (a b c d a' b' c' d' i : Int) : ix (f a a') (f b b') (f c c') (f d d') i = f (ix a b c d i) (ix a' b' c' d' i) := by unfold ix; (repeat' split) <;> rfl

set_option maxHeartbeats 1000000 in
theorem overc0 (x y r : Int) (i k k' k2 : Nat) (w : World) (hx : ∀ n os, (grow (w.drewN n) os).cell? ⟨k, i, none⟩ = some (.int .i64 x)) (hy : ∀ n os, (grow (w.drewN n) os).cell? ⟨k', i, none⟩ = some (.int .i64 y))
    (hr : ∀ n os, (grow (w.drewN n) os).cell? ⟨k2, 0, none⟩ = some (.int .i64 r)) (z : Int) (hz : pt y r = z) (h0 : 0 ≤ z) (h1 : z ≤ 255) (h2 : 0 ≤ x) (h3 : x ≤ 255) (h4 : i < 4) :
    Calls Tryz.prog 249 #[.int .i64 i, .pointer (some ⟨k, 0, none⟩), .pointer (some ⟨k', 0, none⟩), .pointer (some ⟨k2, 0, none⟩)] w
      (Rt w (.int .i64 (x + z))) := by
  have q := part1 y r
  rw [hz] at q
  clear hz
  have s0 : IntKind.i64.wrap (x + z) = x + z := IntWalk.i64_in _ (by omega)
  have s1 : (i : Int) < 4 := by omega
  go_enter Tryz.func249, Tryz.ntmps249
  go_wp2
  refine wp_region_quiet_grown (by kernel_rfl) (by kernel_rfl) ?_
  repeat (first | go_big_quiet_step ((go_at_call 208; exact Calls.grown (q _))) | quiet_step ((go_at_call 208; exact Calls.grown (q _))))
  refine wpQuiet_nil ?_
  intro W2 g8
  replace g8 : Gr _ W2 := g8
  go_wp2
  go_ret
  exact ⟨rfl, g8⟩
theorem overc1 (a b c d a' b' c' d' r i : Int) (k k' k2 : Nat) (t t' t2 : TypeId) (w : World) (hA : At w k #[.int .i64 a, .int .i64 b, .int .i64 c, .int .i64 d] t) (hB : At w k' #[.int .i64 a', .int .i64 b', .int .i64 c', .int .i64 d'] t')
    (hC : At w k2 #[.int .i64 (255 - r)] t2) (ha : By a) (hb : By b) (hc : By c) (hd : By d) (h0 : 0 ≤ i) (h1 : i < 4) :
    Calls Tryz.prog 249 #[.int .i64 i, .pointer (some ⟨k, 0, none⟩), .pointer (some ⟨k', 0, none⟩), .pointer (some ⟨k2, 0, none⟩)] w
      (Rt w (.int .i64 (ix (ovc r a a') (ovc r b b') (ovc r c c') (ovc r d d') i))) := by
  obtain ⟨j, rfl⟩ := Int.eq_ofNat_of_zero_le h0
  have hj : j < 4 := by omega
  rw [ix_map (ovc r)]
  have h := ix_by ha hb hc hd (j : Int)
  have h' := pt_by (ix a' b' c' d' (j : Int)) (255 - r)
  exact overc0 _ _ (255 - r) j k k' k2 w (ix_cell hA hj) (ix_cell hB hj) (fun n os => hC.cells n os 0) _ rfl h'.1 h'.2 h.1 h.2 hj

set_option maxHeartbeats 1000000 in
theorem fadec0 (x r : Int) (i k k2 : Nat) (w : World) (hx : ∀ n os, (grow (w.drewN n) os).cell? ⟨k, i, none⟩ = some (.int .i64 x))
    (hr : ∀ n os, (grow (w.drewN n) os).cell? ⟨k2, 0, none⟩ = some (.int .i64 r)) (h4 : i < 4) :
    Calls Tryz.prog 207 #[.int .i64 i, .pointer (some ⟨k, 0, none⟩), .pointer (some ⟨k2, 0, none⟩)] w
      (Rt w (.int .i64 (pt x r))) := by
  have q := part1 x r
  have s1 : (i : Int) < 4 := by omega
  go_enter Tryz.func207, Tryz.ntmps207
  go_wp2
  refine wp_region_quiet_grown (by kernel_rfl) (by kernel_rfl) ?_
  repeat (first | go_big_quiet_step ((go_at_call 208; exact Calls.grown (q _))) | quiet_step ((go_at_call 208; exact Calls.grown (q _))))
  refine wpQuiet_nil ?_
  intro W2 g8
  replace g8 : Gr _ W2 := g8
  go_wp2
  go_ret
  exact ⟨rfl, g8⟩
theorem fadec1 (a b c d r i : Int) (k k2 : Nat) (t t2 : TypeId) (w : World) (hA : At w k #[.int .i64 a, .int .i64 b, .int .i64 c, .int .i64 d] t)
    (hC : At w k2 #[.int .i64 r] t2) (h0 : 0 ≤ i) (h1 : i < 4) :
    Calls Tryz.prog 207 #[.int .i64 i, .pointer (some ⟨k, 0, none⟩), .pointer (some ⟨k2, 0, none⟩)] w
      (Rt w (.int .i64 (ix (pt a r) (pt b r) (pt c r) (pt d r) i))) := by
  obtain ⟨j, rfl⟩ := Int.eq_ofNat_of_zero_le h0
  have hj : j < 4 := by omega
  rw [ix_map (fun x _ => pt x r) a b c d a b c d]
  exact fadec0 _ r j k k2 w (ix_cell hA hj) (fun n os => hC.cells n os 0) hj

set_option maxHeartbeats 1000000 in
theorem over1 (c d : Int) (w : World) (hc : C32 c) (hd : C32 d) :
    Calls Tryz.prog 194 #[.int .u32 c, .int .u32 d] w (Rt w (.int .u32 (ov c d))) := by
  have b0 := pA_by hc; have b1 := pR_by c; have b2 := pG_by c; have b3 := pB_by c
  have m : 0 ≤ pA c ∧ pA c ≤ 255 := b0
  obtain ⟨m0, m1⟩ := m
  have ep := fun w => parts1 c w hc
  have eq := fun w => parts1 d w hd
  unfold ov
  clear hc hd
  generalize pA c = a at *; generalize pR c = r at *; generalize pG c = g at *; generalize pB c = b at *
  generalize pA d = a' at *; generalize pR d = r' at *; generalize pG d = g' at *; generalize pB d = b' at *
  go_enter Tryz.func194, Tryz.ntmps194
  go_wp2_with fail
  refine (ep _).mono ?_
  rintro e w1 ⟨rfl, g1⟩
  go_wp2_with fail
  refine (eq _).mono ?_
  rintro e w2 ⟨rfl, g2⟩
  replace g2 := g1.trans g2
  clear g1
  go_wp2_with fail
  refine (each1 249 _ (ix (ovc a a a') (ovc a r r') (ovc a g g') (ovc a b b')) _ kcOver (fun i w' h0 h1 gg => ?_)).mono ?_
  · exact overc1 a r g b a' r' g' b' a i _ _ _ _ _ _ w' ((((At.new w2 _ _).alloc _).alloc _).gr gg) (((At.newAt (w := w2.alloc _) (by simp) _ _).alloc _).gr gg) ((At.newAt (w := (w2.alloc _).alloc _) (by simp) _ _).gr gg) b0 b1 b2 b3 h0 h1
  · rintro e w' ⟨rfl, g3⟩
    go_wp2
    go_ret
    exact ⟨rfl, (((g2.alloc _).alloc _).alloc _).trans g3⟩

set_option maxHeartbeats 1000000 in
theorem fade1 (c al : Int) (w : World) (hc : C32 c) :
    Calls Tryz.prog 151 #[.int .u32 c, .int .i64 al] w (Rt w (.int .u32 (fd c al))) := by
  have ep := fun w => parts1 c w hc
  unfold fd
  clear hc
  generalize pA c = a at *; generalize pR c = r at *; generalize pG c = g at *; generalize pB c = b at *
  go_enter Tryz.func151, Tryz.ntmps151
  go_wp2_with fail
  refine (ep _).mono ?_
  rintro e w1 ⟨rfl, g1⟩
  have bx := (At.new w #[.int .i64 al] 3).gr g1
  replace g1 := ((Gr.refl w).alloc (.cells #[.int .i64 al] 3)).trans g1
  go_wp2_with fail
  refine (each1 207 _ (ix (pt a al) (pt r al) (pt g al) (pt b al)) _ kcFade (fun i w' h0 h1 gg => ?_)).mono ?_
  · exact fadec1 a r _ b al i _ _ _ _ w' ((At.new w1 _ _).gr gg) ((bx.alloc _).gr gg) h0 h1
  · rintro e w' ⟨rfl, g3⟩
    go_wp2
    go_ret
    exact ⟨rfl, (g1.alloc _).trans g3⟩

end Go.Proofs.YtablogiielclaaaGreat
namespace Go.Proofs.YtablogiielclaaaGreat
open Go.RowKit Go.Sort

attribute [local go_sem ↓] run_min2 run_max2

theorem cl_min (n : Int) : cl (min n 255) = cl n := by unfold cl; omega
theorem cl_cl (n : Int) : cl (cl n) = cl n := by unfold cl; omega
theorem cl_pt (p q : Int) : cl (pt p q) = pt p q := cl_of (pt_by p q)
theorem pt_cl (p q : Int) : pt (cl p) q = pt p q := by unfold pt; rw [cl_cl]
theorem pt_255 (q : Int) : pt 255 q = cl q := by unfold pt; rw [show cl 255 = 255 from rfl]; have := cl_by q; unfold By at this; omega
theorem pre_eq (a r g b : Int) : fd (mk 255 r g b) a = pre a r g b := by
  unfold fd pre
  rw [pA_mk, pR_mk, pG_mk, pB_mk, pt_cl, pt_cl, pt_cl, pt_cl, pt_255]
  unfold mk
  rw [cl_cl]

set_option maxHeartbeats 400000 in
theorem reffade1 (c al : Int) (w : World) (hc : C32 c) :
    Calls Tryz.prog 148 #[.int .u32 c, .int .i64 al] w (Rt w (.int .u32 (fd c al))) := by
  have ep := fun w => refparts1 c w hc
  unfold fd
  clear hc
  generalize pA c = a at *; generalize pR c = r at *; generalize pG c = g at *; generalize pB c = b at *
  go_enter Tryz.func148, Tryz.ntmps148
  go_wp2_with fail
  refine (ep _).mono ?_
  rintro e w1 ⟨rfl, g1⟩
  have bx := At.new w1 #[.int .i64 a, .int .i64 r, .int .i64 g, .int .i64 b] 152
  have k0 := fun n os => bx.cells n os 0; have k1 := fun n os => bx.cells n os 1; have k2 := fun n os => bx.cells n os 2; have k3 := fun n os => bx.cells n os 3
  simp at k0 k1 k2 k3
  replace g1 := g1.alloc (.cells #[.int .i64 a, .int .i64 r, .int .i64 g, .int .i64 b] 152)
  go_wp2
  obtain ⟨V, hV⟩ : ∃ V, V = w1.alloc (.cells #[.int .i64 a, .int .i64 r, .int .i64 g, .int .i64 b] 152) := ⟨_, rfl⟩
  rw [← hV] at k0 k1 k2 k3 g1 ⊢
  clear hV
  refine wp_region_quiet_grown (by kernel_rfl) (by kernel_rfl) ?_
  repeat (first | go_big_quiet_step (first | (go_at_call 205; exact Calls.grown (refpart1 _ _ _)) | (go_at_call 135; exact Calls.grown (refmake1 _ _ _ _ _))) | quiet_step (first | (go_at_call 205; exact Calls.grown (refpart1 _ _ _)) | (go_at_call 135; exact Calls.grown (refmake1 _ _ _ _ _))))
  refine wpQuiet_nil ?_
  intro W2 g8
  replace g8 : Gr _ W2 := g8
  go_wp2
  go_ret
  exact ⟨rfl, g1.trans g8⟩

theorem run_max3 {P : Program} {w : World} (ts : Array TypeId) (t : TypeId) (x y z : Int) : (Builtin.max_ ts t #[.int .i64 x, .int .i64 y, .int .i64 z]).run P w = .ok (.int .i64 (max (max x y) z)) w := by
  rw [run_max_int3]
  congr 2
  repeat' split
  all_goals omega
attribute [local go_sem ↓] run_max3
theorem may_l (c : Int) : decide (max (max (pR c) (pG c)) (pB c) ≤ pA c) = mayC c := by unfold mayC; rw [Bool.eq_iff_iff]; simp; omega

set_option maxHeartbeats 400000 in
theorem cmay1 (c : Int) (w : World) (hc : C32 c) :
    Calls Tryz.prog 101 #[.int .u32 c] w (Rt w (.bool (mayC c))) := by
  have ep := fun w => parts1 c w hc
  unfold mayC
  clear hc
  generalize pA c = a at *; generalize pR c = r at *; generalize pG c = g at *; generalize pB c = b at *
  go_enter Tryz.func101, Tryz.ntmps101
  go_wp2_with fail
  refine (ep _).mono ?_
  rintro e w1 ⟨rfl, g1⟩
  go_wp2
  all_goals
    go_ret
    refine Rt.bool ?_ (g1.alloc _)
    simp <;> omega

set_option maxHeartbeats 400000 in
theorem refcmay1 (c : Int) (w : World) (hc : C32 c) :
    Calls Tryz.prog 257 #[.int .u32 c] w (Rt w (.bool (mayC c))) := by
  have ep := fun w => refparts1 c w hc
  unfold mayC
  clear hc
  generalize pA c = a at *; generalize pR c = r at *; generalize pG c = g at *; generalize pB c = b at *
  go_enter Tryz.func257, Tryz.ntmps257
  go_wp2_with fail
  refine (ep _).mono ?_
  rintro e w1 ⟨rfl, g1⟩
  go_wp2
  all_goals
    go_ret
    refine Rt.bool ?_ (g1.alloc _)
    simp <;> omega

set_option maxHeartbeats 400000 in
theorem csolid1 (c : Int) (w : World) (hc : C32 c) :
    Calls Tryz.prog 192 #[.int .u32 c] w (Rt w (.bool (pA c == 255))) := by
  have ep := fun w => parts1 c w hc
  clear hc
  generalize pA c = a at *; generalize pR c = r at *; generalize pG c = g at *; generalize pB c = b at *
  have i0 : ∀ w, (Instr.index 152 (.agg #[.int .i64 a, .int .i64 r, .int .i64 g, .int .i64 b]) (.int .i64 0)).run Tryz.prog w = .ok (.int .i64 a) w := fun _ => by kernel_rfl
  go_enter Tryz.func192, Tryz.ntmps192
  go_wp2_with fail
  refine (ep _).mono ?_
  rintro e w1 ⟨rfl, g1⟩
  go_wp2
  go_ret
  exact ⟨rfl, g1⟩

set_option maxHeartbeats 400000 in
theorem cgood1 (c : Int) (w : World) (hc : C32 c) :
    Calls Tryz.prog 62 #[.int .u32 c] w (Rt w (.int .u32 (gd c))) := by
  have ep := fun w => refparts1 c w hc
  unfold gd
  clear hc
  generalize pA c = a at *; generalize pR c = r at *; generalize pG c = g at *; generalize pB c = b at *
  go_enter Tryz.func62, Tryz.ntmps62
  go_wp2_with fail
  refine (ep _).mono ?_
  rintro e w1 ⟨rfl, g1⟩
  go_wp2_with fail
  refine (refmake1 _ _ _ _ _).mono ?_
  rintro e w2 ⟨rfl, g2⟩
  go_wp2
  go_ret
  exact ⟨rfl, (g1.alloc _).trans g2⟩

end Go.Proofs.YtablogiielclaaaGreat
namespace Go.Proofs.YtablogiielclaaaGreat
open Go.RowKit Go.Sort

attribute [local go_sem ↓] run_min2 run_max2

theorem far_cell {w : World} {b k i j : Nat} {v u : Value} (h : w.cell? ⟨b, i, none⟩ = some v) (hp : b ≠ k) : (w.setCell ⟨k, j, none⟩ u).drew.cell? ⟨b, i, none⟩ = some v := by
  show (w.setCell ⟨k, j, none⟩ u).cell? ⟨b, i, none⟩ = some v
  rw [← h]; unfold World.cell?; rw [Below.heap_setCell _ _ _ _ hp]

set_option maxHeartbeats 400000 in
theorem refpart0 (p q : Int) (w : World) :
    Calls Tryz.prog 205 #[.int .i64 p, .int .i64 q] w (fun e w' => e = .returned (.int .i64 (pt p q)) ∧ w = w') := by
  have h := mul_by (cl_by p) (cl_by q)
  unfold cl at h
  obtain ⟨h1, h2⟩ := h
  go_enter Tryz.func205, Tryz.ntmps205
  go_wp2
  go_ret
  exact ⟨rfl, rfl⟩

end Go.Proofs.YtablogiielclaaaGreat
namespace Go.Proofs.YtablogiielclaaaGreat
open Go.RowKit Go.Sort

theorem cl_mono {a b : Int} (h : a ≤ b) : cl a ≤ cl b := by unfold cl; omega
theorem pt_comm (p q : Int) : pt q p = pt p q := by unfold pt; rw [Int.mul_comm]
theorem pt_255r (p : Int) : pt p 255 = cl p := by rw [pt_comm]; exact pt_255 p
theorem pt_0r (p : Int) : pt p 0 = 0 := by unfold pt; rw [show cl 0 = 0 from rfl, Int.mul_zero]; rfl
theorem pt_0 (q : Int) : pt 0 q = 0 := by rw [pt_comm]; exact pt_0r q
theorem pt_mono {p p' : Int} (q : Int) (h : p ≤ p') : pt p q ≤ pt p' q := by
  have h1 := cl_mono h
  have h2 := cl_by q
  unfold By at h2
  have := Int.mul_le_mul_of_nonneg_right h1 h2.1
  unfold pt; omega
theorem pt_mono_r (p : Int) {q q' : Int} (h : q ≤ q') : pt p q ≤ pt p q' := by rw [pt_comm q p, pt_comm q' p]; exact pt_mono p h
theorem pt_le (p q : Int) : pt p q ≤ cl p := by
  have h1 := cl_by p; have h2 := cl_by q
  unfold By at h1 h2
  have := Int.mul_le_mul_of_nonneg_left h2.2 h1.1
  unfold pt; omega
theorem may_mk (a r g b : Int) : mayC (mk a r g b) = decide (cl r ≤ cl a ∧ cl g ≤ cl a ∧ cl b ≤ cl a) := by unfold mayC; rw [pA_mk, pR_mk, pG_mk, pB_mk]
theorem may_gd (c : Int) : mayC (gd c) = true := by
  unfold gd; rw [may_mk]
  exact decide_eq_true ⟨cl_mono (by omega), cl_mono (by omega), cl_mono (by omega)⟩
theorem gd_c32 (c : Int) : C32 (gd c) := mk_c32 _ _ _ _
theorem ov_c32 (c d : Int) : C32 (ov c d) := mk_c32 _ _ _ _
theorem fd_c32 (c d : Int) : C32 (fd c d) := mk_c32 _ _ _ _
theorem pre_c32 (a r g b : Int) : C32 (pre a r g b) := mk_c32 _ _ _ _
theorem of_may {c : Int} (h : mayC c = true) : pR c ≤ pA c ∧ pG c ≤ pA c ∧ pB c ≤ pA c := by unfold mayC at h; simpa using h
theorem ovc_mono {a p p' q q' : Int} (h : p ≤ p') (k : q ≤ q') : ovc a p q ≤ ovc a p' q' := by
  have := pt_mono (255 - a) k
  unfold ovc; omega
theorem may_ov {x y : Int} (hx : mayC x = true) (hy : mayC y = true) : mayC (ov x y) = true := by
  obtain ⟨x1, x2, x3⟩ := of_may hx
  obtain ⟨y1, y2, y3⟩ := of_may hy
  unfold ov; rw [may_mk]
  exact decide_eq_true ⟨cl_mono (ovc_mono x1 y1), cl_mono (ovc_mono x2 y2), cl_mono (ovc_mono x3 y3)⟩
theorem may_fd {x : Int} (al : Int) (hx : mayC x = true) : mayC (fd x al) = true := by
  obtain ⟨x1, x2, x3⟩ := of_may hx
  unfold fd; rw [may_mk]
  exact decide_eq_true ⟨cl_mono (pt_mono _ x1), cl_mono (pt_mono _ x2), cl_mono (pt_mono _ x3)⟩
theorem may_pre (a r g b : Int) : mayC (pre a r g b) = true := by
  have h := fun p => cl_mono (show pt p a ≤ cl a from by rw [pt_comm]; exact pt_le a p)
  unfold pre; rw [may_mk]
  simp only [cl_cl] at h
  exact decide_eq_true ⟨h r, h g, h b⟩
theorem solid_ov {x y : Int} (hx : C32 x) (hy : pA y = 255) : pA (ov x y) = 255 := by
  have h := pA_by hx
  unfold ov; rw [pA_mk, hy]
  unfold ovc; rw [pt_255]
  unfold By at h; unfold cl; omega
theorem ov_solid {r g b : Int} (y : Int) (hr : By r) (hg : By g) (hb : By b) : ov (mk 255 r g b) y = mk 255 r g b := by
  unfold ov; rw [pA_mk, pR_mk, pG_mk, pB_mk, show cl 255 = 255 from rfl, cl_of hr, cl_of hg, cl_of hb]
  unfold ovc; simp only [Int.sub_self, pt_0r, Int.add_zero]
theorem ov_clear {y : Int} (hy : C32 y) : ov 0 y = y := by
  unfold ov; rw [show pA 0 = 0 from rfl, show pR 0 = 0 from rfl, show pG 0 = 0 from rfl, show pB 0 = 0 from rfl]
  unfold ovc; simp only [Int.sub_zero, pt_255r, Int.zero_add]
  rw [cl_of (pA_by hy), cl_of (pR_by y), cl_of (pG_by y), cl_of (pB_by y)]
  exact mk_parts hy
theorem ov_none {x : Int} (hx : C32 x) : ov x 0 = x := by
  unfold ov; rw [show pA 0 = 0 from rfl, show pR 0 = 0 from rfl, show pG 0 = 0 from rfl, show pB 0 = 0 from rfl]
  unfold ovc; simp only [pt_0, Int.add_zero]
  exact mk_parts hx
theorem fd_all {x : Int} (hx : C32 x) : fd x 255 = x := by
  unfold fd; simp only [pt_255r]
  rw [cl_of (pA_by hx), cl_of (pR_by x), cl_of (pG_by x), cl_of (pB_by x)]
  exact mk_parts hx
theorem fd_none (x : Int) : fd x 0 = 0 := by unfold fd; simp only [pt_0r]; rfl
/-- Over white, over black. -/
theorem ov_white {x : Int} (hx : C32 x) (hm : mayC x = true) : pA (ov x 4294967295) = 255 ∧ pR (ov x 4294967295) = pR x + (255 - pA x) ∧ pG (ov x 4294967295) = pG x + (255 - pA x) ∧ pB (ov x 4294967295) = pB x + (255 - pA x) := by
  obtain ⟨x1, x2, x3⟩ := of_may hm
  have h := pA_by hx
  have h1 := pR_by x; have h2 := pG_by x; have h3 := pB_by x
  unfold ov; rw [pA_mk, pR_mk, pG_mk, pB_mk, show pA 4294967295 = 255 from rfl, show pR 4294967295 = 255 from rfl, show pG 4294967295 = 255 from rfl, show pB 4294967295 = 255 from rfl]
  unfold ovc; simp only [pt_255]
  unfold By at *; unfold cl; omega
theorem ov_black {x : Int} (hx : C32 x) : pA (ov x 4278190080) = 255 ∧ pR (ov x 4278190080) = pR x ∧ pG (ov x 4278190080) = pG x ∧ pB (ov x 4278190080) = pB x := by
  have h := pA_by hx
  have h1 := pR_by x; have h2 := pG_by x; have h3 := pB_by x
  unfold ov; rw [pA_mk, pR_mk, pG_mk, pB_mk, show pA 4278190080 = 255 from rfl, show pR 4278190080 = 0 from rfl, show pG 4278190080 = 0 from rfl, show pB 4278190080 = 0 from rfl]
  unfold ovc; simp only [pt_255, pt_0]
  unfold By at *; unfold cl; omega
/-- What a color is over another one grows with that one. -/
theorem ov_grows (n : Int) {a b : Int} (h : a ≤ b) : pA (ov n (mk 255 a a a)) ≤ pA (ov n (mk 255 b b b)) ∧ pR (ov n (mk 255 a a a)) ≤ pR (ov n (mk 255 b b b)) ∧ pG (ov n (mk 255 a a a)) ≤ pG (ov n (mk 255 b b b)) ∧ pB (ov n (mk 255 a a a)) ≤ pB (ov n (mk 255 b b b)) := by
  have k := cl_mono h
  unfold ov
  simp only [pA_mk, pR_mk, pG_mk, pB_mk]
  exact ⟨Int.le_refl _, cl_mono (ovc_mono (Int.le_refl _) k), cl_mono (ovc_mono (Int.le_refl _) k), cl_mono (ovc_mono (Int.le_refl _) k)⟩

end Go.Proofs.YtablogiielclaaaGreat

namespace Go.Proofs.YtablogiielclaaaGreat
open Go.RowKit Go.Sort

/-- The cells of a list of colors. -/
def cC (L : List Int) : Array Value := (L.map (Value.int .u32)).toArray
theorem cC_get (L : List Int) (k : Nat) : (cC L)[k]? = L[k]?.map (Value.int .u32) := by simp [cC]
theorem cC_set (L : List Int) (k : Nat) (c : Int) : (cC L).setIfInBounds k (.int .u32 c) = cC (L.set k c) := by
  apply Array.ext_getElem?
  intro i
  rw [cC_get, Array.getElem?_setIfInBounds, List.getElem?_set, cC_get]
  have hs : (cC L).size = L.length := by simp [cC]
  rw [hs]
  split
  · split <;> simp_all
  · rfl

/-- Block pm is an image of W by H whose colors lie in block pc. -/
structure Img (w : World) (pm pc W H : Nat) (L : List Int) : Prop where
  hd : At w pm #[.int .i64 W, .int .i64 H, .slice (some ⟨pc, 0, none⟩) L.length L.length] 173
  cs : At w pc (cC L) 52
  len : L.length = W * H
  w1 : 1 ≤ W
  w2 : W ≤ 256
  h1 : 1 ≤ H
  h2 : H ≤ 256
  ne : pm ≠ pc
theorem Img.c0 {w : World} {pm pc W H : Nat} {L : List Int} (h : Img w pm pc W H L) : w.cell? ⟨pm, 0, none⟩ = some (.int .i64 W) := h.hd.cell 0
theorem Img.c1 {w : World} {pm pc W H : Nat} {L : List Int} (h : Img w pm pc W H L) : w.cell? ⟨pm, 1, none⟩ = some (.int .i64 H) := h.hd.cell 1
theorem Img.c2 {w : World} {pm pc W H : Nat} {L : List Int} (h : Img w pm pc W H L) : w.cell? ⟨pm, 2, none⟩ = some (.slice (some ⟨pc, 0, none⟩) L.length L.length) := h.hd.cell 2
/-- The same, where the colors' block goes on behind them (what a clone's does). -/
structure ImgX (w : World) (pm pc W H : Nat) (L : List Int) (X : List Value) : Prop where
  hd : At w pm #[.int .i64 W, .int .i64 H, .slice (some ⟨pc, 0, none⟩) L.length (L.length + X.length)] 173
  cs : At w pc (L.map (Value.int .u32) ++ X).toArray 52
  len : L.length = W * H
  w1 : 1 ≤ W
  w2 : W ≤ 256
  h1 : 1 ≤ H
  h2 : H ≤ 256
  ne : pm ≠ pc
theorem Img.x {w : World} {pm pc W H : Nat} {L : List Int} (h : Img w pm pc W H L) : ImgX w pm pc W H L [] :=
  { hd := h.hd, cs := by rw [List.append_nil]; exact h.cs, len := h.len, w1 := h.w1, w2 := h.w2, h1 := h.h1, h2 := h.h2, ne := h.ne }
theorem ImgX.o {w : World} {pm pc W H : Nat} {L : List Int} (h : ImgX w pm pc W H L []) : Img w pm pc W H L :=
  { hd := h.hd, cs := by have := h.cs; rwa [List.append_nil] at this, len := h.len, w1 := h.w1, w2 := h.w2, h1 := h.h1, h2 := h.h2, ne := h.ne }
theorem ImgX.c0 {w : World} {pm pc W H : Nat} {L : List Int} {X : List Value} (h : ImgX w pm pc W H L X) : w.cell? ⟨pm, 0, none⟩ = some (.int .i64 W) := h.hd.cell 0
theorem ImgX.c1 {w : World} {pm pc W H : Nat} {L : List Int} {X : List Value} (h : ImgX w pm pc W H L X) : w.cell? ⟨pm, 1, none⟩ = some (.int .i64 H) := h.hd.cell 1
theorem ImgX.c2 {w : World} {pm pc W H : Nat} {L : List Int} {X : List Value} (h : ImgX w pm pc W H L X) : w.cell? ⟨pm, 2, none⟩ = some (.slice (some ⟨pc, 0, none⟩) L.length (L.length + X.length)) := h.hd.cell 2
theorem ImgX.at {w : World} {pm pc W H : Nat} {L : List Int} {X : List Value} (h : ImgX w pm pc W H L X) {k : Nat} {c : Int} (hk : L[k]? = some c) : w.cell? ⟨pc, k, none⟩ = some (.int .u32 c) := by
  have hl : k < L.length := (List.getElem?_eq_some_iff.1 hk).1
  rw [h.cs.cell k, List.getElem?_toArray, List.getElem?_append_left (by simpa using hl), List.getElem?_map, hk]; rfl
theorem ImgX.gr {w w' : World} {pm pc W H : Nat} {L : List Int} {X : List Value} (h : ImgX w pm pc W H L X) (g : Gr w w') : ImgX w' pm pc W H L X := { h with hd := h.hd.gr g, cs := h.cs.gr g }
theorem ImgX.bl {w w' : World} {pm pc W H : Nat} {L : List Int} {X : List Value} (h : ImgX w pm pc W H L X) (g : Bl w w') : ImgX w' pm pc W H L X := { h with hd := h.hd.bl g, cs := h.cs.bl g }
theorem Img.at {w : World} {pm pc W H : Nat} {L : List Int} (h : Img w pm pc W H L) {k : Nat} {c : Int} (hk : L[k]? = some c) : w.cell? ⟨pc, k, none⟩ = some (.int .u32 c) := by
  rw [h.cs.cell k, cC_get, hk]; rfl
theorem Img.gr {w w' : World} {pm pc W H : Nat} {L : List Int} (h : Img w pm pc W H L) (g : Gr w w') : Img w' pm pc W H L := { h with hd := h.hd.gr g, cs := h.cs.gr g }
theorem At.kept {w w' : World} {b : Nat} {cs : Array Value} {t : TypeId} {row : Option Nat} (h : At w b cs t) (g : w.grownBy w' row) (hne : some b ≠ row) : At w' b cs t := by
  have := g.block b h.lt hne
  unfold At at *; rw [this]; exact h
theorem Img.kept {w w' : World} {pm pc W H : Nat} {L : List Int} {row : Option Nat} (h : Img w pm pc W H L) (g : w.grownBy w' row) (h1 : some pm ≠ row) (h2 : some pc ≠ row) : Img w' pm pc W H L := { h with hd := h.hd.kept g h1, cs := h.cs.kept g h2 }
theorem ImgX.kept {w w' : World} {pm pc W H : Nat} {L : List Int} {X : List Value} {row : Option Nat} (h : ImgX w pm pc W H L X) (g : w.grownBy w' row) (h1 : some pm ≠ row) (h2 : some pc ≠ row) : ImgX w' pm pc W H L X := { h with hd := h.hd.kept g h1, cs := h.cs.kept g h2 }
theorem Gr.by {w w' : World} (h : Gr w w') (row : Option Nat) : w.grownBy w' row := ⟨h.below.os, h.below.tape, h.below.output, h.size, fun k hk _ => h.below.block k hk⟩
theorem by_trans {a b c : World} {row : Option Nat} (h : a.grownBy b row) (k : b.grownBy c row) : a.grownBy c row :=
  ⟨k.os.trans h.os, k.tape.trans h.tape, k.output.trans h.output, Nat.le_trans h.size k.size, fun i hi hr => (k.block i (Nat.lt_of_lt_of_le hi h.size) hr).trans (h.block i hi hr)⟩
theorem row_of {i j W H : Nat} (hi : i < W) (hj : j < H) : j * W + i < W * H := by
  have := Nat.mul_le_mul_right W (show j + 1 ≤ H from hj)
  rw [Nat.add_mul, Nat.mul_comm H] at this; omega
theorem area_le {W H : Nat} (h : W ≤ 256) (k : H ≤ 256) : W * H ≤ 65536 := by
  have := Nat.mul_le_mul h k; omega

set_option maxHeartbeats 1000000 in
theorem boxX {pm pc W H : Nat} {L : List Int} {X : List Value} (w : World) (hI : ImgX w pm pc W H L X) :
    Calls Tryz.prog 100 #[.pointer (some ⟨pm, 0, none⟩)] w (Rt w (.agg #[.int .i64 0, .int .i64 0, .int .i64 W, .int .i64 H])) := by
  have g := (Gr.refl w).alloc (.cells #[.int .i64 0, .int .i64 0, .int .i64 0, .int .i64 0] 31)
  have k0 := (hI.gr g).c0
  have k1 := (hI.gr g).c1
  clear hI
  go_enter Tryz.func100, Tryz.ntmps100
  go_wp2
  have hk := At.new w #[.int .i64 0, .int .i64 0, .int .i64 0, .int .i64 0] 31
  obtain ⟨V, hV⟩ : ∃ V, V = w.alloc (.cells #[.int .i64 0, .int .i64 0, .int .i64 0, .int .i64 0] 31) := ⟨_, rfl⟩
  rw [← hV] at hk k0 k1 g ⊢
  clear hV
  obtain ⟨b, hb'⟩ : ∃ b, b = w.heap.size := ⟨_, rfl⟩
  have hb : w.heap.size ≤ b := by omega
  rw [← hb'] at hk ⊢
  clear hb'
  have c0 := hk.cell 0; have c1 := hk.cell 1; have c2 := hk.cell 2; have c3 := hk.cell 3
  have f0 := hk.free 0; have f1 := hk.free 1; have f2 := hk.free 2; have f3 := hk.free 3
  simp at c0 c1 c2 c3
  go_region
  all_goals
    go_wp2
    have k := hk.put4 (.int .i64 0) (.int .i64 0) (.int .i64 W) (.int .i64 H)
    have G : Gr w ((((V.setCell ⟨b, 0, none⟩ (.int .i64 0)).setCell ⟨b, 1, none⟩ (.int .i64 0)).setCell ⟨b, 2, none⟩ (.int .i64 W)).setCell ⟨b, 3, none⟩ (.int .i64 H)) := (((g.setCell (p := ⟨b, 0, none⟩) hb _).setCell (p := ⟨b, 1, none⟩) hb _).setCell (p := ⟨b, 2, none⟩) hb _).setCell (p := ⟨b, 3, none⟩) hb _
    generalize (((V.setCell ⟨b, 0, none⟩ (.int .i64 0)).setCell ⟨b, 1, none⟩ (.int .i64 0)).setCell ⟨b, 2, none⟩ (.int .i64 W)).setCell ⟨b, 3, none⟩ (.int .i64 H) = V4 at k G ⊢
    have d0 := k.cell 0; have d1 := k.cell 1; have d2 := k.cell 2; have d3 := k.cell 3
    simp at d0 d1 d2 d3
    exact bodyPost_ret (v := .agg #[.int .i64 0, .int .i64 0, .int .i64 W, .int .i64 H]) (by simp [results, Tryz.results100, go_sem, d0, d1, d2, d3]) rfl ⟨rfl, G.drew⟩
theorem box1 {pm pc W H : Nat} {L : List Int} (w : World) (hI : Img w pm pc W H L) :
    Calls Tryz.prog 100 #[.pointer (some ⟨pm, 0, none⟩)] w (Rt w (.agg #[.int .i64 0, .int .i64 0, .int .i64 W, .int .i64 H])) := boxX w hI.x

set_option maxHeartbeats 1000000 in
theorem at0X {pm pc W H : Nat} {L : List Int} {X : List Value} (w : World) (hI : ImgX w pm pc W H L X) (x y : Int) (h : hasB 0 0 W H x y = false) :
    Calls Tryz.prog 30 #[.pointer (some ⟨pm, 0, none⟩), .int .i64 x, .int .i64 y] w (Rt w (.tuple #[.int .u32 0, .bool false])) := by
  have cb := boxX w hI
  have ch := fun w => has1 0 0 W H x y w
  rw [h] at ch
  go_enter Tryz.func30, Tryz.ntmps30
  go_wp2_with fail
  refine cb.mono ?_
  rintro e w1 ⟨rfl, g1⟩
  go_wp2_with fail
  refine (ch _).mono ?_
  rintro e w2 ⟨rfl, g2⟩
  go_wp2
  go_ret2
  exact ⟨rfl, g1.trans g2⟩
theorem at0 {pm pc W H : Nat} {L : List Int} (w : World) (hI : Img w pm pc W H L) (x y : Int) (h : hasB 0 0 W H x y = false) :
    Calls Tryz.prog 30 #[.pointer (some ⟨pm, 0, none⟩), .int .i64 x, .int .i64 y] w (Rt w (.tuple #[.int .u32 0, .bool false])) := at0X w hI.x x y h

set_option maxHeartbeats 1000000 in
theorem at1X {pm pc W H : Nat} {L : List Int} {X : List Value} (w : World) (hI : ImgX w pm pc W H L X) (i j : Nat) (hi : i < W) (hj : j < H) (c : Int) (hc : L[j * W + i]? = some c) :
    Calls Tryz.prog 30 #[.pointer (some ⟨pm, 0, none⟩), .int .i64 i, .int .i64 j] w (Rt w (.tuple #[.int .u32 c, .bool true])) := by
  have cb := boxX w hI
  have ch := fun w => has1 0 0 W H i j w
  rw [show hasB 0 0 W H i j = true from by simp [hasB]; omega] at ch
  have hk := row_of hi hj
  have hle := area_le hI.w2 hI.h2
  rw [← hI.len] at hk hle
  have e1 : IntKind.i64.wrap ((j : Int) * (W : Int)) = ((j * W : Nat) : Int) := by rw [← Int.natCast_mul]; exact IntWalk.i64_in _ (by omega)
  have e2 : IntKind.i64.wrap (((j * W : Nat) : Int) + (i : Int)) = ((j * W + i : Nat) : Int) := by rw [← Int.natCast_add]; exact IntWalk.i64_in _ (by omega)
  have q1 : wrap64 ((j : Int) * (W : Int)) = ((j * W : Nat) : Int) := by rw [← Int.natCast_mul]; exact w64 (by omega) (by omega)
  have q2 : wrap64 (((j * W : Nat) : Int) + (i : Int)) = ((j * W + i : Nat) : Int) := by rw [← Int.natCast_add]; exact w64 (by omega) (by omega)
  generalize j * W + i = k at *
  generalize j * W = p at *
  generalize hn : L.length = n at *
  have hnn := Lib.hid hn
  go_enter Tryz.func30, Tryz.ntmps30
  go_wp2_with fail
  refine cb.mono ?_
  rintro e w1 ⟨rfl, g1⟩
  go_wp2_with fail
  refine (ch _).mono ?_
  rintro e w2 ⟨rfl, g2⟩
  have J := (hI.gr g1).gr g2
  have k0 := J.c0; have k2 := J.c2; have k3 := J.at hc
  rw [hnn.out] at k2
  go_wp2
  go_quiet (fail)
  go_wp2
  go_ret2
  exact ⟨rfl, (g1.trans g2).drewN _⟩
theorem at1 {pm pc W H : Nat} {L : List Int} (w : World) (hI : Img w pm pc W H L) (i j : Nat) (hi : i < W) (hj : j < H) (c : Int) (hc : L[j * W + i]? = some c) :
    Calls Tryz.prog 30 #[.pointer (some ⟨pm, 0, none⟩), .int .i64 i, .int .i64 j] w (Rt w (.tuple #[.int .u32 c, .bool true])) := at1X w hI.x i j hi hj c hc

theorem ImgX.set {w : World} {pm pc W H : Nat} {L : List Int} {X : List Value} (h : ImgX w pm pc W H L X) (k : Nat) (c : Int) (hk : k < L.length) : ImgX (w.setCell ⟨pc, k, none⟩ (.int .u32 c)) pm pc W H (L.set k c) X := by
  have hl : (L.set k c).length = L.length := List.length_set
  refine { h with hd := ?_, cs := ?_, len := hl.trans h.len }
  · rw [hl]; exact h.hd.far (p := ⟨pc, k, none⟩) h.ne _
  · have hm : (L.set k c).map (Value.int .u32) ++ X = (L.map (Value.int .u32) ++ X).set k (.int .u32 c) := by
      rw [List.set_append_left _ _ (by simpa using hk), List.map_set]
    rw [hm, ← List.setIfInBounds_toArray]; exact h.cs.put k _
theorem Img.set {w : World} {pm pc W H : Nat} {L : List Int} (h : Img w pm pc W H L) (k : Nat) (c : Int) : Img (w.setCell ⟨pc, k, none⟩ (.int .u32 c)) pm pc W H (L.set k c) := by
  have hl : (L.set k c).length = L.length := List.length_set
  refine { h with hd := ?_, cs := ?_, len := hl.trans h.len }
  · rw [hl]; exact h.hd.far (p := ⟨pc, k, none⟩) h.ne _
  · rw [← cC_set]; exact h.cs.put k _
theorem by_set {a b : World} {p : Addr} (h : a.grownBy b (some p.block)) (u : Value) : a.grownBy (b.setCell p u) (some p.block) :=
  by_trans h ⟨rfl, rfl, rfl, by simp [World.setCell], fun k _ hk => Below.heap_setCell _ _ _ k (fun e => hk (by rw [e]))⟩
theorem by_drew {a b : World} {row : Option Nat} (h : a.grownBy b row) : a.grownBy b.drew row := by_trans h ((Gr.refl b).drew.by row)
theorem by_drewN {a b : World} {row : Option Nat} (h : a.grownBy b row) (n : Nat) : a.grownBy (b.drewN n) row := by_trans h (((Gr.refl b).drewN n).by row)
theorem by_gr {a b c : World} {row : Option Nat} (h : a.grownBy b row) (k : Gr b c) : a.grownBy c row := by_trans h (k.by row)
theorem by_refl (a : World) (row : Option Nat) : a.grownBy a row := (Gr.refl a).by row
theorem by_alloc {a b : World} {row : Option Nat} (h : a.grownBy b row) (o : Obj) : a.grownBy (b.alloc o) row := by_gr h ((Gr.refl b).alloc o)
/-- A store into a block that was not there. -/
theorem by_new {a b : World} {row : Option Nat} (h : a.grownBy b row) {p : Addr} (hp : a.heap.size ≤ p.block) (u : Value) : a.grownBy (b.setCell p u) row :=
  ⟨h.os, h.tape, h.output, Nat.le_trans h.size (by simp [World.setCell]), fun k hk hr => (Below.heap_setCell _ _ _ k (by omega)).trans (h.block k hk hr)⟩

set_option maxHeartbeats 1000000 in
theorem setRX {pm pc W H : Nat} {L : List Int} {X : List Value} (w : World) (hI : ImgX w pm pc W H L X) (x y c : Int) (h : hasB 0 0 W H x y = false) :
    Calls Tryz.prog 96 #[.pointer (some ⟨pm, 0, none⟩), .int .i64 x, .int .i64 y, .int .u32 c] w (Rt w (.int .i64 4)) := by
  have cb := boxX w hI
  have ch := fun w => has1 0 0 W H x y w
  rw [h] at ch
  go_enter Tryz.func96, Tryz.ntmps96
  go_wp2_with fail
  refine cb.mono ?_
  rintro e w1 ⟨rfl, g1⟩
  go_wp2_with fail
  refine (ch _).mono ?_
  rintro e w2 ⟨rfl, g2⟩
  go_wp2
  go_ret
  exact ⟨rfl, g1.trans g2⟩
theorem setR {pm pc W H : Nat} {L : List Int} (w : World) (hI : Img w pm pc W H L) (x y c : Int) (h : hasB 0 0 W H x y = false) :
    Calls Tryz.prog 96 #[.pointer (some ⟨pm, 0, none⟩), .int .i64 x, .int .i64 y, .int .u32 c] w (Rt w (.int .i64 4)) := setRX w hI.x x y c h

set_option maxHeartbeats 1000000 in
theorem setAX {pm pc W H : Nat} {L : List Int} {X : List Value} (w : World) (hI : ImgX w pm pc W H L X) (x y c : Int) (hc : C32 c) (h : hasB 0 0 W H x y = true) (hm : mayC c = false) :
    Calls Tryz.prog 96 #[.pointer (some ⟨pm, 0, none⟩), .int .i64 x, .int .i64 y, .int .u32 c] w (Rt w (.int .i64 1)) := by
  have cb := boxX w hI
  have ch := fun w => has1 0 0 W H x y w
  have cm := fun w => cmay1 c w hc
  rw [h] at ch
  rw [hm] at cm
  go_enter Tryz.func96, Tryz.ntmps96
  go_wp2_with fail
  refine cb.mono ?_
  rintro e w1 ⟨rfl, g1⟩
  go_wp2_with fail
  refine (ch _).mono ?_
  rintro e w2 ⟨rfl, g2⟩
  go_wp2_with fail
  refine (cm _).mono ?_
  rintro e w3 ⟨rfl, g3⟩
  go_wp2
  go_ret
  exact ⟨rfl, (g1.trans g2).trans g3⟩
theorem setA {pm pc W H : Nat} {L : List Int} (w : World) (hI : Img w pm pc W H L) (x y c : Int) (hc : C32 c) (h : hasB 0 0 W H x y = true) (hm : mayC c = false) :
    Calls Tryz.prog 96 #[.pointer (some ⟨pm, 0, none⟩), .int .i64 x, .int .i64 y, .int .u32 c] w (Rt w (.int .i64 1)) := setAX w hI.x x y c hc h hm

set_option maxHeartbeats 1000000 in
theorem set1X {pm pc W H : Nat} {L : List Int} {X : List Value} (w : World) (hI : ImgX w pm pc W H L X) (i j : Nat) (hi : i < W) (hj : j < H) (c : Int) (hc : C32 c) (hm : mayC c = true) :
    Calls Tryz.prog 96 #[.pointer (some ⟨pm, 0, none⟩), .int .i64 i, .int .i64 j, .int .u32 c] w (fun e w' => e = .returned (.int .i64 0) ∧ w.grownBy w' (some pc) ∧ ImgX w' pm pc W H (L.set (j * W + i) c) X) := by
  have cb := boxX w hI
  have ch := fun w => has1 0 0 W H i j w
  have cm := fun w => cmay1 c w hc
  rw [show hasB 0 0 W H i j = true from by simp [hasB]; omega] at ch
  rw [hm] at cm
  have hk := row_of hi hj
  have hle := area_le hI.w2 hI.h2
  rw [← hI.len] at hk hle
  have e1 : IntKind.i64.wrap ((j : Int) * (W : Int)) = ((j * W : Nat) : Int) := by rw [← Int.natCast_mul]; exact IntWalk.i64_in _ (by omega)
  have e2 : IntKind.i64.wrap (((j * W : Nat) : Int) + (i : Int)) = ((j * W + i : Nat) : Int) := by rw [← Int.natCast_add]; exact IntWalk.i64_in _ (by omega)
  have q1 : wrap64 ((j : Int) * (W : Int)) = ((j * W : Nat) : Int) := by rw [← Int.natCast_mul]; exact w64 (by omega) (by omega)
  have q2 : wrap64 (((j * W : Nat) : Int) + (i : Int)) = ((j * W + i : Nat) : Int) := by rw [← Int.natCast_add]; exact w64 (by omega) (by omega)
  obtain ⟨old, hold⟩ : ∃ old, L[j * W + i]? = some old := ⟨L[j * W + i], List.getElem?_eq_getElem hk⟩
  generalize j * W + i = k at *
  generalize j * W = p at *
  obtain ⟨n, hn⟩ : ∃ n, n = L.length := ⟨_, rfl⟩
  rw [← hn] at hk hle
  have hnn := Lib.hid hn
  clear hn
  go_enter Tryz.func96, Tryz.ntmps96
  go_wp2_with fail
  refine cb.mono ?_
  rintro e w1 ⟨rfl, g1⟩
  go_wp2_with fail
  refine (ch _).mono ?_
  rintro e w2 ⟨rfl, g2⟩
  go_wp2_with fail
  refine (cm _).mono ?_
  rintro e w3 ⟨rfl, g3⟩
  have J := ((hI.gr g1).gr g2).gr g3
  have k0 := J.c0; have k2 := J.c2; have k3 := J.at hold
  have k4 := J.cs.free k
  rw [← hnn.out] at k2
  replace g3 := (g1.trans g2).trans g3
  clear hold
  go_wp2
  go_region
  all_goals
    go_wp2
    go_ret
    exact ⟨rfl, by_drew (by_set (g3.by _) _), (J.set k c (by rw [← hnn.out]; exact hk)).gr (Gr.refl _).drew⟩
theorem set1 {pm pc W H : Nat} {L : List Int} (w : World) (hI : Img w pm pc W H L) (i j : Nat) (hi : i < W) (hj : j < H) (c : Int) (hc : C32 c) (hm : mayC c = true) :
    Calls Tryz.prog 96 #[.pointer (some ⟨pm, 0, none⟩), .int .i64 i, .int .i64 j, .int .u32 c] w (fun e w' => e = .returned (.int .i64 0) ∧ w.grownBy w' (some pc) ∧ Img w' pm pc W H (L.set (j * W + i) c)) :=
  (set1X w hI.x i j hi hj c hc hm).mono fun _ _ h => ⟨h.1, h.2.1, h.2.2.o⟩

set_option maxHeartbeats 1000000 in
theorem newN (W H : Int) (w : World) (h : W < 1 ∨ 256 < W ∨ H < 1 ∨ 256 < H) :
    Calls Tryz.prog 90 #[.int .i64 W, .int .i64 H] w (Rt w (.tuple #[.pointer none, .int .i64 1])) := by
  go_enter Tryz.func90, Tryz.ntmps90
  go_wp2
  all_goals first
    | (exfalso; omega)
    | (go_ret2; exact ⟨rfl, Gr.refl _⟩)

theorem cC_zero (n : Nat) : cC (List.replicate n 0) = Array.replicate n (.int .u32 0) := by
  apply Array.ext'
  simp [cC, List.map_replicate]

theorem infoC : (Tryz.prog.info? 52).map (fun i => (i.zero, i.size, i.bytes)) = some (some (.int .u32 0), 1, 4) := by kernel_rfl
theorem madeC (n : Nat) : madeCells #[Value.int .u32 0] n = cC (List.replicate n 0) := by
  rw [cC_zero]
  apply Array.ext
  · simp [madeCells]
  · intro i h1 h2; simp [madeCells, Nat.mod_one]
theorem makeC (n : Nat) (h : n ≤ 1000000000) (w : World) : (Instr.makeSlice 25 (.int .i64 n) (.int .i64 n)).run Tryz.prog w =
    .ok (.slice (some ⟨w.heap.size, 0, none⟩) n n) (w.alloc (.cells (cC (List.replicate n 0)) 52)) := by
  obtain ⟨i0, hi, hz0, hz1, hz2⟩ := info_parts infoC
  have := run_make (P := Tryz.prog) w 25 52 i0 _ Tryz.underlying25 hi hz0 .i64 .i64 n n (by omega) (Int.le_refl _) (by rw [hz2]; omega) (by omega)
  rw [this, hz1]
  have e : madeCells (Value.int .u32 0).cells n = cC (List.replicate n 0) := madeC n
  simp [e]

set_option maxHeartbeats 1000000 in
theorem new1 (W H : Nat) (w : World) (w1 : 1 ≤ W) (w2 : W ≤ 256) (h1 : 1 ≤ H) (h2 : H ≤ 256) :
    Calls Tryz.prog 90 #[.int .i64 W, .int .i64 H] w (fun e w' => ∃ pm pc, e = .returned (.tuple #[.pointer (some ⟨pm, 0, none⟩), .int .i64 0]) ∧ Img w' pm pc W H (List.replicate (W * H) 0) ∧ w.heap.size ≤ pm ∧ w.heap.size ≤ pc ∧ Gr w w') := by
  have hle := area_le w2 h2
  have e1 : IntKind.i64.wrap ((W : Int) * (H : Int)) = ((W * H : Nat) : Int) := by rw [← Int.natCast_mul]; exact IntWalk.i64_in _ (by omega)
  have q1 : wrap64 ((W : Int) * (H : Int)) = ((W * H : Nat) : Int) := by rw [← Int.natCast_mul]; exact w64 (by omega) (by omega)
  obtain ⟨n, hn⟩ : ∃ n, n = W * H := ⟨_, rfl⟩
  rw [← hn] at e1 q1 hle ⊢
  have hnn := Lib.hid hn
  clear hn
  have mk := makeC n (by omega)
  generalize hL : List.replicate n (0 : Int) = L at mk ⊢
  have hLL := Lib.hid hL
  clear hL
  have a1 := (At.new w (cC L) 52).alloc (.cells #[.int .i64 W, .int .i64 H, .slice (some ⟨w.heap.size, 0, none⟩) n n] 173)
  have a2 := At.newAt (w := w.alloc (.cells (cC L) 52)) (n := w.heap.size + 1) (by simp) #[.int .i64 W, .int .i64 H, .slice (some ⟨w.heap.size, 0, none⟩) n n] 173
  go_enter Tryz.func90, Tryz.ntmps90
  go_wp2
  go_ret2
  have hl : L.length = n := by rw [← hLL.out]; simp
  exact ⟨w.heap.size + 1, w.heap.size, rfl, { hd := by rw [hl]; exact a2, cs := a1, len := hl.trans hnn.out, w1 := w1, w2 := w2, h1 := h1, h2 := h2, ne := by omega }, by omega, by omega, ((Gr.refl w).alloc _).alloc _⟩

end Go.Proofs.YtablogiielclaaaGreat
