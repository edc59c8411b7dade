/-
  What is proved: what the calls of package color, and the document's, hand back (for an image's seat).
-/
import Derived.Test.YtlbpeogjedjpnaaGr
import Derived.IntWalk
import Derived.Laws.BitsAllLaws
import Derived.Laws.Cover1
import Derived.Lib.Hide
import Derived.Handy
namespace Go.Proofs.Ytlbpeogjedjpnaa
open Go.RowKit Go.Sort

attribute [local go_sem ↓] run_min2 run_max2

def C32 (c : Int) : Prop := 0 ≤ c ∧ c ≤ 4294967295

def pA (c : Int) : Int := c / 16777216

def pR (c : Int) : Int := c / 65536 % 256

def pG (c : Int) : Int := c / 256 % 256

def pB (c : Int) : Int := c % 256

def cl (n : Int) : Int := min (max n 0) 255

def mk (a r g b : Int) : Int := cl a * 16777216 + cl r * 65536 + cl g * 256 + cl b

def By (n : Int) : Prop := 0 ≤ n ∧ n ≤ 255

theorem cl_by (n : Int) : By (cl n) := by unfold By cl; omega

theorem cl_of {n : Int} (h : By n) : cl n = n := by unfold By at h; unfold cl; omega

theorem pA_by {c : Int} (h : C32 c) : By (pA c) := by unfold C32 at h; unfold By pA; omega

theorem pR_by (c : Int) : By (pR c) := by unfold By pR; omega

theorem pG_by (c : Int) : By (pG c) := by unfold By pG; omega

theorem pB_by (c : Int) : By (pB c) := by unfold By pB; omega

theorem mk_c32 (a r g b : Int) : C32 (mk a r g b) := by
  have h1 := cl_by a; have h2 := cl_by r; have h3 := cl_by g; have h4 := cl_by b
  unfold By at *; unfold C32 mk; omega

theorem pA_mk (a r g b : Int) : pA (mk a r g b) = cl a := by
  have h1 := cl_by a; have h2 := cl_by r; have h3 := cl_by g; have h4 := cl_by b
  unfold By at *; unfold pA mk; omega

theorem pR_mk (a r g b : Int) : pR (mk a r g b) = cl r := by
  have h1 := cl_by a; have h2 := cl_by r; have h3 := cl_by g; have h4 := cl_by b
  unfold By at *; unfold pR mk; omega

theorem pG_mk (a r g b : Int) : pG (mk a r g b) = cl g := by
  have h1 := cl_by a; have h2 := cl_by r; have h3 := cl_by g; have h4 := cl_by b
  unfold By at *; unfold pG mk; omega

theorem pB_mk (a r g b : Int) : pB (mk a r g b) = cl b := by
  have h1 := cl_by a; have h2 := cl_by r; have h3 := cl_by g; have h4 := cl_by b
  unfold By at *; unfold pB mk; omega

theorem mk_parts {c : Int} (h : C32 c) : mk (pA c) (pR c) (pG c) (pB c) = c := by
  have h1 := pA_by h
  unfold mk
  rw [cl_of h1, cl_of (pR_by c), cl_of (pG_by c), cl_of (pB_by c)]
  unfold C32 at h; unfold pA pR pG pB; omega

theorem and255 {x : Int} (h0 : 0 ≤ x) (h1 : x ≤ 4294967295) : bits .and .u32 x 255 = x % 256 :=
  bits_mask .u32 32 (by decide) (fun n h h' => by rw [IntKind.wrap_u32]; omega) 8 (by decide) x h0 (by omega)

theorem or256 {x y : Int} (h0 : 0 ≤ x) (h1 : x ≤ 16777215) (h2 : 0 ≤ y) (h3 : y ≤ 255) : bits .or .u32 (x * 256) y = x * 256 + y :=
  bits_join .u32 32 (by decide) (fun n h h' => by rw [IntKind.wrap_u32]; omega) 8 (x * 256) y (by omega) (by omega) (by omega) h2 (by omega) (by omega)

theorem w64 {x : Int} (h0 : 0 ≤ x) (h1 : x ≤ 4294967295) : wrap64 x = x := by unfold wrap64; omega

theorem Rt.agg4 {w w' : World} {a b c d a' b' c' d' : Int} (h : a = a' ∧ b = b' ∧ c = c' ∧ d = d') (hg : Gr w w') :
    Rt w (.agg #[.int .i64 a', .int .i64 b', .int .i64 c', .int .i64 d']) (.returned (.agg #[.int .i64 a, .int .i64 b, .int .i64 c, .int .i64 d])) w' := by
  obtain ⟨rfl, rfl, rfl, rfl⟩ := h; exact ⟨rfl, hg⟩

set_option maxHeartbeats 400000 in
theorem parts1 (c : Int) (w : World) (hc : C32 c) :
    Calls Try.prog 63 #[.int .u32 c] w (Rt w (.agg #[.int .i64 (pA c), .int .i64 (pR c), .int .i64 (pG c), .int .i64 (pB c)])) := by
  obtain ⟨hc0, hc1⟩ := hc
  go_enter Try.func63, Try.ntmps63
  go_wp2
  go_returns
  refine Rt.agg4 ?_ ((Gr.refl _).alloc _)
  rw [and255 (by omega) (by omega), and255 (by omega) (by omega), and255 (by omega) (by omega), w64 (by omega) (by omega), w64 (by omega) (by omega), w64 (by omega) (by omega)]
  exact ⟨rfl, rfl, rfl, rfl⟩

set_option maxHeartbeats 400000 in
theorem refparts1 (c : Int) (w : World) (hc : C32 c) :
    Calls Try.prog 58 #[.int .u32 c] w (Rt w (.agg #[.int .i64 (pA c), .int .i64 (pR c), .int .i64 (pG c), .int .i64 (pB c)])) := by
  obtain ⟨hc0, hc1⟩ := hc
  go_enter Try.func58, Try.ntmps58
  go_wp2
  go_returns
  exact Rt.agg4 ⟨rfl, rfl, rfl, rfl⟩ ((Gr.refl _).alloc _)

set_option maxHeartbeats 400000 in
theorem refmake1 (a r g b : Int) (w : World) :
    Calls Try.prog 55 #[.int .i64 a, .int .i64 r, .int .i64 g, .int .i64 b] w (Rt w (.int .u32 (mk a r g b))) := by
  have h1 := cl_by a; have h2 := cl_by r; have h3 := cl_by g; have h4 := cl_by b
  unfold By cl at h1 h2 h3 h4
  go_enter Try.func55, Try.ntmps55
  go_wp2
  go_ret
  exact ⟨rfl, Gr.refl _⟩

def mayC (c : Int) : Bool := decide (pR c ≤ pA c ∧ pG c ≤ pA c ∧ pB c ≤ pA c)

def gd (c : Int) : Int := mk (pA c) (min (pR c) (pA c)) (min (pG c) (pA c)) (min (pB c) (pA c))

theorem cl_min (n : Int) : cl (min n 255) = cl n := by unfold cl; omega

theorem cl_cl (n : Int) : cl (cl n) = cl n := by unfold cl; omega

theorem run_max3 {P : Program} {w : World} (ts : Array TypeId) (t : TypeId) (x y z : Int) : (Builtin.max_ ts t #[.int .i64 x, .int .i64 y, .int .i64 z]).run P w = .ok (.int .i64 (max (max x y) z)) w := by
  rw [run_max_int3]
  congr 2
  repeat' split
  all_goals omega

attribute [local go_sem ↓] run_max3

theorem may_l (c : Int) : decide (max (max (pR c) (pG c)) (pB c) ≤ pA c) = mayC c := by unfold mayC; rw [Bool.eq_iff_iff]; simp; omega

set_option maxHeartbeats 400000 in
theorem cmay1 (c : Int) (w : World) (hc : C32 c) :
    Calls Try.prog 47 #[.int .u32 c] w (Rt w (.bool (mayC c))) := by
  have ep := fun w => parts1 c w hc
  unfold mayC
  clear hc
  generalize pA c = a at *; generalize pR c = r at *; generalize pG c = g at *; generalize pB c = b at *
  go_enter Try.func47, Try.ntmps47
  go_wp2_with fail
  refine (ep _).mono ?_
  rintro e w1 ⟨rfl, g1⟩
  go_wp2
  all_goals
    go_ret
    refine Rt.bool ?_ (g1.alloc _)
    simp <;> omega

set_option maxHeartbeats 400000 in
theorem refcmay1 (c : Int) (w : World) (hc : C32 c) :
    Calls Try.prog 44 #[.int .u32 c] w (Rt w (.bool (mayC c))) := by
  have ep := fun w => refparts1 c w hc
  unfold mayC
  clear hc
  generalize pA c = a at *; generalize pR c = r at *; generalize pG c = g at *; generalize pB c = b at *
  go_enter Try.func44, Try.ntmps44
  go_wp2_with fail
  refine (ep _).mono ?_
  rintro e w1 ⟨rfl, g1⟩
  go_wp2
  all_goals
    go_ret
    refine Rt.bool ?_ (g1.alloc _)
    simp <;> omega

set_option maxHeartbeats 400000 in
theorem csolid1 (c : Int) (w : World) (hc : C32 c) :
    Calls Try.prog 59 #[.int .u32 c] w (Rt w (.bool (pA c == 255))) := by
  have ep := fun w => parts1 c w hc
  clear hc
  generalize pA c = a at *; generalize pR c = r at *; generalize pG c = g at *; generalize pB c = b at *
  have i0 : ∀ w, (Instr.index 94 (.agg #[.int .i64 a, .int .i64 r, .int .i64 g, .int .i64 b]) (.int .i64 0)).run Try.prog w = .ok (.int .i64 a) w := fun _ => by kernel_rfl
  go_enter Try.func59, Try.ntmps59
  go_wp2_with fail
  refine (ep _).mono ?_
  rintro e w1 ⟨rfl, g1⟩
  go_wp2
  go_ret
  exact ⟨rfl, g1⟩

set_option maxHeartbeats 400000 in
theorem cgood1 (c : Int) (w : World) (hc : C32 c) :
    Calls Try.prog 42 #[.int .u32 c] w (Rt w (.int .u32 (gd c))) := by
  have ep := fun w => refparts1 c w hc
  unfold gd
  clear hc
  generalize pA c = a at *; generalize pR c = r at *; generalize pG c = g at *; generalize pB c = b at *
  go_enter Try.func42, Try.ntmps42
  go_wp2_with fail
  refine (ep _).mono ?_
  rintro e w1 ⟨rfl, g1⟩
  go_wp2_with fail
  refine (refmake1 _ _ _ _ _).mono ?_
  rintro e w2 ⟨rfl, g2⟩
  go_wp2
  go_ret
  exact ⟨rfl, (g1.alloc _).trans g2⟩

theorem cl_mono {a b : Int} (h : a ≤ b) : cl a ≤ cl b := by unfold cl; omega

theorem may_mk (a r g b : Int) : mayC (mk a r g b) = decide (cl r ≤ cl a ∧ cl g ≤ cl a ∧ cl b ≤ cl a) := by unfold mayC; rw [pA_mk, pR_mk, pG_mk, pB_mk]

theorem may_gd (c : Int) : mayC (gd c) = true := by
  unfold gd; rw [may_mk]
  exact decide_eq_true ⟨cl_mono (by omega), cl_mono (by omega), cl_mono (by omega)⟩

theorem gd_c32 (c : Int) : C32 (gd c) := mk_c32 _ _ _ _

end Go.Proofs.Ytlbpeogjedjpnaa
