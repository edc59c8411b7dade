/-
  What is proved: what the small calls of package color hand back, and the document's.
-/
import Derived.Test.YtafceieenhogpaaGr
import Derived.IntWalk
import Derived.Laws.BitsAllLaws
import Derived.Lib.Hide
import Derived.Handy
namespace Go.Proofs.Ytafceieenhogpaa
open Go.RowKit Go.Sort

def C32 (c : Int) : Prop := 0 ≤ c ∧ c ≤ 4294967295
def pA (c : Int) : Int := c / 16777216
def pR (c : Int) : Int := c / 65536 % 256
def pG (c : Int) : Int := c / 256 % 256
def pB (c : Int) : Int := c % 256
def cl (n : Int) : Int := min (max n 0) 255
def mk (a r g b : Int) : Int := cl a * 16777216 + cl r * 65536 + cl g * 256 + cl b
def pt (p q : Int) : Int := (cl p * cl q + 127) / 255
def By (n : Int) : Prop := 0 ≤ n ∧ n ≤ 255

theorem cl_by (n : Int) : By (cl n) := by unfold By cl; omega
theorem cl_of {n : Int} (h : By n) : cl n = n := by unfold By at h; unfold cl; omega
theorem pA_by {c : Int} (h : C32 c) : By (pA c) := by unfold C32 at h; unfold By pA; omega
theorem pR_by (c : Int) : By (pR c) := by unfold By pR; omega
theorem pG_by (c : Int) : By (pG c) := by unfold By pG; omega
theorem pB_by (c : Int) : By (pB c) := by unfold By pB; omega
theorem mk_c32 (a r g b : Int) : C32 (mk a r g b) := by
  have h1 := cl_by a; have h2 := cl_by r; have h3 := cl_by g; have h4 := cl_by b
  unfold By at *; unfold C32 mk; omega
theorem pA_mk (a r g b : Int) : pA (mk a r g b) = cl a := by
  have h1 := cl_by a; have h2 := cl_by r; have h3 := cl_by g; have h4 := cl_by b
  unfold By at *; unfold pA mk; omega
theorem pR_mk (a r g b : Int) : pR (mk a r g b) = cl r := by
  have h1 := cl_by a; have h2 := cl_by r; have h3 := cl_by g; have h4 := cl_by b
  unfold By at *; unfold pR mk; omega
theorem pG_mk (a r g b : Int) : pG (mk a r g b) = cl g := by
  have h1 := cl_by a; have h2 := cl_by r; have h3 := cl_by g; have h4 := cl_by b
  unfold By at *; unfold pG mk; omega
theorem pB_mk (a r g b : Int) : pB (mk a r g b) = cl b := by
  have h1 := cl_by a; have h2 := cl_by r; have h3 := cl_by g; have h4 := cl_by b
  unfold By at *; unfold pB mk; omega
theorem mk_parts {c : Int} (h : C32 c) : mk (pA c) (pR c) (pG c) (pB c) = c := by
  have h1 := pA_by h
  unfold mk
  rw [cl_of h1, cl_of (pR_by c), cl_of (pG_by c), cl_of (pB_by c)]
  unfold C32 at h; unfold pA pR pG pB; omega
/-- Products of parts. -/
theorem mul_by {a b : Int} (ha : By a) (hb : By b) : 0 ≤ a * b ∧ a * b ≤ 65025 := by
  unfold By at *
  refine ⟨Int.mul_nonneg ha.1 hb.1, ?_⟩
  exact Int.le_trans (Int.mul_le_mul ha.2 hb.2 hb.1 (by omega)) (by omega)
theorem pt_by (p q : Int) : By (pt p q) := by
  have h := mul_by (cl_by p) (cl_by q)
  unfold By pt; omega
theorem and255 {x : Int} (h0 : 0 ≤ x) (h1 : x ≤ 4294967295) : bits .and .u32 x 255 = x % 256 :=
  bits_mask .u32 32 (by decide) (fun n h h' => by rw [IntKind.wrap_u32]; omega) 8 (by decide) x h0 (by omega)
theorem or256 {x y : Int} (h0 : 0 ≤ x) (h1 : x ≤ 16777215) (h2 : 0 ≤ y) (h3 : y ≤ 255) : bits .or .u32 (x * 256) y = x * 256 + y :=
  bits_join .u32 32 (by decide) (fun n h h' => by rw [IntKind.wrap_u32]; omega) 8 (x * 256) y (by omega) (by omega) (by omega) h2 (by omega) (by omega)
theorem w64 {x : Int} (h0 : 0 ≤ x) (h1 : x ≤ 4294967295) : wrap64 x = x := by unfold wrap64; omega

theorem Rt.agg4 {w w' : World} {a b c d a' b' c' d' : Int} (h : a = a' ∧ b = b' ∧ c = c' ∧ d = d') (hg : Gr w w') :
    Rt w (.agg #[.int .i64 a', .int .i64 b', .int .i64 c', .int .i64 d']) (.returned (.agg #[.int .i64 a, .int .i64 b, .int .i64 c, .int .i64 d])) w' := by
  obtain ⟨rfl, rfl, rfl, rfl⟩ := h; exact ⟨rfl, hg⟩

attribute [local go_sem ↓] run_min2 run_max2

set_option maxHeartbeats 400000 in
theorem cnear1 (n : Int) (w : World) :
    Calls Try.prog 121 #[.int .i64 n] w (Rt w (.int .i64 (cl n))) := by
  go_enter Try.func121, Try.ntmps121
  go_wp2
  go_ret
  exact ⟨rfl, Gr.refl _⟩

set_option maxHeartbeats 400000 in
theorem parts1 (c : Int) (w : World) (hc : C32 c) :
    Calls Try.prog 89 #[.int .u32 c] w (Rt w (.agg #[.int .i64 (pA c), .int .i64 (pR c), .int .i64 (pG c), .int .i64 (pB c)])) := by
  obtain ⟨hc0, hc1⟩ := hc
  go_enter Try.func89, Try.ntmps89
  go_wp2
  go_returns
  refine Rt.agg4 ?_ ((Gr.refl _).alloc _)
  rw [and255 (by omega) (by omega), and255 (by omega) (by omega), and255 (by omega) (by omega), w64 (by omega) (by omega), w64 (by omega) (by omega), w64 (by omega) (by omega)]
  exact ⟨rfl, rfl, rfl, rfl⟩

set_option maxHeartbeats 400000 in
theorem refparts1 (c : Int) (w : World) (hc : C32 c) :
    Calls Try.prog 74 #[.int .u32 c] w (Rt w (.agg #[.int .i64 (pA c), .int .i64 (pR c), .int .i64 (pG c), .int .i64 (pB c)])) := by
  obtain ⟨hc0, hc1⟩ := hc
  go_enter Try.func74, Try.ntmps74
  go_wp2
  go_returns
  exact Rt.agg4 ⟨rfl, rfl, rfl, rfl⟩ ((Gr.refl _).alloc _)

set_option maxHeartbeats 400000 in
theorem refpart1 (p q : Int) (w : World) :
    Calls Try.prog 95 #[.int .i64 p, .int .i64 q] w (Rt w (.int .i64 (pt p q))) := by
  have h := mul_by (cl_by p) (cl_by q)
  unfold cl at h
  obtain ⟨h1, h2⟩ := h
  go_enter Try.func95, Try.ntmps95
  go_wp2
  go_ret
  exact ⟨rfl, Gr.refl _⟩

set_option maxHeartbeats 400000 in
theorem part1 (p q : Int) (w : World) :
    Calls Try.prog 111 #[.int .i64 p, .int .i64 q] w (Rt w (.int .i64 (pt p q))) := by
  obtain ⟨h1, h2⟩ := mul_by (cl_by p) (cl_by q)
  go_enter Try.func111, Try.ntmps111
  go_wp2_with fail
  refine (cnear1 _ _).mono ?_
  rintro e w1 ⟨rfl, g1⟩
  go_wp2_with fail
  refine (cnear1 _ _).mono ?_
  rintro e w2 ⟨rfl, g2⟩
  go_wp2
  go_ret
  exact ⟨rfl, g1.trans g2⟩

set_option maxHeartbeats 400000 in
theorem refmake1 (a r g b : Int) (w : World) :
    Calls Try.prog 70 #[.int .i64 a, .int .i64 r, .int .i64 g, .int .i64 b] w (Rt w (.int .u32 (mk a r g b))) := by
  have h1 := cl_by a; have h2 := cl_by r; have h3 := cl_by g; have h4 := cl_by b
  unfold By cl at h1 h2 h3 h4
  go_enter Try.func70, Try.ntmps70
  go_wp2
  go_ret
  exact ⟨rfl, Gr.refl _⟩

/-- A function value that is called with one int. -/
def KcC (g : FuncId) : Prop := ∀ (args : Array Value) (w : World), Sem.run Try.prog (callFunc g args) w = Result.ok (Next.enter g args) w

set_option maxHeartbeats 2000000 in
theorem each1 (g : FuncId) (cap : Array Value) (F : Int → Int) (w : World) (hg : KcC g) (hc : ∀ (i : Int) (w' : World), 0 ≤ i → i < 4 → Gr w w' → Calls Try.prog g (#[.int .i64 i] ++ cap) w' (Rt w' (.int .i64 (F i)))) :
    Calls Try.prog 109 #[.func (.func g) #[] cap] w (Rt w (.int .u32 (mk (F 0) (F 1) (F 2) (F 3)))) := by
  unfold KcC at hg
  have n0 := cnear1 (F 0); have n1 := cnear1 (F 1); have n2 := cnear1 (F 2); have n3 := cnear1 (F 3)
  have b0 := cl_by (F 0); have b1 := cl_by (F 1); have b2 := cl_by (F 2); have b3 := cl_by (F 3)
  unfold mk
  have k0 := fun w' => hc 0 w' (by decide) (by decide); have k1 := fun w' => hc 1 w' (by decide) (by decide); have k2 := fun w' => hc 2 w' (by decide) (by decide); have k3 := fun w' => hc 3 w' (by decide) (by decide)
  clear hc
  generalize cl (F 0) = f0 at *; generalize cl (F 1) = f1 at *; generalize cl (F 2) = f2 at *; generalize cl (F 3) = f3 at *
  generalize F 0 = F0 at *; generalize F 1 = F1 at *; generalize F 2 = F2 at *; generalize F 3 = F3 at *
  unfold By at b0 b1 b2 b3
  obtain ⟨b00, b01⟩ := b0; obtain ⟨b10, b11⟩ := b1; obtain ⟨b20, b21⟩ := b2; obtain ⟨b30, b31⟩ := b3
  have e0 : bits .or .u32 0 f0 = f0 := by have := or256 (x := 0) (y := f0) (by omega) (by omega) b00 b01; simpa using this
  have e1 : bits .or .u32 (f0 * 256) f1 = f0 * 256 + f1 := or256 (by omega) (by omega) b10 b11
  obtain ⟨c1, hc1⟩ : ∃ c, c = f0 * 256 + f1 := ⟨_, rfl⟩
  rw [← hc1] at e1
  have d10 : 0 ≤ c1 := by omega
  have d11 : c1 ≤ 65535 := by omega
  have e2 : bits .or .u32 (c1 * 256) f2 = c1 * 256 + f2 := or256 (by omega) (by omega) b20 b21
  obtain ⟨c2, hc2⟩ : ∃ c, c = c1 * 256 + f2 := ⟨_, rfl⟩
  rw [← hc2] at e2
  have d20 : 0 ≤ c2 := by omega
  have d21 : c2 ≤ 16777215 := by omega
  have e3 : bits .or .u32 (c2 * 256) f3 = c2 * 256 + f3 := or256 (by omega) (by omega) b30 b31
  obtain ⟨c3, hc3⟩ : ∃ c, c = c2 * 256 + f3 := ⟨_, rfl⟩
  rw [← hc3] at e3
  have he : c3 = f0 * 16777216 + f1 * 65536 + f2 * 256 + f3 := by omega
  rw [← he]
  clear he hc1 hc2 hc3
  go_enter Try.func109, Try.ntmps109
  go_wp2
  refine wp_loop_rounds 5 ?_
  rw [rounds_succ]; go_wp2_with fail
  refine (k0 _ (Gr.refl _)).mono ?_
  rintro e u0 ⟨rfl, g0⟩
  skip
  go_wp2_with fail
  refine (n0 _).mono ?_
  rintro e v0 ⟨rfl, q0⟩
  replace q0 := g0.trans q0
  clear g0
  go_wp2_with fail
  rw [rounds_succ]; go_wp2_with fail
  refine (k1 _ q0).mono ?_
  rintro e u1 ⟨rfl, g1⟩
  replace g1 := q0.trans g1
  clear q0
  go_wp2_with fail
  refine (n1 _).mono ?_
  rintro e v1 ⟨rfl, q1⟩
  replace q1 := g1.trans q1
  clear g1
  go_wp2_with fail
  rw [rounds_succ]; go_wp2_with fail
  refine (k2 _ q1).mono ?_
  rintro e u2 ⟨rfl, g2⟩
  replace g2 := q1.trans g2
  clear q1
  go_wp2_with fail
  refine (n2 _).mono ?_
  rintro e v2 ⟨rfl, q2⟩
  replace q2 := g2.trans q2
  clear g2
  go_wp2_with fail
  rw [rounds_succ]; go_wp2_with fail
  refine (k3 _ q2).mono ?_
  rintro e u3 ⟨rfl, g3⟩
  replace g3 := q2.trans g3
  clear q2
  go_wp2_with fail
  refine (n3 _).mono ?_
  rintro e v3 ⟨rfl, q3⟩
  replace q3 := g3.trans q3
  clear g3
  go_wp2_with fail
  rw [rounds_succ]; go_wp2
  go_ret
  exact ⟨rfl, q3⟩

end Go.Proofs.Ytafceieenhogpaa
