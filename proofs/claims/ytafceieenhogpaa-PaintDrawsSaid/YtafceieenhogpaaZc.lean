/-
  What is proved: what the small calls of package color hand back, and the document's. what the calls of package color hand back, and the document's. what more calls of package color, and the document's, hand back. what the document's 'over' hands back. how parts of colors, colors one over the other and faded ones go together: plain arithmetic. nothing of its own: it hands on the calls of package color. No conditions.
-/
import Derived.Test.YtafceieenhogpaaZa
import Derived.IntWalk
import Derived.Laws.BitsAllLaws
import Derived.Lib.Hide
import Derived.Handy
import Derived.StillTailTactics
import Derived.Deep.QuietTactic
import Derived.BigQuiet
import Derived.Deep.RegionHeld3
import Derived.Laws.Cover1
import Derived.Lib.SmallJoins
namespace Go.Proofs.Ytafceieenhogpaa
open Go.RowKit Go.Sort

def C32 (c : Int) : Prop := 0 ≤ c ∧ c ≤ 4294967295
def pA (c : Int) : Int := c / 16777216
def pR (c : Int) : Int := c / 65536 % 256
def pG (c : Int) : Int := c / 256 % 256
def pB (c : Int) : Int := c % 256
def cl (n : Int) : Int := min (max n 0) 255
def mk (a r g b : Int) : Int := cl a * 16777216 + cl r * 65536 + cl g * 256 + cl b
def pt (p q : Int) : Int := (cl p * cl q + 127) / 255
def By (n : Int) : Prop := 0 ≤ n ∧ n ≤ 255

theorem cl_by (n : Int) : By (cl n) := by unfold By cl; omega
theorem cl_of {n : Int} (h : By n) : cl n = n := by unfold By at h; unfold cl; omega
theorem pA_by {c : Int} (h : C32 c) : By (pA c) := by unfold C32 at h; unfold By pA; omega
theorem pR_by (c : Int) : By (pR c) := by unfold By pR; omega
theorem pG_by (c : Int) : By (pG c) := by unfold By pG; omega
theorem pB_by (c : Int) : By (pB c) := by unfold By pB; omega
theorem mk_c32 (a r g b : Int) : C32 (mk a r g b) := by
  have h1 := cl_by a; have h2 := cl_by r; have h3 := cl_by g; have h4 := cl_by b
  unfold By at *; unfold C32 mk; omega
theorem pA_mk (a r g b : Int) : pA (mk a r g b) = cl a := by
  have h1 := cl_by a; have h2 := cl_by r; have h3 := cl_by g; have h4 := cl_by b
  unfold By at *; unfold pA mk; omega
theorem pR_mk (a r g b : Int) : pR (mk a r g b) = cl r := by
  have h1 := cl_by a; have h2 := cl_by r; have h3 := cl_by g; have h4 := cl_by b
  unfold By at *; unfold pR mk; omega
theorem pG_mk (a r g b : Int) : pG (mk a r g b) = cl g := by
  have h1 := cl_by a; have h2 := cl_by r; have h3 := cl_by g; have h4 := cl_by b
  unfold By at *; unfold pG mk; omega
theorem pB_mk (a r g b : Int) : pB (mk a r g b) = cl b := by
  have h1 := cl_by a; have h2 := cl_by r; have h3 := cl_by g; have h4 := cl_by b
  unfold By at *; unfold pB mk; omega
theorem mk_parts {c : Int} (h : C32 c) : mk (pA c) (pR c) (pG c) (pB c) = c := by
  have h1 := pA_by h
  unfold mk
  rw [cl_of h1, cl_of (pR_by c), cl_of (pG_by c), cl_of (pB_by c)]
  unfold C32 at h; unfold pA pR pG pB; omega
/-- Products of parts. -/
theorem mul_by {a b : Int} (ha : By a) (hb : By b) : 0 ≤ a * b ∧ a * b ≤ 65025 := by
  unfold By at *
  refine ⟨Int.mul_nonneg ha.1 hb.1, ?_⟩
  exact Int.le_trans (Int.mul_le_mul ha.2 hb.2 hb.1 (by omega)) (by omega)
theorem pt_by (p q : Int) : By (pt p q) := by
  have h := mul_by (cl_by p) (cl_by q)
  unfold By pt; omega
theorem and255 {x : Int} (h0 : 0 ≤ x) (h1 : x ≤ 4294967295) : bits .and .u32 x 255 = x % 256 :=
  bits_mask .u32 32 (by decide) (fun n h h' => by rw [IntKind.wrap_u32]; omega) 8 (by decide) x h0 (by omega)
theorem or256 {x y : Int} (h0 : 0 ≤ x) (h1 : x ≤ 16777215) (h2 : 0 ≤ y) (h3 : y ≤ 255) : bits .or .u32 (x * 256) y = x * 256 + y :=
  bits_join .u32 32 (by decide) (fun n h h' => by rw [IntKind.wrap_u32]; omega) 8 (x * 256) y (by omega) (by omega) (by omega) h2 (by omega) (by omega)
theorem w64 {x : Int} (h0 : 0 ≤ x) (h1 : x ≤ 4294967295) : wrap64 x = x := by unfold wrap64; omega

theorem Rt.agg4 {w w' : World} {a b c d a' b' c' d' : Int} (h : a = a' ∧ b = b' ∧ c = c' ∧ d = d') (hg : Gr w w') :
    Rt w (.agg #[.int .i64 a', .int .i64 b', .int .i64 c', .int .i64 d']) (.returned (.agg #[.int .i64 a, .int .i64 b, .int .i64 c, .int .i64 d])) w' := by
  obtain ⟨rfl, rfl, rfl, rfl⟩ := h; exact ⟨rfl, hg⟩

attribute [local go_sem ↓] run_min2 run_max2

set_option maxHeartbeats 400000 in
theorem cnear1 (n : Int) (w : World) :
    Calls Try.prog 121 #[.int .i64 n] w (Rt w (.int .i64 (cl n))) := by
  go_enter Try.func121, Try.ntmps121
  go_wp2
  go_ret
  exact ⟨rfl, Gr.refl _⟩

set_option maxHeartbeats 400000 in
theorem parts1 (c : Int) (w : World) (hc : C32 c) :
    Calls Try.prog 89 #[.int .u32 c] w (Rt w (.agg #[.int .i64 (pA c), .int .i64 (pR c), .int .i64 (pG c), .int .i64 (pB c)])) := by
  obtain ⟨hc0, hc1⟩ := hc
  go_enter Try.func89, Try.ntmps89
  go_wp2
  go_returns
  refine Rt.agg4 ?_ ((Gr.refl _).alloc _)
  rw [and255 (by omega) (by omega), and255 (by omega) (by omega), and255 (by omega) (by omega), w64 (by omega) (by omega), w64 (by omega) (by omega), w64 (by omega) (by omega)]
  exact ⟨rfl, rfl, rfl, rfl⟩

set_option maxHeartbeats 400000 in
theorem refparts1 (c : Int) (w : World) (hc : C32 c) :
    Calls Try.prog 74 #[.int .u32 c] w (Rt w (.agg #[.int .i64 (pA c), .int .i64 (pR c), .int .i64 (pG c), .int .i64 (pB c)])) := by
  obtain ⟨hc0, hc1⟩ := hc
  go_enter Try.func74, Try.ntmps74
  go_wp2
  go_returns
  exact Rt.agg4 ⟨rfl, rfl, rfl, rfl⟩ ((Gr.refl _).alloc _)

set_option maxHeartbeats 400000 in
theorem refpart1 (p q : Int) (w : World) :
    Calls Try.prog 95 #[.int .i64 p, .int .i64 q] w (Rt w (.int .i64 (pt p q))) := by
  have h := mul_by (cl_by p) (cl_by q)
  unfold cl at h
  obtain ⟨h1, h2⟩ := h
  go_enter Try.func95, Try.ntmps95
  go_wp2
  go_ret
  exact ⟨rfl, Gr.refl _⟩

set_option maxHeartbeats 400000 in
theorem part1 (p q : Int) (w : World) :
    Calls Try.prog 111 #[.int .i64 p, .int .i64 q] w (Rt w (.int .i64 (pt p q))) := by
  obtain ⟨h1, h2⟩ := mul_by (cl_by p) (cl_by q)
  go_enter Try.func111, Try.ntmps111
  go_wp2_with fail
  refine (cnear1 _ _).mono ?_
  rintro e w1 ⟨rfl, g1⟩
  go_wp2_with fail
  refine (cnear1 _ _).mono ?_
  rintro e w2 ⟨rfl, g2⟩
  go_wp2
  go_ret
  exact ⟨rfl, g1.trans g2⟩

set_option maxHeartbeats 400000 in
theorem refmake1 (a r g b : Int) (w : World) :
    Calls Try.prog 70 #[.int .i64 a, .int .i64 r, .int .i64 g, .int .i64 b] w (Rt w (.int .u32 (mk a r g b))) := by
  have h1 := cl_by a; have h2 := cl_by r; have h3 := cl_by g; have h4 := cl_by b
  unfold By cl at h1 h2 h3 h4
  go_enter Try.func70, Try.ntmps70
  go_wp2
  go_ret
  exact ⟨rfl, Gr.refl _⟩

/-- A function value that is called with one int. -/
def KcC (g : FuncId) : Prop := ∀ (args : Array Value) (w : World), Sem.run Try.prog (callFunc g args) w = Result.ok (Next.enter g args) w

set_option maxHeartbeats 2000000 in
theorem each1 (g : FuncId) (cap : Array Value) (F : Int → Int) (w : World) (hg : KcC g) (hc : ∀ (i : Int) (w' : World), 0 ≤ i → i < 4 → Gr w w' → Calls Try.prog g (#[.int .i64 i] ++ cap) w' (Rt w' (.int .i64 (F i)))) :
    Calls Try.prog 109 #[.func (.func g) #[] cap] w (Rt w (.int .u32 (mk (F 0) (F 1) (F 2) (F 3)))) := by
  unfold KcC at hg
  have n0 := cnear1 (F 0); have n1 := cnear1 (F 1); have n2 := cnear1 (F 2); have n3 := cnear1 (F 3)
  have b0 := cl_by (F 0); have b1 := cl_by (F 1); have b2 := cl_by (F 2); have b3 := cl_by (F 3)
  unfold mk
  have k0 := fun w' => hc 0 w' (by decide) (by decide); have k1 := fun w' => hc 1 w' (by decide) (by decide); have k2 := fun w' => hc 2 w' (by decide) (by decide); have k3 := fun w' => hc 3 w' (by decide) (by decide)
  clear hc
  generalize cl (F 0) = f0 at *; generalize cl (F 1) = f1 at *; generalize cl (F 2) = f2 at *; generalize cl (F 3) = f3 at *
  generalize F 0 = F0 at *; generalize F 1 = F1 at *; generalize F 2 = F2 at *; generalize F 3 = F3 at *
  unfold By at b0 b1 b2 b3
  obtain ⟨b00, b01⟩ := b0; obtain ⟨b10, b11⟩ := b1; obtain ⟨b20, b21⟩ := b2; obtain ⟨b30, b31⟩ := b3
  have e0 : bits .or .u32 0 f0 = f0 := by have := or256 (x := 0) (y := f0) (by omega) (by omega) b00 b01; simpa using this
  have e1 : bits .or .u32 (f0 * 256) f1 = f0 * 256 + f1 := or256 (by omega) (by omega) b10 b11
  obtain ⟨c1, hc1⟩ : ∃ c, c = f0 * 256 + f1 := ⟨_, rfl⟩
  rw [← hc1] at e1
  have d10 : 0 ≤ c1 := by omega
  have d11 : c1 ≤ 65535 := by omega
  have e2 : bits .or .u32 (c1 * 256) f2 = c1 * 256 + f2 := or256 (by omega) (by omega) b20 b21
  obtain ⟨c2, hc2⟩ : ∃ c, c = c1 * 256 + f2 := ⟨_, rfl⟩
  rw [← hc2] at e2
  have d20 : 0 ≤ c2 := by omega
  have d21 : c2 ≤ 16777215 := by omega
  have e3 : bits .or .u32 (c2 * 256) f3 = c2 * 256 + f3 := or256 (by omega) (by omega) b30 b31
  obtain ⟨c3, hc3⟩ : ∃ c, c = c2 * 256 + f3 := ⟨_, rfl⟩
  rw [← hc3] at e3
  have he : c3 = f0 * 16777216 + f1 * 65536 + f2 * 256 + f3 := by omega
  rw [← he]
  clear he hc1 hc2 hc3
  go_enter Try.func109, Try.ntmps109
  go_wp2
  refine wp_loop_rounds 5 ?_
  rw [rounds_succ]; go_wp2_with fail
  refine (k0 _ (Gr.refl _)).mono ?_
  rintro e u0 ⟨rfl, g0⟩
  skip
  go_wp2_with fail
  refine (n0 _).mono ?_
  rintro e v0 ⟨rfl, q0⟩
  replace q0 := g0.trans q0
  clear g0
  go_wp2_with fail
  rw [rounds_succ]; go_wp2_with fail
  refine (k1 _ q0).mono ?_
  rintro e u1 ⟨rfl, g1⟩
  replace g1 := q0.trans g1
  clear q0
  go_wp2_with fail
  refine (n1 _).mono ?_
  rintro e v1 ⟨rfl, q1⟩
  replace q1 := g1.trans q1
  clear g1
  go_wp2_with fail
  rw [rounds_succ]; go_wp2_with fail
  refine (k2 _ q1).mono ?_
  rintro e u2 ⟨rfl, g2⟩
  replace g2 := q1.trans g2
  clear q1
  go_wp2_with fail
  refine (n2 _).mono ?_
  rintro e v2 ⟨rfl, q2⟩
  replace q2 := g2.trans q2
  clear g2
  go_wp2_with fail
  rw [rounds_succ]; go_wp2_with fail
  refine (k3 _ q2).mono ?_
  rintro e u3 ⟨rfl, g3⟩
  replace g3 := q2.trans g3
  clear q2
  go_wp2_with fail
  refine (n3 _).mono ?_
  rintro e v3 ⟨rfl, q3⟩
  replace q3 := g3.trans q3
  clear g3
  go_wp2_with fail
  rw [rounds_succ]; go_wp2
  go_ret
  exact ⟨rfl, q3⟩

end Go.Proofs.Ytafceieenhogpaa
namespace Go.Proofs.Ytafceieenhogpaa
open Go.RowKit Go.Sort

def ix (a b c d i : Int) : Int := if i = 0 then a else if i = 1 then b else if i = 2 then c else d
theorem ix0 (a b c d : Int) : ix a b c d 0 = a := rfl
theorem ix1 (a b c d : Int) : ix a b c d 1 = b := rfl
theorem ix2 (a b c d : Int) : ix a b c d 2 = c := rfl
theorem ix3 (a b c d : Int) : ix a b c d 3 = d := rfl
theorem four {i : Int} (h0 : 0 ≤ i) (h1 : i < 4) : i = 0 ∨ i = 1 ∨ i = 2 ∨ i = 3 := by omega

def ovc (pa p q : Int) : Int := p + pt q (255 - pa)
def ov (c d : Int) : Int := mk (ovc (pA c) (pA c) (pA d)) (ovc (pA c) (pR c) (pR d)) (ovc (pA c) (pG c) (pG d)) (ovc (pA c) (pB c) (pB d))
def fd (c al : Int) : Int := mk (pt (pA c) al) (pt (pR c) al) (pt (pG c) al) (pt (pB c) al)
def pre (a r g b : Int) : Int := mk a (pt r a) (pt g a) (pt b a)
def mayC (c : Int) : Bool := decide (pR c ≤ pA c ∧ pG c ≤ pA c ∧ pB c ≤ pA c)
def gd (c : Int) : Int := mk (pA c) (min (pR c) (pA c)) (min (pG c) (pA c)) (min (pB c) (pA c))

theorem cl_ovc {pa p q : Int} (ha : By pa) (hp : By p) : By pa ∧ 0 ≤ ovc pa p q ∧ ovc pa p q ≤ 510 := by
  have := pt_by q (255 - pa)
  unfold By at *; unfold ovc; omega

attribute [local go_sem ↓] run_min2 run_max2

theorem kcOver : KcC 110 := fun _ _ => by kernel_rfl
theorem kcFade : KcC 112 := fun _ _ => by kernel_rfl

theorem ix_cell {w : World} {k : Nat} {t : TypeId} {a b c d : Int} (hA : At w k #[.int .i64 a, .int .i64 b, .int .i64 c, .int .i64 d] t) {i : Nat} (h : i < 4) (n : Nat) (os : Array Obj) :
    (grow (w.drewN n) os).cell? ⟨k, i, none⟩ = some (.int .i64 (ix a b c d i)) := by
  rw [hA.cells n os i]
  obtain rfl | rfl | rfl | rfl : i = 0 ∨ i = 1 ∨ i = 2 ∨ i = 3 := by omega
  all_goals rfl
theorem ix_by {a b c d : Int} (ha : By a) (hb : By b) (hc : By c) (hd : By d) (i : Int) : By (ix a b c d i) := by unfold ix; (repeat' split) <;> assumption
theorem ix_map (f : Int → Int → Int) (a b c d a' b' c' d' i : Int) : ix (f a a') (f b b') (f c c') (f d d') i = f (ix a b c d i) (ix a' b' c' d' i) := by unfold ix; (repeat' split) <;> rfl

set_option maxHeartbeats 1000000 in
theorem overc0 (x y r : Int) (i k k' k2 : Nat) (w : World) (hx : ∀ n os, (grow (w.drewN n) os).cell? ⟨k, i, none⟩ = some (.int .i64 x)) (hy : ∀ n os, (grow (w.drewN n) os).cell? ⟨k', i, none⟩ = some (.int .i64 y))
    (hr : ∀ n os, (grow (w.drewN n) os).cell? ⟨k2, 0, none⟩ = some (.int .i64 r)) (z : Int) (hz : pt y r = z) (h0 : 0 ≤ z) (h1 : z ≤ 255) (h2 : 0 ≤ x) (h3 : x ≤ 255) (h4 : i < 4) :
    Calls Try.prog 110 #[.int .i64 i, .pointer (some ⟨k, 0, none⟩), .pointer (some ⟨k', 0, none⟩), .pointer (some ⟨k2, 0, none⟩)] w
      (Rt w (.int .i64 (x + z))) := by
  have q := part1 y r
  rw [hz] at q
  clear hz
  have s0 : IntKind.i64.wrap (x + z) = x + z := IntWalk.i64_in _ (by omega)
  have s1 : (i : Int) < 4 := by omega
  go_enter Try.func110, Try.ntmps110
  go_wp2
  refine wp_region_quiet_grown (by kernel_rfl) (by kernel_rfl) ?_
  repeat (first | go_big_quiet_step ((go_at_call 111; exact Calls.grown (q _))) | quiet_step ((go_at_call 111; exact Calls.grown (q _))))
  refine wpQuiet_nil ?_
  intro W2 g8
  replace g8 : Gr _ W2 := g8
  go_wp2
  go_ret
  exact ⟨rfl, g8⟩
theorem overc1 (a b c d a' b' c' d' r i : Int) (k k' k2 : Nat) (t t' t2 : TypeId) (w : World) (hA : At w k #[.int .i64 a, .int .i64 b, .int .i64 c, .int .i64 d] t) (hB : At w k' #[.int .i64 a', .int .i64 b', .int .i64 c', .int .i64 d'] t')
    (hC : At w k2 #[.int .i64 (255 - r)] t2) (ha : By a) (hb : By b) (hc : By c) (hd : By d) (h0 : 0 ≤ i) (h1 : i < 4) :
    Calls Try.prog 110 #[.int .i64 i, .pointer (some ⟨k, 0, none⟩), .pointer (some ⟨k', 0, none⟩), .pointer (some ⟨k2, 0, none⟩)] w
      (Rt w (.int .i64 (ix (ovc r a a') (ovc r b b') (ovc r c c') (ovc r d d') i))) := by
  obtain ⟨j, rfl⟩ := Int.eq_ofNat_of_zero_le h0
  have hj : j < 4 := by omega
  rw [ix_map (ovc r)]
  have h := ix_by ha hb hc hd (j : Int)
  have h' := pt_by (ix a' b' c' d' (j : Int)) (255 - r)
  exact overc0 _ _ (255 - r) j k k' k2 w (ix_cell hA hj) (ix_cell hB hj) (fun n os => hC.cells n os 0) _ rfl h'.1 h'.2 h.1 h.2 hj

set_option maxHeartbeats 1000000 in
theorem fadec0 (x r : Int) (i k k2 : Nat) (w : World) (hx : ∀ n os, (grow (w.drewN n) os).cell? ⟨k, i, none⟩ = some (.int .i64 x))
    (hr : ∀ n os, (grow (w.drewN n) os).cell? ⟨k2, 0, none⟩ = some (.int .i64 r)) (h4 : i < 4) :
    Calls Try.prog 112 #[.int .i64 i, .pointer (some ⟨k, 0, none⟩), .pointer (some ⟨k2, 0, none⟩)] w
      (Rt w (.int .i64 (pt x r))) := by
  have q := part1 x r
  have s1 : (i : Int) < 4 := by omega
  go_enter Try.func112, Try.ntmps112
  go_wp2
  refine wp_region_quiet_grown (by kernel_rfl) (by kernel_rfl) ?_
  repeat (first | go_big_quiet_step ((go_at_call 111; exact Calls.grown (q _))) | quiet_step ((go_at_call 111; exact Calls.grown (q _))))
  refine wpQuiet_nil ?_
  intro W2 g8
  replace g8 : Gr _ W2 := g8
  go_wp2
  go_ret
  exact ⟨rfl, g8⟩
theorem fadec1 (a b c d r i : Int) (k k2 : Nat) (t t2 : TypeId) (w : World) (hA : At w k #[.int .i64 a, .int .i64 b, .int .i64 c, .int .i64 d] t)
    (hC : At w k2 #[.int .i64 r] t2) (h0 : 0 ≤ i) (h1 : i < 4) :
    Calls Try.prog 112 #[.int .i64 i, .pointer (some ⟨k, 0, none⟩), .pointer (some ⟨k2, 0, none⟩)] w
      (Rt w (.int .i64 (ix (pt a r) (pt b r) (pt c r) (pt d r) i))) := by
  obtain ⟨j, rfl⟩ := Int.eq_ofNat_of_zero_le h0
  have hj : j < 4 := by omega
  rw [ix_map (fun x _ => pt x r) a b c d a b c d]
  exact fadec0 _ r j k k2 w (ix_cell hA hj) (fun n os => hC.cells n os 0) hj

set_option maxHeartbeats 1000000 in
theorem over1 (c d : Int) (w : World) (hc : C32 c) (hd : C32 d) :
    Calls Try.prog 99 #[.int .u32 c, .int .u32 d] w (Rt w (.int .u32 (ov c d))) := by
  have b0 := pA_by hc; have b1 := pR_by c; have b2 := pG_by c; have b3 := pB_by c
  have m : 0 ≤ pA c ∧ pA c ≤ 255 := b0
  obtain ⟨m0, m1⟩ := m
  have ep := fun w => parts1 c w hc
  have eq := fun w => parts1 d w hd
  unfold ov
  clear hc hd
  generalize pA c = a at *; generalize pR c = r at *; generalize pG c = g at *; generalize pB c = b at *
  generalize pA d = a' at *; generalize pR d = r' at *; generalize pG d = g' at *; generalize pB d = b' at *
  go_enter Try.func99, Try.ntmps99
  go_wp2_with fail
  refine (ep _).mono ?_
  rintro e w1 ⟨rfl, g1⟩
  go_wp2_with fail
  refine (eq _).mono ?_
  rintro e w2 ⟨rfl, g2⟩
  replace g2 := g1.trans g2
  clear g1
  go_wp2_with fail
  refine (each1 110 _ (ix (ovc a a a') (ovc a r r') (ovc a g g') (ovc a b b')) _ kcOver (fun i w' h0 h1 gg => ?_)).mono ?_
  · exact overc1 a r g b a' r' g' b' a i _ _ _ _ _ _ w' ((((At.new w2 _ _).alloc _).alloc _).gr gg) (((At.newAt (w := w2.alloc _) (by simp) _ _).alloc _).gr gg) ((At.newAt (w := (w2.alloc _).alloc _) (by simp) _ _).gr gg) b0 b1 b2 b3 h0 h1
  · rintro e w' ⟨rfl, g3⟩
    go_wp2
    go_ret
    exact ⟨rfl, (((g2.alloc _).alloc _).alloc _).trans g3⟩

set_option maxHeartbeats 1000000 in
theorem fade1 (c al : Int) (w : World) (hc : C32 c) :
    Calls Try.prog 100 #[.int .u32 c, .int .i64 al] w (Rt w (.int .u32 (fd c al))) := by
  have ep := fun w => parts1 c w hc
  unfold fd
  clear hc
  generalize pA c = a at *; generalize pR c = r at *; generalize pG c = g at *; generalize pB c = b at *
  go_enter Try.func100, Try.ntmps100
  go_wp2_with fail
  refine (ep _).mono ?_
  rintro e w1 ⟨rfl, g1⟩
  have bx := (At.new w #[.int .i64 al] 3).gr g1
  replace g1 := ((Gr.refl w).alloc (.cells #[.int .i64 al] 3)).trans g1
  go_wp2_with fail
  refine (each1 112 _ (ix (pt a al) (pt r al) (pt g al) (pt b al)) _ kcFade (fun i w' h0 h1 gg => ?_)).mono ?_
  · exact fadec1 a r _ b al i _ _ _ _ w' ((At.new w1 _ _).gr gg) ((bx.alloc _).gr gg) h0 h1
  · rintro e w' ⟨rfl, g3⟩
    go_wp2
    go_ret
    exact ⟨rfl, (g1.alloc _).trans g3⟩

end Go.Proofs.Ytafceieenhogpaa
namespace Go.Proofs.Ytafceieenhogpaa
open Go.RowKit Go.Sort

attribute [local go_sem ↓] run_min2 run_max2

theorem cl_min (n : Int) : cl (min n 255) = cl n := by unfold cl; omega
theorem cl_cl (n : Int) : cl (cl n) = cl n := by unfold cl; omega
theorem cl_pt (p q : Int) : cl (pt p q) = pt p q := cl_of (pt_by p q)
theorem pt_cl (p q : Int) : pt (cl p) q = pt p q := by unfold pt; rw [cl_cl]
theorem pt_255 (q : Int) : pt 255 q = cl q := by unfold pt; rw [show cl 255 = 255 from rfl]; have := cl_by q; unfold By at this; omega
theorem pre_eq (a r g b : Int) : fd (mk 255 r g b) a = pre a r g b := by
  unfold fd pre
  rw [pA_mk, pR_mk, pG_mk, pB_mk, pt_cl, pt_cl, pt_cl, pt_cl, pt_255]
  unfold mk
  rw [cl_cl]

set_option maxHeartbeats 400000 in
theorem reffade1 (c al : Int) (w : World) (hc : C32 c) :
    Calls Try.prog 94 #[.int .u32 c, .int .i64 al] w (Rt w (.int .u32 (fd c al))) := by
  have ep := fun w => refparts1 c w hc
  unfold fd
  clear hc
  generalize pA c = a at *; generalize pR c = r at *; generalize pG c = g at *; generalize pB c = b at *
  go_enter Try.func94, Try.ntmps94
  go_wp2_with fail
  refine (ep _).mono ?_
  rintro e w1 ⟨rfl, g1⟩
  have bx := At.new w1 #[.int .i64 a, .int .i64 r, .int .i64 g, .int .i64 b] 114
  have k0 := fun n os => bx.cells n os 0; have k1 := fun n os => bx.cells n os 1; have k2 := fun n os => bx.cells n os 2; have k3 := fun n os => bx.cells n os 3
  simp at k0 k1 k2 k3
  replace g1 := g1.alloc (.cells #[.int .i64 a, .int .i64 r, .int .i64 g, .int .i64 b] 114)
  go_wp2
  obtain ⟨V, hV⟩ : ∃ V, V = w1.alloc (.cells #[.int .i64 a, .int .i64 r, .int .i64 g, .int .i64 b] 114) := ⟨_, rfl⟩
  rw [← hV] at k0 k1 k2 k3 g1 ⊢
  clear hV
  refine wp_region_quiet_grown (by kernel_rfl) (by kernel_rfl) ?_
  repeat (first | go_big_quiet_step (first | (go_at_call 95; exact Calls.grown (refpart1 _ _ _)) | (go_at_call 70; exact Calls.grown (refmake1 _ _ _ _ _))) | quiet_step (first | (go_at_call 95; exact Calls.grown (refpart1 _ _ _)) | (go_at_call 70; exact Calls.grown (refmake1 _ _ _ _ _))))
  refine wpQuiet_nil ?_
  intro W2 g8
  replace g8 : Gr _ W2 := g8
  go_wp2
  go_ret
  exact ⟨rfl, g1.trans g8⟩

theorem run_max3 {P : Program} {w : World} (ts : Array TypeId) (t : TypeId) (x y z : Int) : (Builtin.max_ ts t #[.int .i64 x, .int .i64 y, .int .i64 z]).run P w = .ok (.int .i64 (max (max x y) z)) w := by
  rw [run_max_int3]
  congr 2
  repeat' split
  all_goals omega
attribute [local go_sem ↓] run_max3
theorem may_l (c : Int) : decide (max (max (pR c) (pG c)) (pB c) ≤ pA c) = mayC c := by unfold mayC; rw [Bool.eq_iff_iff]; simp; omega

set_option maxHeartbeats 400000 in
theorem cmay1 (c : Int) (w : World) (hc : C32 c) :
    Calls Try.prog 61 #[.int .u32 c] w (Rt w (.bool (mayC c))) := by
  have ep := fun w => parts1 c w hc
  unfold mayC
  clear hc
  generalize pA c = a at *; generalize pR c = r at *; generalize pG c = g at *; generalize pB c = b at *
  go_enter Try.func61, Try.ntmps61
  go_wp2_with fail
  refine (ep _).mono ?_
  rintro e w1 ⟨rfl, g1⟩
  go_wp2
  all_goals
    go_ret
    refine Rt.bool ?_ (g1.alloc _)
    simp <;> omega

set_option maxHeartbeats 400000 in
theorem refcmay1 (c : Int) (w : World) (hc : C32 c) :
    Calls Try.prog 57 #[.int .u32 c] w (Rt w (.bool (mayC c))) := by
  have ep := fun w => refparts1 c w hc
  unfold mayC
  clear hc
  generalize pA c = a at *; generalize pR c = r at *; generalize pG c = g at *; generalize pB c = b at *
  go_enter Try.func57, Try.ntmps57
  go_wp2_with fail
  refine (ep _).mono ?_
  rintro e w1 ⟨rfl, g1⟩
  go_wp2
  all_goals
    go_ret
    refine Rt.bool ?_ (g1.alloc _)
    simp <;> omega

set_option maxHeartbeats 400000 in
theorem csolid1 (c : Int) (w : World) (hc : C32 c) :
    Calls Try.prog 75 #[.int .u32 c] w (Rt w (.bool (pA c == 255))) := by
  have ep := fun w => parts1 c w hc
  clear hc
  generalize pA c = a at *; generalize pR c = r at *; generalize pG c = g at *; generalize pB c = b at *
  have i0 : ∀ w, (Instr.index 114 (.agg #[.int .i64 a, .int .i64 r, .int .i64 g, .int .i64 b]) (.int .i64 0)).run Try.prog w = .ok (.int .i64 a) w := fun _ => by kernel_rfl
  go_enter Try.func75, Try.ntmps75
  go_wp2_with fail
  refine (ep _).mono ?_
  rintro e w1 ⟨rfl, g1⟩
  go_wp2
  go_ret
  exact ⟨rfl, g1⟩

set_option maxHeartbeats 400000 in
theorem cgood1 (c : Int) (w : World) (hc : C32 c) :
    Calls Try.prog 54 #[.int .u32 c] w (Rt w (.int .u32 (gd c))) := by
  have ep := fun w => refparts1 c w hc
  unfold gd
  clear hc
  generalize pA c = a at *; generalize pR c = r at *; generalize pG c = g at *; generalize pB c = b at *
  go_enter Try.func54, Try.ntmps54
  go_wp2_with fail
  refine (ep _).mono ?_
  rintro e w1 ⟨rfl, g1⟩
  go_wp2_with fail
  refine (refmake1 _ _ _ _ _).mono ?_
  rintro e w2 ⟨rfl, g2⟩
  go_wp2
  go_ret
  exact ⟨rfl, (g1.alloc _).trans g2⟩

end Go.Proofs.Ytafceieenhogpaa
namespace Go.Proofs.Ytafceieenhogpaa
open Go.RowKit Go.Sort

attribute [local go_sem ↓] run_min2 run_max2

theorem far_cell {w : World} {b k i j : Nat} {v u : Value} (h : w.cell? ⟨b, i, none⟩ = some v) (hp : b ≠ k) : (w.setCell ⟨k, j, none⟩ u).drew.cell? ⟨b, i, none⟩ = some v := by
  show (w.setCell ⟨k, j, none⟩ u).cell? ⟨b, i, none⟩ = some v
  rw [← h]; unfold World.cell?; rw [Below.heap_setCell _ _ _ _ hp]

set_option maxHeartbeats 400000 in
theorem refpart0 (p q : Int) (w : World) :
    Calls Try.prog 95 #[.int .i64 p, .int .i64 q] w (fun e w' => e = .returned (.int .i64 (pt p q)) ∧ w = w') := by
  have h := mul_by (cl_by p) (cl_by q)
  unfold cl at h
  obtain ⟨h1, h2⟩ := h
  go_enter Try.func95, Try.ntmps95
  go_wp2
  go_ret
  exact ⟨rfl, rfl⟩

set_option maxHeartbeats 4000000 in
theorem refover1 (c d : Int) (w : World) (hc : C32 c) (hd : C32 d) :
    Calls Try.prog 80 #[.int .u32 c, .int .u32 d] w (Rt w (.int .u32 (ov c d))) := by
  have b0 := pA_by hc; have b1 := pR_by c; have b2 := pG_by c; have b3 := pB_by c
  have ep := fun w => refparts1 c w hc
  have eq := fun w => refparts1 d w hd
  unfold ov
  clear hc hd
  generalize pA c = a at *; generalize pR c = r at *; generalize pG c = g at *; generalize pB c = b at *
  generalize pA d = a' at *; generalize pR d = r' at *; generalize pG d = g' at *; generalize pB d = b' at *
  obtain ⟨rest, hrest⟩ : ∃ x, x = 255 - a := ⟨_, rfl⟩
  unfold ovc
  rw [← hrest]
  have t0 := pt_by a' rest; have t1 := pt_by r' rest; have t2 := pt_by g' rest; have t3 := pt_by b' rest
  have p0 := refpart0 a' rest; have p1 := refpart0 r' rest; have p2 := refpart0 g' rest; have p3 := refpart0 b' rest
  generalize pt a' rest = x0 at *; generalize pt r' rest = x1 at *; generalize pt g' rest = x2 at *; generalize pt b' rest = x3 at *
  unfold By at b0 b1 b2 b3 t0 t1 t2 t3
  obtain ⟨b00, b01⟩ := b0; obtain ⟨b10, b11⟩ := b1; obtain ⟨b20, b21⟩ := b2; obtain ⟨b30, b31⟩ := b3
  obtain ⟨t00, t01⟩ := t0; obtain ⟨t10, t11⟩ := t1; obtain ⟨t20, t21⟩ := t2; obtain ⟨t30, t31⟩ := t3
  have s : IntKind.i64.wrap (255 - a) = rest := by rw [hrest]; exact IntWalk.i64_in _ (by omega)
  have s0 : IntKind.i64.wrap (a + x0) = a + x0 := IntWalk.i64_in _ (by omega)
  have s1 : IntKind.i64.wrap (r + x1) = r + x1 := IntWalk.i64_in _ (by omega)
  have s2 : IntKind.i64.wrap (g + x2) = g + x2 := IntWalk.i64_in _ (by omega)
  have s3 : IntKind.i64.wrap (b + x3) = b + x3 := IntWalk.i64_in _ (by omega)
  clear b00 b01 b10 b11 b20 b21 b30 b31 t00 t01 t10 t11 t20 t21 t30 t31 hrest
  have mm : mk (a + x0) (r + x1) (g + x2) (b + x3) = mk (min (a + x0) 255) (min (r + x1) 255) (min (g + x2) 255) (min (b + x3) 255) := by unfold mk; rw [cl_min, cl_min, cl_min, cl_min]
  rw [mm]
  clear mm
  go_enter Try.func80, Try.ntmps80
  go_wp2_with fail
  refine (ep _).mono ?_
  rintro e w1 ⟨rfl, g1⟩
  have P := At.new w1 #[.int .i64 a, .int .i64 r, .int .i64 g, .int .i64 b] 114
  replace g1 := g1.alloc (.cells #[.int .i64 a, .int .i64 r, .int .i64 g, .int .i64 b] 114)
  go_wp2_with fail
  refine (eq _).mono ?_
  rintro e w2 ⟨rfl, g2⟩
  replace P := ((P.gr g2).alloc (.cells #[.int .i64 a', .int .i64 r', .int .i64 g', .int .i64 b'] 114)).alloc (.cells #[.int .i64 0, .int .i64 0, .int .i64 0, .int .i64 0] 114)
  have Q := (At.new w2 #[.int .i64 a', .int .i64 r', .int .i64 g', .int .i64 b'] 114).alloc (.cells #[.int .i64 0, .int .i64 0, .int .i64 0, .int .i64 0] 114)
  have O := At.newAt (w := w2.alloc (.cells #[.int .i64 a', .int .i64 r', .int .i64 g', .int .i64 b'] 114)) (n := w2.heap.size + 1) (by simp) #[.int .i64 0, .int .i64 0, .int .i64 0, .int .i64 0] 114
  have zz : w1.heap.size < w2.heap.size := by have := g2.size; simp at this; omega
  have z0 := g1.size
  simp at z0
  replace g2 := ((g1.trans g2).alloc (.cells #[.int .i64 a', .int .i64 r', .int .i64 g', .int .i64 b'] 114)).alloc (.cells #[.int .i64 0, .int .i64 0, .int .i64 0, .int .i64 0] 114)
  clear g1 ep eq
  go_wp2
  obtain ⟨kp, hkp⟩ : ∃ k, k = w1.heap.size := ⟨_, rfl⟩
  obtain ⟨kq, hkq⟩ : ∃ k, k = w2.heap.size := ⟨_, rfl⟩
  obtain ⟨V0, hV⟩ : ∃ V, V = (w2.alloc (.cells #[.int .i64 a', .int .i64 r', .int .i64 g', .int .i64 b'] 114)).alloc (.cells #[.int .i64 0, .int .i64 0, .int .i64 0, .int .i64 0] 114) := ⟨_, rfl⟩
  rw [← hV] at P Q O g2 ⊢
  rw [← hkp] at P zz ⊢
  rw [← hkq] at Q O zz ⊢
  clear hV
  have z1 : kp ≠ kq + 1 := by omega
  have z2 : kq ≠ kq + 1 := by omega
  have z3 : w.heap.size ≤ kq + 1 := by omega
  clear hkp hkq zz z0
  refine wp_loop_rounds 5 ?_
  have k0 : V0.cell? ⟨kp, 0, none⟩ = some (.int .i64 a) := P.cell 0
  have k2 : V0.cell? ⟨kq, 0, none⟩ = some (.int .i64 a') := Q.cell 0
  have k3 : V0.cell? ⟨kq + 1, 0, none⟩ = some (.int .i64 0) := O.cell 0
  have k4 := O.free 0
  rw [rounds_succ]; go_wp2
  go_region_held3 (fun w' => w'.cell? ⟨kp, 0, none⟩ = some (.int .i64 a) ∧ w'.cell? ⟨kq, 0, none⟩ = some (.int .i64 a')) ((first | exact ⟨far_cell k0 z1, far_cell k2 z2⟩ | go_keep))
    ((first | (go_at_call 95; (refine (p0 _).mono ?_); rintro e w' ⟨rfl, rfl⟩)))
  go_wp2
  have O' : At ((V0.setCell ⟨kq + 1, 0, none⟩ (.int .i64 (min (a + x0) 255))).drew) (kq + 1) #[.int .i64 (min (a + x0) 255), .int .i64 0, .int .i64 0, .int .i64 0] 114 := by
    have := Go.Joins.block_setCell (i := 0) O (.int .i64 (min (a + x0) 255))
    refine At.drew ?_
    unfold At
    simpa using this
  replace P := (At.far P (p := ⟨kq + 1, 0, none⟩) z1 (.int .i64 (min (a + x0) 255))).drew
  replace Q := (At.far Q (p := ⟨kq + 1, 0, none⟩) z2 (.int .i64 (min (a + x0) 255))).drew
  replace g2 := (Gr.setCell g2 (p := ⟨kq + 1, 0, none⟩) z3 (.int .i64 (min (a + x0) 255))).drew
  replace O := O'
  clear k0  k2 k3 k4 O'
  generalize (V0.setCell ⟨kq + 1, 0, none⟩ (.int .i64 (min (a + x0) 255))).drew = V1 at P Q O g2 ⊢
  have k0 : V1.cell? ⟨kp, 0, none⟩ = some (.int .i64 a) := P.cell 0
  have k1 : V1.cell? ⟨kp, 1, none⟩ = some (.int .i64 r) := P.cell 1
  have k2 : V1.cell? ⟨kq, 1, none⟩ = some (.int .i64 r') := Q.cell 1
  have k3 : V1.cell? ⟨kq + 1, 1, none⟩ = some (.int .i64 0) := O.cell 1
  have k4 := O.free 1
  rw [rounds_succ]; go_wp2
  go_region_held3 (fun w' => w'.cell? ⟨kp, 0, none⟩ = some (.int .i64 a) ∧ w'.cell? ⟨kq, 1, none⟩ = some (.int .i64 r') ∧ w'.cell? ⟨kp, 1, none⟩ = some (.int .i64 r)) ((first | exact ⟨far_cell k0 z1, far_cell k2 z2, far_cell k1 z1⟩ | go_keep))
    ((first | (go_at_call 95; (refine (p1 _).mono ?_); rintro e w' ⟨rfl, rfl⟩)))
  go_wp2
  have O' : At ((V1.setCell ⟨kq + 1, 1, none⟩ (.int .i64 (min (r + x1) 255))).drew) (kq + 1) #[.int .i64 (min (a + x0) 255), .int .i64 (min (r + x1) 255), .int .i64 0, .int .i64 0] 114 := by
    have := Go.Joins.block_setCell (i := 1) O (.int .i64 (min (r + x1) 255))
    refine At.drew ?_
    unfold At
    simpa using this
  replace P := (At.far P (p := ⟨kq + 1, 1, none⟩) z1 (.int .i64 (min (r + x1) 255))).drew
  replace Q := (At.far Q (p := ⟨kq + 1, 1, none⟩) z2 (.int .i64 (min (r + x1) 255))).drew
  replace g2 := (Gr.setCell g2 (p := ⟨kq + 1, 1, none⟩) z3 (.int .i64 (min (r + x1) 255))).drew
  replace O := O'
  clear k0 k1 k2 k3 k4 O'
  generalize (V1.setCell ⟨kq + 1, 1, none⟩ (.int .i64 (min (r + x1) 255))).drew = V2 at P Q O g2 ⊢
  have k0 : V2.cell? ⟨kp, 0, none⟩ = some (.int .i64 a) := P.cell 0
  have k1 : V2.cell? ⟨kp, 2, none⟩ = some (.int .i64 g) := P.cell 2
  have k2 : V2.cell? ⟨kq, 2, none⟩ = some (.int .i64 g') := Q.cell 2
  have k3 : V2.cell? ⟨kq + 1, 2, none⟩ = some (.int .i64 0) := O.cell 2
  have k4 := O.free 2
  rw [rounds_succ]; go_wp2
  go_region_held3 (fun w' => w'.cell? ⟨kp, 0, none⟩ = some (.int .i64 a) ∧ w'.cell? ⟨kq, 2, none⟩ = some (.int .i64 g') ∧ w'.cell? ⟨kp, 2, none⟩ = some (.int .i64 g)) ((first | exact ⟨far_cell k0 z1, far_cell k2 z2, far_cell k1 z1⟩ | go_keep))
    ((first | (go_at_call 95; (refine (p2 _).mono ?_); rintro e w' ⟨rfl, rfl⟩)))
  go_wp2
  have O' : At ((V2.setCell ⟨kq + 1, 2, none⟩ (.int .i64 (min (g + x2) 255))).drew) (kq + 1) #[.int .i64 (min (a + x0) 255), .int .i64 (min (r + x1) 255), .int .i64 (min (g + x2) 255), .int .i64 0] 114 := by
    have := Go.Joins.block_setCell (i := 2) O (.int .i64 (min (g + x2) 255))
    refine At.drew ?_
    unfold At
    simpa using this
  replace P := (At.far P (p := ⟨kq + 1, 2, none⟩) z1 (.int .i64 (min (g + x2) 255))).drew
  replace Q := (At.far Q (p := ⟨kq + 1, 2, none⟩) z2 (.int .i64 (min (g + x2) 255))).drew
  replace g2 := (Gr.setCell g2 (p := ⟨kq + 1, 2, none⟩) z3 (.int .i64 (min (g + x2) 255))).drew
  replace O := O'
  clear k0 k1 k2 k3 k4 O'
  generalize (V2.setCell ⟨kq + 1, 2, none⟩ (.int .i64 (min (g + x2) 255))).drew = V3 at P Q O g2 ⊢
  have k0 : V3.cell? ⟨kp, 0, none⟩ = some (.int .i64 a) := P.cell 0
  have k1 : V3.cell? ⟨kp, 3, none⟩ = some (.int .i64 b) := P.cell 3
  have k2 : V3.cell? ⟨kq, 3, none⟩ = some (.int .i64 b') := Q.cell 3
  have k3 : V3.cell? ⟨kq + 1, 3, none⟩ = some (.int .i64 0) := O.cell 3
  have k4 := O.free 3
  rw [rounds_succ]; go_wp2
  go_region_held3 (fun w' => w'.cell? ⟨kp, 0, none⟩ = some (.int .i64 a) ∧ w'.cell? ⟨kq, 3, none⟩ = some (.int .i64 b') ∧ w'.cell? ⟨kp, 3, none⟩ = some (.int .i64 b)) ((first | exact ⟨far_cell k0 z1, far_cell k2 z2, far_cell k1 z1⟩ | go_keep))
    ((first | (go_at_call 95; (refine (p3 _).mono ?_); rintro e w' ⟨rfl, rfl⟩)))
  go_wp2
  have O' : At ((V3.setCell ⟨kq + 1, 3, none⟩ (.int .i64 (min (b + x3) 255))).drew) (kq + 1) #[.int .i64 (min (a + x0) 255), .int .i64 (min (r + x1) 255), .int .i64 (min (g + x2) 255), .int .i64 (min (b + x3) 255)] 114 := by
    have := Go.Joins.block_setCell (i := 3) O (.int .i64 (min (b + x3) 255))
    refine At.drew ?_
    unfold At
    simpa using this
  replace P := (At.far P (p := ⟨kq + 1, 3, none⟩) z1 (.int .i64 (min (b + x3) 255))).drew
  replace Q := (At.far Q (p := ⟨kq + 1, 3, none⟩) z2 (.int .i64 (min (b + x3) 255))).drew
  replace g2 := (Gr.setCell g2 (p := ⟨kq + 1, 3, none⟩) z3 (.int .i64 (min (b + x3) 255))).drew
  replace O := O'
  clear k0 k1 k2 k3 k4 O'
  generalize (V3.setCell ⟨kq + 1, 3, none⟩ (.int .i64 (min (b + x3) 255))).drew = V4 at P Q O g2 ⊢
  have k0 : V4.cell? ⟨kq + 1, 0, none⟩ = _ := O.cell 0
  have k1 : V4.cell? ⟨kq + 1, 1, none⟩ = _ := O.cell 1
  have k2 : V4.cell? ⟨kq + 1, 2, none⟩ = _ := O.cell 2
  have k3 : V4.cell? ⟨kq + 1, 3, none⟩ = _ := O.cell 3
  simp at k0 k1 k2 k3
  rw [rounds_succ]; go_wp2_with fail
  refine (refmake1 _ _ _ _ _).mono ?_
  rintro e w6 ⟨rfl, g6⟩
  go_wp2
  go_ret
  exact ⟨rfl, g2.trans g6⟩

end Go.Proofs.Ytafceieenhogpaa
namespace Go.Proofs.Ytafceieenhogpaa
open Go.RowKit Go.Sort

theorem cl_mono {a b : Int} (h : a ≤ b) : cl a ≤ cl b := by unfold cl; omega
theorem pt_comm (p q : Int) : pt q p = pt p q := by unfold pt; rw [Int.mul_comm]
theorem pt_255r (p : Int) : pt p 255 = cl p := by rw [pt_comm]; exact pt_255 p
theorem pt_0r (p : Int) : pt p 0 = 0 := by unfold pt; rw [show cl 0 = 0 from rfl, Int.mul_zero]; rfl
theorem pt_0 (q : Int) : pt 0 q = 0 := by rw [pt_comm]; exact pt_0r q
theorem pt_mono {p p' : Int} (q : Int) (h : p ≤ p') : pt p q ≤ pt p' q := by
  have h1 := cl_mono h
  have h2 := cl_by q
  unfold By at h2
  have := Int.mul_le_mul_of_nonneg_right h1 h2.1
  unfold pt; omega
theorem pt_mono_r (p : Int) {q q' : Int} (h : q ≤ q') : pt p q ≤ pt p q' := by rw [pt_comm q p, pt_comm q' p]; exact pt_mono p h
theorem pt_le (p q : Int) : pt p q ≤ cl p := by
  have h1 := cl_by p; have h2 := cl_by q
  unfold By at h1 h2
  have := Int.mul_le_mul_of_nonneg_left h2.2 h1.1
  unfold pt; omega
theorem may_mk (a r g b : Int) : mayC (mk a r g b) = decide (cl r ≤ cl a ∧ cl g ≤ cl a ∧ cl b ≤ cl a) := by unfold mayC; rw [pA_mk, pR_mk, pG_mk, pB_mk]
theorem may_gd (c : Int) : mayC (gd c) = true := by
  unfold gd; rw [may_mk]
  exact decide_eq_true ⟨cl_mono (by omega), cl_mono (by omega), cl_mono (by omega)⟩
theorem gd_c32 (c : Int) : C32 (gd c) := mk_c32 _ _ _ _
theorem ov_c32 (c d : Int) : C32 (ov c d) := mk_c32 _ _ _ _
theorem fd_c32 (c d : Int) : C32 (fd c d) := mk_c32 _ _ _ _
theorem pre_c32 (a r g b : Int) : C32 (pre a r g b) := mk_c32 _ _ _ _
theorem of_may {c : Int} (h : mayC c = true) : pR c ≤ pA c ∧ pG c ≤ pA c ∧ pB c ≤ pA c := by unfold mayC at h; simpa using h
theorem ovc_mono {a p p' q q' : Int} (h : p ≤ p') (k : q ≤ q') : ovc a p q ≤ ovc a p' q' := by
  have := pt_mono (255 - a) k
  unfold ovc; omega
theorem may_ov {x y : Int} (hx : mayC x = true) (hy : mayC y = true) : mayC (ov x y) = true := by
  obtain ⟨x1, x2, x3⟩ := of_may hx
  obtain ⟨y1, y2, y3⟩ := of_may hy
  unfold ov; rw [may_mk]
  exact decide_eq_true ⟨cl_mono (ovc_mono x1 y1), cl_mono (ovc_mono x2 y2), cl_mono (ovc_mono x3 y3)⟩
theorem may_fd {x : Int} (al : Int) (hx : mayC x = true) : mayC (fd x al) = true := by
  obtain ⟨x1, x2, x3⟩ := of_may hx
  unfold fd; rw [may_mk]
  exact decide_eq_true ⟨cl_mono (pt_mono _ x1), cl_mono (pt_mono _ x2), cl_mono (pt_mono _ x3)⟩
theorem may_pre (a r g b : Int) : mayC (pre a r g b) = true := by
  have h := fun p => cl_mono (show pt p a ≤ cl a from by rw [pt_comm]; exact pt_le a p)
  unfold pre; rw [may_mk]
  simp only [cl_cl] at h
  exact decide_eq_true ⟨h r, h g, h b⟩
theorem solid_ov {x y : Int} (hx : C32 x) (hy : pA y = 255) : pA (ov x y) = 255 := by
  have h := pA_by hx
  unfold ov; rw [pA_mk, hy]
  unfold ovc; rw [pt_255]
  unfold By at h; unfold cl; omega
theorem ov_solid {r g b : Int} (y : Int) (hr : By r) (hg : By g) (hb : By b) : ov (mk 255 r g b) y = mk 255 r g b := by
  unfold ov; rw [pA_mk, pR_mk, pG_mk, pB_mk, show cl 255 = 255 from rfl, cl_of hr, cl_of hg, cl_of hb]
  unfold ovc; simp only [Int.sub_self, pt_0r, Int.add_zero]
theorem ov_clear {y : Int} (hy : C32 y) : ov 0 y = y := by
  unfold ov; rw [show pA 0 = 0 from rfl, show pR 0 = 0 from rfl, show pG 0 = 0 from rfl, show pB 0 = 0 from rfl]
  unfold ovc; simp only [Int.sub_zero, pt_255r, Int.zero_add]
  rw [cl_of (pA_by hy), cl_of (pR_by y), cl_of (pG_by y), cl_of (pB_by y)]
  exact mk_parts hy
theorem ov_none {x : Int} (hx : C32 x) : ov x 0 = x := by
  unfold ov; rw [show pA 0 = 0 from rfl, show pR 0 = 0 from rfl, show pG 0 = 0 from rfl, show pB 0 = 0 from rfl]
  unfold ovc; simp only [pt_0, Int.add_zero]
  exact mk_parts hx
theorem fd_all {x : Int} (hx : C32 x) : fd x 255 = x := by
  unfold fd; simp only [pt_255r]
  rw [cl_of (pA_by hx), cl_of (pR_by x), cl_of (pG_by x), cl_of (pB_by x)]
  exact mk_parts hx
theorem fd_none (x : Int) : fd x 0 = 0 := by unfold fd; simp only [pt_0r]; rfl
/-- Over white, over black. -/
theorem ov_white {x : Int} (hx : C32 x) (hm : mayC x = true) : pA (ov x 4294967295) = 255 ∧ pR (ov x 4294967295) = pR x + (255 - pA x) ∧ pG (ov x 4294967295) = pG x + (255 - pA x) ∧ pB (ov x 4294967295) = pB x + (255 - pA x) := by
  obtain ⟨x1, x2, x3⟩ := of_may hm
  have h := pA_by hx
  have h1 := pR_by x; have h2 := pG_by x; have h3 := pB_by x
  unfold ov; rw [pA_mk, pR_mk, pG_mk, pB_mk, show pA 4294967295 = 255 from rfl, show pR 4294967295 = 255 from rfl, show pG 4294967295 = 255 from rfl, show pB 4294967295 = 255 from rfl]
  unfold ovc; simp only [pt_255]
  unfold By at *; unfold cl; omega
theorem ov_black {x : Int} (hx : C32 x) : pA (ov x 4278190080) = 255 ∧ pR (ov x 4278190080) = pR x ∧ pG (ov x 4278190080) = pG x ∧ pB (ov x 4278190080) = pB x := by
  have h := pA_by hx
  have h1 := pR_by x; have h2 := pG_by x; have h3 := pB_by x
  unfold ov; rw [pA_mk, pR_mk, pG_mk, pB_mk, show pA 4278190080 = 255 from rfl, show pR 4278190080 = 0 from rfl, show pG 4278190080 = 0 from rfl, show pB 4278190080 = 0 from rfl]
  unfold ovc; simp only [pt_255, pt_0]
  unfold By at *; unfold cl; omega
/-- What a color is over another one grows with that one. -/
theorem ov_grows (n : Int) {a b : Int} (h : a ≤ b) : pA (ov n (mk 255 a a a)) ≤ pA (ov n (mk 255 b b b)) ∧ pR (ov n (mk 255 a a a)) ≤ pR (ov n (mk 255 b b b)) ∧ pG (ov n (mk 255 a a a)) ≤ pG (ov n (mk 255 b b b)) ∧ pB (ov n (mk 255 a a a)) ≤ pB (ov n (mk 255 b b b)) := by
  have k := cl_mono h
  unfold ov
  simp only [pA_mk, pR_mk, pG_mk, pB_mk]
  exact ⟨Int.le_refl _, cl_mono (ovc_mono (Int.le_refl _) k), cl_mono (ovc_mono (Int.le_refl _) k), cl_mono (ovc_mono (Int.le_refl _) k)⟩

end Go.Proofs.Ytafceieenhogpaa

