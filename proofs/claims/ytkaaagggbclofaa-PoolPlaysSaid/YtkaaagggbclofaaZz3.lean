/-
  What is proved: what more calls of package color, and the document's, hand back. what the document's 'over' hands back. how parts of colors, colors one over the other and faded ones go together: plain arithmetic. nothing of its own: it hands on the calls of package color. No conditions. small words for memory: a world that is another one with new blocks; slices that read as lists of rectangles, of ints, of bands; and how 'append' adds to such a row. No conditions. small words for an image in memory, and what New, Box, At, Set of package image hand back.
-/
import Derived.Test.YtkaaagggbclofaaZz2
import Derived.Test.YtkaaagggbclofaaZz1
import Derived.Laws.Cover1
import Derived.Deep.RegionHeld3
import Derived.Lib.SmallJoins
import Derived.IntWalk
import Derived.Handy
import Derived.Deep.AppendLies
import Derived.Laws.OwnMore
import Derived.OwnWalk
import Derived.Lib.Hide
import Derived.LoopTactic
import Derived.RegionTactic
import Derived.Laws.AppendOwn
import Derived.Laws.MakeOwn
import Derived.RowKit
namespace Go.Proofs.Ytkaaagggbclofaa
open Go.RowKit Go.Sort

attribute [local go_sem ↓] run_min2 run_max2

theorem cl_min (n : Int) : cl (min n 255) = cl n := by unfold cl; omega
theorem cl_cl (n : Int) : cl (cl n) = cl n := by unfold cl; omega
theorem cl_pt (p q : Int) : cl (pt p q) = pt p q := cl_of (pt_by p q)
theorem pt_cl (p q : Int) : pt (cl p) q = pt p q := by unfold pt; rw [cl_cl]
theorem pt_255 (q : Int) : pt 255 q = cl q := by unfold pt; rw [show cl 255 = 255 from rfl]; have := cl_by q; unfold By at this; omega
theorem pre_eq (a r g b : Int) : fd (mk 255 r g b) a = pre a r g b := by
  unfold fd pre
  rw [pA_mk, pR_mk, pG_mk, pB_mk, pt_cl, pt_cl, pt_cl, pt_cl, pt_255]
  unfold mk
  rw [cl_cl]

theorem run_max3 {P : Program} {w : World} (ts : Array TypeId) (t : TypeId) (x y z : Int) : (Builtin.max_ ts t #[.int .i64 x, .int .i64 y, .int .i64 z]).run P w = .ok (.int .i64 (max (max x y) z)) w := by
  rw [run_max_int3]
  congr 2
  repeat' split
  all_goals omega
attribute [local go_sem ↓] run_max3
theorem may_l (c : Int) : decide (max (max (pR c) (pG c)) (pB c) ≤ pA c) = mayC c := by unfold mayC; rw [Bool.eq_iff_iff]; simp; omega

set_option maxHeartbeats 400000 in
theorem cmay1 (c : Int) (w : World) (hc : C32 c) :
    Calls Try.prog 42 #[.int .u32 c] w (Rt w (.bool (mayC c))) := by
  have ep := fun w => parts1 c w hc
  unfold mayC
  clear hc
  generalize pA c = a at *; generalize pR c = r at *; generalize pG c = g at *; generalize pB c = b at *
  go_enter Try.func42, Try.ntmps42
  go_wp2_with fail
  refine (ep _).mono ?_
  rintro e w1 ⟨rfl, g1⟩
  go_wp2
  all_goals
    go_ret
    refine Rt.bool ?_ (g1.alloc _)
    simp <;> omega

set_option maxHeartbeats 400000 in
theorem refcmay1 (c : Int) (w : World) (hc : C32 c) :
    Calls Try.prog 51 #[.int .u32 c] w (Rt w (.bool (mayC c))) := by
  have ep := fun w => refparts1 c w hc
  unfold mayC
  clear hc
  generalize pA c = a at *; generalize pR c = r at *; generalize pG c = g at *; generalize pB c = b at *
  go_enter Try.func51, Try.ntmps51
  go_wp2_with fail
  refine (ep _).mono ?_
  rintro e w1 ⟨rfl, g1⟩
  go_wp2
  all_goals
    go_ret
    refine Rt.bool ?_ (g1.alloc _)
    simp <;> omega

end Go.Proofs.Ytkaaagggbclofaa
namespace Go.Proofs.Ytkaaagggbclofaa
open Go.RowKit Go.Sort

attribute [local go_sem ↓] run_min2 run_max2

theorem far_cell {w : World} {b k i j : Nat} {v u : Value} (h : w.cell? ⟨b, i, none⟩ = some v) (hp : b ≠ k) : (w.setCell ⟨k, j, none⟩ u).drew.cell? ⟨b, i, none⟩ = some v := by
  show (w.setCell ⟨k, j, none⟩ u).cell? ⟨b, i, none⟩ = some v
  rw [← h]; unfold World.cell?; rw [Below.heap_setCell _ _ _ _ hp]

end Go.Proofs.Ytkaaagggbclofaa
namespace Go.Proofs.Ytkaaagggbclofaa
open Go.RowKit Go.Sort

theorem cl_mono {a b : Int} (h : a ≤ b) : cl a ≤ cl b := by unfold cl; omega
theorem pt_comm (p q : Int) : pt q p = pt p q := by unfold pt; rw [Int.mul_comm]
theorem pt_255r (p : Int) : pt p 255 = cl p := by rw [pt_comm]; exact pt_255 p
theorem pt_0r (p : Int) : pt p 0 = 0 := by unfold pt; rw [show cl 0 = 0 from rfl, Int.mul_zero]; rfl
theorem pt_0 (q : Int) : pt 0 q = 0 := by rw [pt_comm]; exact pt_0r q
theorem pt_mono {p p' : Int} (q : Int) (h : p ≤ p') : pt p q ≤ pt p' q := by
  have h1 := cl_mono h
  have h2 := cl_by q
  unfold By at h2
  have := Int.mul_le_mul_of_nonneg_right h1 h2.1
  unfold pt; omega
theorem pt_mono_r (p : Int) {q q' : Int} (h : q ≤ q') : pt p q ≤ pt p q' := by rw [pt_comm q p, pt_comm q' p]; exact pt_mono p h
theorem pt_le (p q : Int) : pt p q ≤ cl p := by
  have h1 := cl_by p; have h2 := cl_by q
  unfold By at h1 h2
  have := Int.mul_le_mul_of_nonneg_left h2.2 h1.1
  unfold pt; omega
theorem may_mk (a r g b : Int) : mayC (mk a r g b) = decide (cl r ≤ cl a ∧ cl g ≤ cl a ∧ cl b ≤ cl a) := by unfold mayC; rw [pA_mk, pR_mk, pG_mk, pB_mk]
theorem may_gd (c : Int) : mayC (gd c) = true := by
  unfold gd; rw [may_mk]
  exact decide_eq_true ⟨cl_mono (by omega), cl_mono (by omega), cl_mono (by omega)⟩
theorem gd_c32 (c : Int) : C32 (gd c) := mk_c32 _ _ _ _
theorem ov_c32 (c d : Int) : C32 (ov c d) := mk_c32 _ _ _ _
theorem fd_c32 (c d : Int) : C32 (fd c d) := mk_c32 _ _ _ _
theorem pre_c32 (a r g b : Int) : C32 (pre a r g b) := mk_c32 _ _ _ _
theorem of_may {c : Int} (h : mayC c = true) : pR c ≤ pA c ∧ pG c ≤ pA c ∧ pB c ≤ pA c := by unfold mayC at h; simpa using h
theorem ovc_mono {a p p' q q' : Int} (h : p ≤ p') (k : q ≤ q') : ovc a p q ≤ ovc a p' q' := by
  have := pt_mono (255 - a) k
  unfold ovc; omega
theorem may_ov {x y : Int} (hx : mayC x = true) (hy : mayC y = true) : mayC (ov x y) = true := by
  obtain ⟨x1, x2, x3⟩ := of_may hx
  obtain ⟨y1, y2, y3⟩ := of_may hy
  unfold ov; rw [may_mk]
  exact decide_eq_true ⟨cl_mono (ovc_mono x1 y1), cl_mono (ovc_mono x2 y2), cl_mono (ovc_mono x3 y3)⟩
theorem may_fd {x : Int} (al : Int) (hx : mayC x = true) : mayC (fd x al) = true := by
  obtain ⟨x1, x2, x3⟩ := of_may hx
  unfold fd; rw [may_mk]
  exact decide_eq_true ⟨cl_mono (pt_mono _ x1), cl_mono (pt_mono _ x2), cl_mono (pt_mono _ x3)⟩
theorem may_pre (a r g b : Int) : mayC (pre a r g b) = true := by
  have h := fun p => cl_mono (show pt p a ≤ cl a from by rw [pt_comm]; exact pt_le a p)
  unfold pre; rw [may_mk]
  simp only [cl_cl] at h
  exact decide_eq_true ⟨h r, h g, h b⟩
theorem solid_ov {x y : Int} (hx : C32 x) (hy : pA y = 255) : pA (ov x y) = 255 := by
  have h := pA_by hx
  unfold ov; rw [pA_mk, hy]
  unfold ovc; rw [pt_255]
  unfold By at h; unfold cl; omega
theorem ov_solid {r g b : Int} (y : Int) (hr : By r) (hg : By g) (hb : By b) : ov (mk 255 r g b) y = mk 255 r g b := by
  unfold ov; rw [pA_mk, pR_mk, pG_mk, pB_mk, show cl 255 = 255 from rfl, cl_of hr, cl_of hg, cl_of hb]
  unfold ovc; simp only [Int.sub_self, pt_0r, Int.add_zero]
theorem ov_clear {y : Int} (hy : C32 y) : ov 0 y = y := by
  unfold ov; rw [show pA 0 = 0 from rfl, show pR 0 = 0 from rfl, show pG 0 = 0 from rfl, show pB 0 = 0 from rfl]
  unfold ovc; simp only [Int.sub_zero, pt_255r, Int.zero_add]
  rw [cl_of (pA_by hy), cl_of (pR_by y), cl_of (pG_by y), cl_of (pB_by y)]
  exact mk_parts hy
theorem ov_none {x : Int} (hx : C32 x) : ov x 0 = x := by
  unfold ov; rw [show pA 0 = 0 from rfl, show pR 0 = 0 from rfl, show pG 0 = 0 from rfl, show pB 0 = 0 from rfl]
  unfold ovc; simp only [pt_0, Int.add_zero]
  exact mk_parts hx
theorem fd_all {x : Int} (hx : C32 x) : fd x 255 = x := by
  unfold fd; simp only [pt_255r]
  rw [cl_of (pA_by hx), cl_of (pR_by x), cl_of (pG_by x), cl_of (pB_by x)]
  exact mk_parts hx
theorem fd_none (x : Int) : fd x 0 = 0 := by unfold fd; simp only [pt_0r]; rfl
/-- Over white, over black. -/
theorem ov_white {x : Int} (hx : C32 x) (hm : mayC x = true) : pA (ov x 4294967295) = 255 ∧ pR (ov x 4294967295) = pR x + (255 - pA x) ∧ pG (ov x 4294967295) = pG x + (255 - pA x) ∧ pB (ov x 4294967295) = pB x + (255 - pA x) := by
  obtain ⟨x1, x2, x3⟩ := of_may hm
  have h := pA_by hx
  have h1 := pR_by x; have h2 := pG_by x; have h3 := pB_by x
  unfold ov; rw [pA_mk, pR_mk, pG_mk, pB_mk, show pA 4294967295 = 255 from rfl, show pR 4294967295 = 255 from rfl, show pG 4294967295 = 255 from rfl, show pB 4294967295 = 255 from rfl]
  unfold ovc; simp only [pt_255]
  unfold By at *; unfold cl; omega
theorem ov_black {x : Int} (hx : C32 x) : pA (ov x 4278190080) = 255 ∧ pR (ov x 4278190080) = pR x ∧ pG (ov x 4278190080) = pG x ∧ pB (ov x 4278190080) = pB x := by
  have h := pA_by hx
  have h1 := pR_by x; have h2 := pG_by x; have h3 := pB_by x
  unfold ov; rw [pA_mk, pR_mk, pG_mk, pB_mk, show pA 4278190080 = 255 from rfl, show pR 4278190080 = 0 from rfl, show pG 4278190080 = 0 from rfl, show pB 4278190080 = 0 from rfl]
  unfold ovc; simp only [pt_255, pt_0]
  unfold By at *; unfold cl; omega
/-- What a color is over another one grows with that one. -/
theorem ov_grows (n : Int) {a b : Int} (h : a ≤ b) : pA (ov n (mk 255 a a a)) ≤ pA (ov n (mk 255 b b b)) ∧ pR (ov n (mk 255 a a a)) ≤ pR (ov n (mk 255 b b b)) ∧ pG (ov n (mk 255 a a a)) ≤ pG (ov n (mk 255 b b b)) ∧ pB (ov n (mk 255 a a a)) ≤ pB (ov n (mk 255 b b b)) := by
  have k := cl_mono h
  unfold ov
  simp only [pA_mk, pR_mk, pG_mk, pB_mk]
  exact ⟨Int.le_refl _, cl_mono (ovc_mono (Int.le_refl _) k), cl_mono (ovc_mono (Int.le_refl _) k), cl_mono (ovc_mono (Int.le_refl _) k)⟩

end Go.Proofs.Ytkaaagggbclofaa

namespace Go.Proofs.Ytkaaagggbclofaa
open Go.RowKit Go.Sort

/-- The cells of a rectangle, and of a list of them. -/
def c4 (r : Rc) : List Value := [.int .i64 r.a, .int .i64 r.b, .int .i64 r.c, .int .i64 r.d]
def cR : List Rc → List Value
  | [] => []
  | r :: l => c4 r ++ cR l
theorem cR_len : ∀ L : List Rc, (cR L).length = L.length * 4
  | [] => rfl
  | r :: l => by unfold cR; rw [List.length_append, cR_len l]; simp [c4]; omega
theorem cR_app : ∀ L M : List Rc, cR (L ++ M) = cR L ++ cR M
  | [], M => rfl
  | r :: l, M => by show c4 r ++ cR (l ++ M) = (c4 r ++ cR l) ++ cR M; rw [cR_app l M, List.append_assoc]
theorem cR_get : ∀ (L : List Rc) (k : Nat) (r : Rc) (j : Nat), L[k]? = some r → j < 4 → (cR L)[k * 4 + j]? = (c4 r)[j]?
  | [], k, r, j, h, _ => by simp at h
  | r' :: l, 0, r, j, h, hj => by
    simp at h; subst h
    unfold cR
    rw [List.getElem?_append_left (by simp [c4]; omega)]; simp
  | r' :: l, k + 1, r, j, h, hj => by
    unfold cR
    rw [List.getElem?_append_right (by simp [c4]; omega)]
    rw [show (k + 1) * 4 + j - (c4 r').length = k * 4 + j from by simp [c4]; omega]
    exact cR_get l k r j (by simpa using h) hj
theorem cR_one : ∀ (L : List Rc), ∀ u ∈ cR L, u.oneCell' = true
  | [], u, h => by simp [cR] at h
  | r :: l, u, h => by
    unfold cR at h
    rw [List.mem_append] at h
    rcases h with h | h
    · simp [c4] at h; rcases h with h | h | h | h <;> subst h <;> rfl
    · exact cR_one l u h

/-- The cells of a list of ints. -/
def cI (E : List Int) : List Value := E.map (Value.int .i64)
theorem cI_len (E : List Int) : (cI E).length = E.length := by simp [cI]
theorem cI_app (E F : List Int) : cI (E ++ F) = cI E ++ cI F := by simp [cI]
theorem cI_one (E : List Int) : ∀ u ∈ cI E, u.oneCell' = true := by
  intro u h; simp [cI] at h; obtain ⟨x, _, rfl⟩ := h; rfl

/-- From cell off of block b on lie these rectangles; ints. -/
def RowR (w : World) (b off : Nat) (L : List Rc) : Prop := ∀ k r, L[k]? = some r → w.cell? ⟨b, off + k * 4, none⟩ = some (.int .i64 r.a) ∧ w.cell? ⟨b, off + k * 4 + 1, none⟩ = some (.int .i64 r.b) ∧
  w.cell? ⟨b, off + k * 4 + 2, none⟩ = some (.int .i64 r.c) ∧ w.cell? ⟨b, off + k * 4 + 3, none⟩ = some (.int .i64 r.d)
def RowI (w : World) (b off : Nat) (E : List Int) : Prop := ∀ k x, E[k]? = some x → w.cell? ⟨b, off + k, none⟩ = some (.int .i64 x)
def Rs (w : World) (A : Option Addr) (L : List Rc) : Prop := L = [] ∨ ∃ b off, A = some ⟨b, off, none⟩ ∧ RowR w b off L
def Is (w : World) (A : Option Addr) (E : List Int) : Prop := E = [] ∨ ∃ b off, A = some ⟨b, off, none⟩ ∧ RowI w b off E
theorem RowR.bl {w w' : World} {b off : Nat} {L : List Rc} (h : RowR w b off L) (g : Bl w w') : RowR w' b off L := fun k r hk => by
  obtain ⟨h1, h2, h3, h4⟩ := h k r hk
  exact ⟨g.keep h1, g.keep h2, g.keep h3, g.keep h4⟩
theorem RowI.bl {w w' : World} {b off : Nat} {E : List Int} (h : RowI w b off E) (g : Bl w w') : RowI w' b off E := fun k r hk => g.keep (h k r hk)
theorem RowI.grown {w w' : World} {b off : Nat} {E : List Int} {row : Option Nat} (h : RowI w b off E) (g : w.grownBy w' row) (hne : some b ≠ row) : RowI w' b off E := fun k r hk => g.cell (h k r hk) hne
theorem RowR.grown {w w' : World} {b off : Nat} {L : List Rc} {row : Option Nat} (h : RowR w b off L) (g : w.grownBy w' row) (hne : some b ≠ row) : RowR w' b off L := fun k r hk => by
  obtain ⟨h1, h2, h3, h4⟩ := h k r hk
  exact ⟨g.cell h1 hne, g.cell h2 hne, g.cell h3 hne, g.cell h4 hne⟩
theorem Rs.bl {w w' : World} {A : Option Addr} {L : List Rc} (h : Rs w A L) (g : Bl w w') : Rs w' A L := by
  rcases h with h | ⟨b, off, h1, h2⟩
  · exact .inl h
  · exact .inr ⟨b, off, h1, h2.bl g⟩
theorem Is.bl {w w' : World} {A : Option Addr} {E : List Int} (h : Is w A E) (g : Bl w w') : Is w' A E := by
  rcases h with h | ⟨b, off, h1, h2⟩
  · exact .inl h
  · exact .inr ⟨b, off, h1, h2.bl g⟩
theorem Rs.opened {w : World} {A : Option Addr} {L : List Rc} (h : Rs w A L) (hn : 0 < L.length) : ∃ b off, A = some ⟨b, off, none⟩ ∧ RowR w b off L := by
  rcases h with h | h
  · subst h; simp at hn
  · exact h
theorem Is.opened {w : World} {A : Option Addr} {E : List Int} (h : Is w A E) (hn : 0 < E.length) : ∃ b off, A = some ⟨b, off, none⟩ ∧ RowI w b off E := by
  rcases h with h | h
  · subst h; simp at hn
  · exact h
theorem Is.grown {w w' : World} {A : Option Addr} {E : List Int} {row : Option Nat} (h : Is w A E) (g : w.grownBy w' row) (hne : ∀ k, A.map (·.block) = some k → some k ≠ row) : Is w' A E := by
  rcases h with h | ⟨b, off, h1, h2⟩
  · exact .inl h
  · exact .inr ⟨b, off, h1, h2.grown g (hne b (by rw [h1]; rfl))⟩
theorem Rs.nil (w : World) (A : Option Addr) : Rs w A [] := .inl rfl
theorem Is.nil (w : World) (A : Option Addr) : Is w A [] := .inl rfl
/-- Rows that a call owns: of rectangles, of ints. -/
def OwR (w : World) (B : Nat) (A : Option Addr) (c : Nat) (L : List Rc) : Prop := w.ownsRow B 31 4 (.slice A L.length c) L.length (cR L)
def OwI (w : World) (B : Nat) (A : Option Addr) (c : Nat) (E : List Int) : Prop := w.ownsRow B 3 1 (.slice A E.length c) E.length (cI E)
theorem OwR.nil (w : World) (B : Nat) : OwR w B none 0 [] := World.ownsRow_nil _ _ _ _
theorem OwI.nil (w : World) (B : Nat) : OwI w B none 0 [] := World.ownsRow_nil _ _ _ _
theorem OwR.addr {w : World} {B : Nat} {A : Option Addr} {c : Nat} {L : List Rc} (h : OwR w B A c L) : (A = none ∧ c = 0 ∧ L = []) ∨ ∃ g, A = some ⟨g, 0, none⟩ ∧ B ≤ g ∧ g < w.heap.size := by
  rcases h.2 with ⟨h1, h2⟩ | ⟨g, cap, cur, h1, h2, h3, _⟩
  · left
    injection h1 with a b c'
    exact ⟨a, c', List.eq_nil_of_length_eq_zero h2⟩
  · right
    injection h1 with a b c'
    refine ⟨g, a, h2, ?_⟩
    rcases Nat.lt_or_ge g w.heap.size with hl | hl
    · exact hl
    · rw [Array.getElem?_eq_none hl] at h3; cases h3
theorem OwI.addr {w : World} {B : Nat} {A : Option Addr} {c : Nat} {E : List Int} (h : OwI w B A c E) : (A = none ∧ c = 0 ∧ E = []) ∨ ∃ g, A = some ⟨g, 0, none⟩ ∧ B ≤ g ∧ g < w.heap.size := by
  rcases h.2 with ⟨h1, h2⟩ | ⟨g, cap, cur, h1, h2, h3, _⟩
  · left
    injection h1 with a b c'
    exact ⟨a, c', List.eq_nil_of_length_eq_zero h2⟩
  · right
    injection h1 with a b c'
    refine ⟨g, a, h2, ?_⟩
    rcases Nat.lt_or_ge g w.heap.size with hl | hl
    · exact hl
    · rw [Array.getElem?_eq_none hl] at h3; cases h3
theorem OwR.cap {w : World} {B : Nat} {A : Option Addr} {c : Nat} {L : List Rc} (h : OwR w B A c L) : L.length ≤ c := own_cap h rfl
theorem OwI.cap {w : World} {B : Nat} {A : Option Addr} {c : Nat} {E : List Int} (h : OwI w B A c E) : E.length ≤ c := own_cap h rfl
theorem OwR.row {w : World} {B : Nat} {g c : Nat} {L : List Rc} (h : OwR w B (some ⟨g, 0, none⟩) c L) : RowR w g 0 L := fun k r hk => by
  have hl : k < L.length := by
    rcases Nat.lt_or_ge k L.length with h' | h'
    · exact h'
    · rw [List.getElem?_eq_none h'] at hk; cases hk
  have q := fun j (hj : j < 4) => (World.ownsRow.cellAt h (k * 4 + j) (by omega)).trans (cR_get L k r j hk hj)
  refine ⟨?_, ?_, ?_, ?_⟩
  · simpa [c4] using q 0 (by omega)
  · simpa [c4] using q 1 (by omega)
  · simpa [c4] using q 2 (by omega)
  · simpa [c4] using q 3 (by omega)
theorem OwI.row {w : World} {B : Nat} {g c : Nat} {E : List Int} (h : OwI w B (some ⟨g, 0, none⟩) c E) : RowI w g 0 E := fun k x hk => by
  have hl : k < E.length := by
    rcases Nat.lt_or_ge k E.length with h' | h'
    · exact h'
    · rw [List.getElem?_eq_none h'] at hk; cases hk
  have q := World.ownsRow.cellAt h k (by omega)
  rw [Nat.zero_add, q]
  simp [cI, hk]
theorem OwR.rs {w : World} {B : Nat} {A : Option Addr} {c : Nat} {L : List Rc} (h : OwR w B A c L) : Rs w A L := by
  rcases h.addr with ⟨_, _, h'⟩ | ⟨g, rfl, _⟩
  · exact .inl h'
  · exact .inr ⟨g, 0, rfl, h.row⟩
theorem OwI.is {w : World} {B : Nat} {A : Option Addr} {c : Nat} {E : List Int} (h : OwI w B A c E) : Is w A E := by
  rcases h.addr with ⟨_, _, h'⟩ | ⟨g, rfl, _⟩
  · exact .inl h'
  · exact .inr ⟨g, 0, rfl, h.row⟩
theorem OwR.grown {w w' : World} {B : Nat} {A : Option Addr} {c : Nat} {L : List Rc} {row : Option Nat} (h : OwR w B A c L) (g : w.grownBy w' row) (hne : A = none ∨ A.map (·.block) ≠ row) : OwR w' B A c L :=
  World.ownsRow.kept h g (by rw [slice_block]; rcases hne with rfl | hne; exact .inl rfl; exact .inr hne)
theorem OwI.grown {w w' : World} {B : Nat} {A : Option Addr} {c : Nat} {E : List Int} {row : Option Nat} (h : OwI w B A c E) (g : w.grownBy w' row) (hne : A = none ∨ A.map (·.block) ≠ row) : OwI w' B A c E :=
  World.ownsRow.kept h g (by rw [slice_block]; rcases hne with rfl | hne; exact .inl rfl; exact .inr hne)
theorem OwR.bl {w w' : World} {B : Nat} {A : Option Addr} {c : Nat} {L : List Rc} (h : OwR w B A c L) (g : Bl w w') : OwR w' B A c L :=
  h.grown g.by (by cases A with | none => exact .inl rfl | some a => exact .inr (by simp))
theorem OwI.bl {w w' : World} {B : Nat} {A : Option Addr} {c : Nat} {E : List Int} (h : OwI w B A c E) (g : Bl w w') : OwI w' B A c E :=
  h.grown g.by (by cases A with | none => exact .inl rfl | some a => exact .inr (by simp))

/-- What append leaves: the row, where it lies, and what else has turned. -/
def Apd (w w' : World) (A A' : Option Addr) : Prop := w.grownBy w' (A.map (·.block)) ∧ ((A.map (·.block)) = A'.map (·.block) ∨ A'.map (·.block) = some w.heap.size)
theorem Apd.bl {w0 w w' : World} {A A' : Option Addr} {B : Nat} (g : Apd w w' A A') (h : Bl w0 w) (hA : A = none ∨ ∃ k, A = some ⟨k, 0, none⟩ ∧ B ≤ k ∧ k < w.heap.size) (hB : w0.heap.size ≤ B) : Bl w0 w' :=
  h.grown g.1 (fun k hk => by
    rcases hA with rfl | ⟨k', rfl, h1, _⟩
    · cases hk
    · simp at hk; omega)
theorem OwR.lies {w : World} {B : Nat} {A : Option Addr} {c : Nat} {L : List Rc} (h : OwR w B A c L) : A = none ∨ ∃ k, A = some ⟨k, 0, none⟩ ∧ B ≤ k ∧ k < w.heap.size := by
  rcases h.addr with ⟨h1, _⟩ | h1
  · exact .inl h1
  · exact .inr h1
theorem OwI.lies {w : World} {B : Nat} {A : Option Addr} {c : Nat} {E : List Int} (h : OwI w B A c E) : A = none ∨ ∃ k, A = some ⟨k, 0, none⟩ ∧ B ≤ k ∧ k < w.heap.size := by
  rcases h.addr with ⟨h1, _⟩ | h1
  · exact .inl h1
  · exact .inr h1

theorem infoR : (Try.prog.info? 31).map (fun i => (i.zero, i.size, i.bytes)) = some (some (.agg #[.int .i64 0, .int .i64 0, .int .i64 0, .int .i64 0]), 4, 32) := by kernel_rfl
theorem infoI : (Try.prog.info? 3).map (fun i => (i.zero, i.size, i.bytes)) = some (some (.int .i64 0), 1, 8) := by kernel_rfl

end Go.Proofs.Ytkaaagggbclofaa
namespace Go.Proofs.Ytkaaagggbclofaa
open Go.RowKit Go.Sort

/-- The cells of a list of colors. -/
def cC (L : List Int) : Array Value := (L.map (Value.int .u32)).toArray
theorem cC_get (L : List Int) (k : Nat) : (cC L)[k]? = L[k]?.map (Value.int .u32) := by simp [cC]
theorem cC_set (L : List Int) (k : Nat) (c : Int) : (cC L).setIfInBounds k (.int .u32 c) = cC (L.set k c) := by
  apply Array.ext_getElem?
  intro i
  rw [cC_get, Array.getElem?_setIfInBounds, List.getElem?_set, cC_get]
  have hs : (cC L).size = L.length := by simp [cC]
  rw [hs]
  split
  · split <;> simp_all
  · rfl

/-- Block pm is an image of W by H whose colors lie in block pc. -/
structure Img (w : World) (pm pc W H : Nat) (L : List Int) : Prop where
  hd : At w pm #[.int .i64 W, .int .i64 H, .slice (some ⟨pc, 0, none⟩) L.length L.length] 94
  cs : At w pc (cC L) 56
  len : L.length = W * H
  w1 : 1 ≤ W
  w2 : W ≤ 256
  h1 : 1 ≤ H
  h2 : H ≤ 256
  ne : pm ≠ pc
theorem Img.c0 {w : World} {pm pc W H : Nat} {L : List Int} (h : Img w pm pc W H L) : w.cell? ⟨pm, 0, none⟩ = some (.int .i64 W) := h.hd.cell 0
theorem Img.c1 {w : World} {pm pc W H : Nat} {L : List Int} (h : Img w pm pc W H L) : w.cell? ⟨pm, 1, none⟩ = some (.int .i64 H) := h.hd.cell 1
theorem Img.c2 {w : World} {pm pc W H : Nat} {L : List Int} (h : Img w pm pc W H L) : w.cell? ⟨pm, 2, none⟩ = some (.slice (some ⟨pc, 0, none⟩) L.length L.length) := h.hd.cell 2
/-- The same, where the colors' block goes on behind them (what a clone's does). -/
structure ImgX (w : World) (pm pc W H : Nat) (L : List Int) (X : List Value) : Prop where
  hd : At w pm #[.int .i64 W, .int .i64 H, .slice (some ⟨pc, 0, none⟩) L.length (L.length + X.length)] 94
  cs : At w pc (L.map (Value.int .u32) ++ X).toArray 56
  len : L.length = W * H
  w1 : 1 ≤ W
  w2 : W ≤ 256
  h1 : 1 ≤ H
  h2 : H ≤ 256
  ne : pm ≠ pc
theorem Img.x {w : World} {pm pc W H : Nat} {L : List Int} (h : Img w pm pc W H L) : ImgX w pm pc W H L [] :=
  { hd := h.hd, cs := by rw [List.append_nil]; exact h.cs, len := h.len, w1 := h.w1, w2 := h.w2, h1 := h.h1, h2 := h.h2, ne := h.ne }
theorem ImgX.o {w : World} {pm pc W H : Nat} {L : List Int} (h : ImgX w pm pc W H L []) : Img w pm pc W H L :=
  { hd := h.hd, cs := by have := h.cs; rwa [List.append_nil] at this, len := h.len, w1 := h.w1, w2 := h.w2, h1 := h.h1, h2 := h.h2, ne := h.ne }
theorem ImgX.c0 {w : World} {pm pc W H : Nat} {L : List Int} {X : List Value} (h : ImgX w pm pc W H L X) : w.cell? ⟨pm, 0, none⟩ = some (.int .i64 W) := h.hd.cell 0
theorem ImgX.c1 {w : World} {pm pc W H : Nat} {L : List Int} {X : List Value} (h : ImgX w pm pc W H L X) : w.cell? ⟨pm, 1, none⟩ = some (.int .i64 H) := h.hd.cell 1
theorem ImgX.c2 {w : World} {pm pc W H : Nat} {L : List Int} {X : List Value} (h : ImgX w pm pc W H L X) : w.cell? ⟨pm, 2, none⟩ = some (.slice (some ⟨pc, 0, none⟩) L.length (L.length + X.length)) := h.hd.cell 2
theorem ImgX.at {w : World} {pm pc W H : Nat} {L : List Int} {X : List Value} (h : ImgX w pm pc W H L X) {k : Nat} {c : Int} (hk : L[k]? = some c) : w.cell? ⟨pc, k, none⟩ = some (.int .u32 c) := by
  have hl : k < L.length := (List.getElem?_eq_some_iff.1 hk).1
  rw [h.cs.cell k, List.getElem?_toArray, List.getElem?_append_left (by simpa using hl), List.getElem?_map, hk]; rfl
theorem ImgX.gr {w w' : World} {pm pc W H : Nat} {L : List Int} {X : List Value} (h : ImgX w pm pc W H L X) (g : Gr w w') : ImgX w' pm pc W H L X := { h with hd := h.hd.gr g, cs := h.cs.gr g }
theorem ImgX.bl {w w' : World} {pm pc W H : Nat} {L : List Int} {X : List Value} (h : ImgX w pm pc W H L X) (g : Bl w w') : ImgX w' pm pc W H L X := { h with hd := h.hd.bl g, cs := h.cs.bl g }
theorem Img.at {w : World} {pm pc W H : Nat} {L : List Int} (h : Img w pm pc W H L) {k : Nat} {c : Int} (hk : L[k]? = some c) : w.cell? ⟨pc, k, none⟩ = some (.int .u32 c) := by
  rw [h.cs.cell k, cC_get, hk]; rfl
theorem Img.gr {w w' : World} {pm pc W H : Nat} {L : List Int} (h : Img w pm pc W H L) (g : Gr w w') : Img w' pm pc W H L := { h with hd := h.hd.gr g, cs := h.cs.gr g }
theorem At.kept {w w' : World} {b : Nat} {cs : Array Value} {t : TypeId} {row : Option Nat} (h : At w b cs t) (g : w.grownBy w' row) (hne : some b ≠ row) : At w' b cs t := by
  have := g.block b h.lt hne
  unfold At at *; rw [this]; exact h
theorem Img.kept {w w' : World} {pm pc W H : Nat} {L : List Int} {row : Option Nat} (h : Img w pm pc W H L) (g : w.grownBy w' row) (h1 : some pm ≠ row) (h2 : some pc ≠ row) : Img w' pm pc W H L := { h with hd := h.hd.kept g h1, cs := h.cs.kept g h2 }
theorem Gr.by {w w' : World} (h : Gr w w') (row : Option Nat) : w.grownBy w' row := ⟨h.below.os, h.below.tape, h.below.output, h.size, fun k hk _ => h.below.block k hk⟩
theorem by_trans {a b c : World} {row : Option Nat} (h : a.grownBy b row) (k : b.grownBy c row) : a.grownBy c row :=
  ⟨k.os.trans h.os, k.tape.trans h.tape, k.output.trans h.output, Nat.le_trans h.size k.size, fun i hi hr => (k.block i (Nat.lt_of_lt_of_le hi h.size) hr).trans (h.block i hi hr)⟩
theorem row_of {i j W H : Nat} (hi : i < W) (hj : j < H) : j * W + i < W * H := by
  have := Nat.mul_le_mul_right W (show j + 1 ≤ H from hj)
  rw [Nat.add_mul, Nat.mul_comm H] at this; omega
theorem area_le {W H : Nat} (h : W ≤ 256) (k : H ≤ 256) : W * H ≤ 65536 := by
  have := Nat.mul_le_mul h k; omega

set_option maxHeartbeats 1000000 in
theorem boxX {pm pc W H : Nat} {L : List Int} {X : List Value} (w : World) (hI : ImgX w pm pc W H L X) :
    Calls Try.prog 30 #[.pointer (some ⟨pm, 0, none⟩)] w (Rt w (.agg #[.int .i64 0, .int .i64 0, .int .i64 W, .int .i64 H])) := by
  have g := (Gr.refl w).alloc (.cells #[.int .i64 0, .int .i64 0, .int .i64 0, .int .i64 0] 31)
  have k0 := (hI.gr g).c0
  have k1 := (hI.gr g).c1
  clear hI
  go_enter Try.func30, Try.ntmps30
  go_wp2
  have hk := At.new w #[.int .i64 0, .int .i64 0, .int .i64 0, .int .i64 0] 31
  obtain ⟨V, hV⟩ : ∃ V, V = w.alloc (.cells #[.int .i64 0, .int .i64 0, .int .i64 0, .int .i64 0] 31) := ⟨_, rfl⟩
  rw [← hV] at hk k0 k1 g ⊢
  clear hV
  obtain ⟨b, hb'⟩ : ∃ b, b = w.heap.size := ⟨_, rfl⟩
  have hb : w.heap.size ≤ b := by omega
  rw [← hb'] at hk ⊢
  clear hb'
  have c0 := hk.cell 0; have c1 := hk.cell 1; have c2 := hk.cell 2; have c3 := hk.cell 3
  have f0 := hk.free 0; have f1 := hk.free 1; have f2 := hk.free 2; have f3 := hk.free 3
  simp at c0 c1 c2 c3
  go_region
  all_goals
    go_wp2
    have k := hk.put4 (.int .i64 0) (.int .i64 0) (.int .i64 W) (.int .i64 H)
    have G : Gr w ((((V.setCell ⟨b, 0, none⟩ (.int .i64 0)).setCell ⟨b, 1, none⟩ (.int .i64 0)).setCell ⟨b, 2, none⟩ (.int .i64 W)).setCell ⟨b, 3, none⟩ (.int .i64 H)) := (((g.setCell (p := ⟨b, 0, none⟩) hb _).setCell (p := ⟨b, 1, none⟩) hb _).setCell (p := ⟨b, 2, none⟩) hb _).setCell (p := ⟨b, 3, none⟩) hb _
    generalize (((V.setCell ⟨b, 0, none⟩ (.int .i64 0)).setCell ⟨b, 1, none⟩ (.int .i64 0)).setCell ⟨b, 2, none⟩ (.int .i64 W)).setCell ⟨b, 3, none⟩ (.int .i64 H) = V4 at k G ⊢
    have d0 := k.cell 0; have d1 := k.cell 1; have d2 := k.cell 2; have d3 := k.cell 3
    simp at d0 d1 d2 d3
    exact bodyPost_ret (v := .agg #[.int .i64 0, .int .i64 0, .int .i64 W, .int .i64 H]) (by simp [results, Try.results30, go_sem, d0, d1, d2, d3]) rfl ⟨rfl, G.drew⟩
theorem box1 {pm pc W H : Nat} {L : List Int} (w : World) (hI : Img w pm pc W H L) :
    Calls Try.prog 30 #[.pointer (some ⟨pm, 0, none⟩)] w (Rt w (.agg #[.int .i64 0, .int .i64 0, .int .i64 W, .int .i64 H])) := boxX w hI.x

set_option maxHeartbeats 1000000 in
theorem at0X {pm pc W H : Nat} {L : List Int} {X : List Value} (w : World) (hI : ImgX w pm pc W H L X) (x y : Int) (h : hasB 0 0 W H x y = false) :
    Calls Try.prog 20 #[.pointer (some ⟨pm, 0, none⟩), .int .i64 x, .int .i64 y] w (Rt w (.tuple #[.int .u32 0, .bool false])) := by
  have cb := boxX w hI
  have ch := fun w => has1 0 0 W H x y w
  rw [h] at ch
  go_enter Try.func20, Try.ntmps20
  go_wp2_with fail
  refine cb.mono ?_
  rintro e w1 ⟨rfl, g1⟩
  go_wp2_with fail
  refine (ch _).mono ?_
  rintro e w2 ⟨rfl, g2⟩
  go_wp2
  go_ret2
  exact ⟨rfl, g1.trans g2⟩
theorem at0 {pm pc W H : Nat} {L : List Int} (w : World) (hI : Img w pm pc W H L) (x y : Int) (h : hasB 0 0 W H x y = false) :
    Calls Try.prog 20 #[.pointer (some ⟨pm, 0, none⟩), .int .i64 x, .int .i64 y] w (Rt w (.tuple #[.int .u32 0, .bool false])) := at0X w hI.x x y h

set_option maxHeartbeats 1000000 in
theorem at1X {pm pc W H : Nat} {L : List Int} {X : List Value} (w : World) (hI : ImgX w pm pc W H L X) (i j : Nat) (hi : i < W) (hj : j < H) (c : Int) (hc : L[j * W + i]? = some c) :
    Calls Try.prog 20 #[.pointer (some ⟨pm, 0, none⟩), .int .i64 i, .int .i64 j] w (Rt w (.tuple #[.int .u32 c, .bool true])) := by
  have cb := boxX w hI
  have ch := fun w => has1 0 0 W H i j w
  rw [show hasB 0 0 W H i j = true from by simp [hasB]; omega] at ch
  have hk := row_of hi hj
  have hle := area_le hI.w2 hI.h2
  rw [← hI.len] at hk hle
  have e1 : IntKind.i64.wrap ((j : Int) * (W : Int)) = ((j * W : Nat) : Int) := by rw [← Int.natCast_mul]; exact IntWalk.i64_in _ (by omega)
  have e2 : IntKind.i64.wrap (((j * W : Nat) : Int) + (i : Int)) = ((j * W + i : Nat) : Int) := by rw [← Int.natCast_add]; exact IntWalk.i64_in _ (by omega)
  have q1 : wrap64 ((j : Int) * (W : Int)) = ((j * W : Nat) : Int) := by rw [← Int.natCast_mul]; exact w64 (by omega) (by omega)
  have q2 : wrap64 (((j * W : Nat) : Int) + (i : Int)) = ((j * W + i : Nat) : Int) := by rw [← Int.natCast_add]; exact w64 (by omega) (by omega)
  generalize j * W + i = k at *
  generalize j * W = p at *
  generalize hn : L.length = n at *
  have hnn := Lib.hid hn
  go_enter Try.func20, Try.ntmps20
  go_wp2_with fail
  refine cb.mono ?_
  rintro e w1 ⟨rfl, g1⟩
  go_wp2_with fail
  refine (ch _).mono ?_
  rintro e w2 ⟨rfl, g2⟩
  have J := (hI.gr g1).gr g2
  have k0 := J.c0; have k2 := J.c2; have k3 := J.at hc
  rw [hnn.out] at k2
  go_wp2
  go_quiet (fail)
  go_wp2
  go_ret2
  exact ⟨rfl, (g1.trans g2).drewN _⟩
theorem at1 {pm pc W H : Nat} {L : List Int} (w : World) (hI : Img w pm pc W H L) (i j : Nat) (hi : i < W) (hj : j < H) (c : Int) (hc : L[j * W + i]? = some c) :
    Calls Try.prog 20 #[.pointer (some ⟨pm, 0, none⟩), .int .i64 i, .int .i64 j] w (Rt w (.tuple #[.int .u32 c, .bool true])) := at1X w hI.x i j hi hj c hc

theorem ImgX.set {w : World} {pm pc W H : Nat} {L : List Int} {X : List Value} (h : ImgX w pm pc W H L X) (k : Nat) (c : Int) (hk : k < L.length) : ImgX (w.setCell ⟨pc, k, none⟩ (.int .u32 c)) pm pc W H (L.set k c) X := by
  have hl : (L.set k c).length = L.length := List.length_set
  refine { h with hd := ?_, cs := ?_, len := hl.trans h.len }
  · rw [hl]; exact h.hd.far (p := ⟨pc, k, none⟩) h.ne _
  · have hm : (L.set k c).map (Value.int .u32) ++ X = (L.map (Value.int .u32) ++ X).set k (.int .u32 c) := by
      rw [List.set_append_left _ _ (by simpa using hk), List.map_set]
    rw [hm, ← List.setIfInBounds_toArray]; exact h.cs.put k _
theorem Img.set {w : World} {pm pc W H : Nat} {L : List Int} (h : Img w pm pc W H L) (k : Nat) (c : Int) : Img (w.setCell ⟨pc, k, none⟩ (.int .u32 c)) pm pc W H (L.set k c) := by
  have hl : (L.set k c).length = L.length := List.length_set
  refine { h with hd := ?_, cs := ?_, len := hl.trans h.len }
  · rw [hl]; exact h.hd.far (p := ⟨pc, k, none⟩) h.ne _
  · rw [← cC_set]; exact h.cs.put k _
theorem by_set {a b : World} {p : Addr} (h : a.grownBy b (some p.block)) (u : Value) : a.grownBy (b.setCell p u) (some p.block) :=
  by_trans h ⟨rfl, rfl, rfl, by simp [World.setCell], fun k _ hk => Below.heap_setCell _ _ _ k (fun e => hk (by rw [e]))⟩
theorem by_drew {a b : World} {row : Option Nat} (h : a.grownBy b row) : a.grownBy b.drew row := by_trans h ((Gr.refl b).drew.by row)
theorem by_drewN {a b : World} {row : Option Nat} (h : a.grownBy b row) (n : Nat) : a.grownBy (b.drewN n) row := by_trans h (((Gr.refl b).drewN n).by row)
theorem by_gr {a b c : World} {row : Option Nat} (h : a.grownBy b row) (k : Gr b c) : a.grownBy c row := by_trans h (k.by row)
theorem by_refl (a : World) (row : Option Nat) : a.grownBy a row := (Gr.refl a).by row
theorem by_alloc {a b : World} {row : Option Nat} (h : a.grownBy b row) (o : Obj) : a.grownBy (b.alloc o) row := by_gr h ((Gr.refl b).alloc o)
/-- A store into a block that was not there. -/
theorem by_new {a b : World} {row : Option Nat} (h : a.grownBy b row) {p : Addr} (hp : a.heap.size ≤ p.block) (u : Value) : a.grownBy (b.setCell p u) row :=
  ⟨h.os, h.tape, h.output, Nat.le_trans h.size (by simp [World.setCell]), fun k hk hr => (Below.heap_setCell _ _ _ k (by omega)).trans (h.block k hk hr)⟩

set_option maxHeartbeats 1000000 in
theorem newN (W H : Int) (w : World) (h : W < 1 ∨ 256 < W ∨ H < 1 ∨ 256 < H) :
    Calls Try.prog 32 #[.int .i64 W, .int .i64 H] w (Rt w (.tuple #[.pointer none, .int .i64 1])) := by
  go_enter Try.func32, Try.ntmps32
  go_wp2
  all_goals first
    | (exfalso; omega)
    | (go_ret2; exact ⟨rfl, Gr.refl _⟩)

theorem cC_zero (n : Nat) : cC (List.replicate n 0) = Array.replicate n (.int .u32 0) := by
  apply Array.ext'
  simp [cC, List.map_replicate]

theorem infoC : (Try.prog.info? 56).map (fun i => (i.zero, i.size, i.bytes)) = some (some (.int .u32 0), 1, 4) := by kernel_rfl
theorem madeC (n : Nat) : madeCells #[Value.int .u32 0] n = cC (List.replicate n 0) := by
  rw [cC_zero]
  apply Array.ext
  · simp [madeCells]
  · intro i h1 h2; simp [madeCells, Nat.mod_one]
theorem makeC (n : Nat) (h : n ≤ 1000000000) (w : World) : (Instr.makeSlice 76 (.int .i64 n) (.int .i64 n)).run Try.prog w =
    .ok (.slice (some ⟨w.heap.size, 0, none⟩) n n) (w.alloc (.cells (cC (List.replicate n 0)) 56)) := by
  obtain ⟨i0, hi, hz0, hz1, hz2⟩ := info_parts infoC
  have := run_make (P := Try.prog) w 76 56 i0 _ Try.underlying76 hi hz0 .i64 .i64 n n (by omega) (Int.le_refl _) (by rw [hz2]; omega) (by omega)
  rw [this, hz1]
  have e : madeCells (Value.int .u32 0).cells n = cC (List.replicate n 0) := madeC n
  simp [e]

set_option maxHeartbeats 1000000 in
theorem new1 (W H : Nat) (w : World) (w1 : 1 ≤ W) (w2 : W ≤ 256) (h1 : 1 ≤ H) (h2 : H ≤ 256) :
    Calls Try.prog 32 #[.int .i64 W, .int .i64 H] w (fun e w' => ∃ pm pc, e = .returned (.tuple #[.pointer (some ⟨pm, 0, none⟩), .int .i64 0]) ∧ Img w' pm pc W H (List.replicate (W * H) 0) ∧ w.heap.size ≤ pm ∧ w.heap.size ≤ pc ∧ Gr w w') := by
  have hle := area_le w2 h2
  have e1 : IntKind.i64.wrap ((W : Int) * (H : Int)) = ((W * H : Nat) : Int) := by rw [← Int.natCast_mul]; exact IntWalk.i64_in _ (by omega)
  have q1 : wrap64 ((W : Int) * (H : Int)) = ((W * H : Nat) : Int) := by rw [← Int.natCast_mul]; exact w64 (by omega) (by omega)
  obtain ⟨n, hn⟩ : ∃ n, n = W * H := ⟨_, rfl⟩
  rw [← hn] at e1 q1 hle ⊢
  have hnn := Lib.hid hn
  clear hn
  have mk := makeC n (by omega)
  generalize hL : List.replicate n (0 : Int) = L at mk ⊢
  have hLL := Lib.hid hL
  clear hL
  have a1 := (At.new w (cC L) 56).alloc (.cells #[.int .i64 W, .int .i64 H, .slice (some ⟨w.heap.size, 0, none⟩) n n] 94)
  have a2 := At.newAt (w := w.alloc (.cells (cC L) 56)) (n := w.heap.size + 1) (by simp) #[.int .i64 W, .int .i64 H, .slice (some ⟨w.heap.size, 0, none⟩) n n] 94
  go_enter Try.func32, Try.ntmps32
  go_wp2
  go_ret2
  have hl : L.length = n := by rw [← hLL.out]; simp
  exact ⟨w.heap.size + 1, w.heap.size, rfl, { hd := by rw [hl]; exact a2, cs := a1, len := hl.trans hnn.out, w1 := w1, w2 := w2, h1 := h1, h2 := h2, ne := by omega }, by omega, by omega, ((Gr.refl w).alloc _).alloc _⟩

end Go.Proofs.Ytkaaagggbclofaa
