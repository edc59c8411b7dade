/-
  What is proved: plain arithmetic of a layer: which points of a canvas show one of its image, as a rectangle and point by point. No conditions but bounds. what in, May, floor of the document's layers hand back. No conditions but bounds. what onCanvas, May, clipped and Box of package paint hand back. No conditions but bounds. what May, clipped and Box of package paint hand back. No conditions but bounds. what clipped of package paint hands back. No conditions but bounds. what Box of package paint hands back. No conditions but bounds. what Good of the document's layers hands back. No conditions but bounds.
-/
import Derived.Test.YtafceieenhogpaaZa
import Derived.Test.YtafceieenhogpaaZb
import Derived.Test.YtafceieenhogpaaZi
import Derived.Test.YtafceieenhogpaaM3
import Derived.Test.YtafceieenhogpaaZj
import Derived.Deep.RegionHeld3
import Derived.StillTailTactics
namespace Go.Proofs.Ytafceieenhogpaa
open Go.RowKit Go.Sort

theorem hasB_empty {a b c d x y : Int} (e : emptyB a b c d = true) : hasB a b c d x y = false := by
  unfold emptyB at e; unfold hasB; simp at *; omega
theorem w64i {x : Int} (h0 : -1000000000000000 ≤ x) (h1 : x ≤ 1000000000000000) : wrap64 x = x := by unfold wrap64; omega
/-- The quotient that the document tells, and the program's. -/
def flo (a b : Int) : Int := if a.tdiv b * b > a then a.tdiv b - 1 else a.tdiv b
theorem flo_eq {a b : Int} (hb : 1 ≤ b) : flo a b = a / b := by
  unfold flo
  by_cases ha : 0 ≤ a
  · rw [Int.tdiv_eq_ediv_of_nonneg ha]
    have := Int.ediv_mul_le a (show b ≠ 0 by omega)
    rw [if_neg (by omega)]
  · have h1 : a.tdiv b = -((-a) / b) := by
      have : a = -(-a) := by omega
      rw [this, Int.neg_tdiv, Int.tdiv_eq_ediv_of_nonneg (by omega)]; simp
    have e := Int.mul_ediv_add_emod (-a) b
    have m1 := Int.emod_nonneg (-a) (show b ≠ 0 by omega)
    have m2 := Int.emod_lt_of_pos (-a) (show 0 < b by omega)
    have hq : a.tdiv b * b = a + (-a) % b := by
      rw [h1, Int.neg_mul, Int.mul_comm]; omega
    have e2 := Int.mul_ediv_add_emod a b
    have n1 := Int.emod_nonneg a (show b ≠ 0 by omega)
    have n2 := Int.emod_lt_of_pos a (show 0 < b by omega)
    by_cases hz : (-a) % b = 0
    · rw [if_neg (by omega)]
      have h3 : b * (a.tdiv b) = b * (a / b) + a % b := by rw [Int.mul_comm]; omega
      have h4 : b * (a.tdiv b - a / b) = a % b := by rw [Int.mul_sub]; omega
      rcases Int.lt_trichotomy (a.tdiv b - a / b) 0 with h5 | h5 | h5
      · have := Int.mul_le_mul_of_nonneg_left (show a.tdiv b - a / b ≤ -1 by omega) (show 0 ≤ b by omega); omega
      · omega
      · have := Int.mul_le_mul_of_nonneg_left (show 1 ≤ a.tdiv b - a / b by omega) (show 0 ≤ b by omega); omega
    · rw [if_pos (by omega)]
      have h3 : b * (a.tdiv b) = b * (a / b) + a % b + (-a) % b := by rw [Int.mul_comm]; omega
      have h4 : b * (a.tdiv b - 1 - a / b) = a % b + (-a) % b - b := by rw [Int.mul_sub, Int.mul_sub]; omega
      rcases Int.lt_trichotomy (a.tdiv b - 1 - a / b) 0 with h5 | h5 | h5
      · have := Int.mul_le_mul_of_nonneg_left (show a.tdiv b - 1 - a / b ≤ -1 by omega) (show 0 ≤ b by omega); omega
      · omega
      · have := Int.mul_le_mul_of_nonneg_left (show 1 ≤ a.tdiv b - 1 - a / b by omega) (show 0 ≤ b by omega); omega

/-- What the clip has of the image. -/
def ownR (cp : Rc) (W H : Nat) : Rc := cutR 0 0 W H cp.a cp.b cp.c cp.d
def lyE (cp : Rc) (W H : Nat) : Bool := emptyB (ownR cp W H).a (ownR cp W H).b (ownR cp W H).c (ownR cp W H).d
/-- The box of a layer. -/
def lyBox (cp : Rc) (W H : Nat) (s ax ay : Int) : Rc :=
  if lyE cp W H = true then ⟨0, 0, 0, 0⟩ else ⟨ax + (ownR cp W H).a * s, ay + (ownR cp W H).b * s, ax + (ownR cp W H).c * s, ay + (ownR cp W H).d * s⟩
/-- Whether a point of a canvas shows one. -/
def lyHas (cp : Rc) (W H : Nat) (s ax ay x y : Int) : Bool := hasB 0 0 W H ((x - ax) / s) ((y - ay) / s) && hasB cp.a cp.b cp.c cp.d ((x - ax) / s) ((y - ay) / s)
theorem span_has {a c s ax x : Int} (hs : 1 ≤ s) : (ax + a * s ≤ x ∧ x < ax + c * s) ↔ (a ≤ (x - ax) / s ∧ (x - ax) / s < c) := by
  rw [Int.le_ediv_iff_mul_le (by omega), Int.ediv_lt_iff_lt_mul (by omega)]
  omega
theorem ownR_bd (cp : Rc) (W H : Nat) : 0 ≤ (ownR cp W H).a ∧ (ownR cp W H).a ≤ (ownR cp W H).c ∧ (ownR cp W H).c ≤ W ∧ 0 ≤ (ownR cp W H).b ∧ (ownR cp W H).b ≤ (ownR cp W H).d ∧ (ownR cp W H).d ≤ H := by
  unfold ownR cutR
  by_cases e : emptyB (max 0 cp.a) (max 0 cp.b) (min W cp.c) (min H cp.d) = true
  · rw [if_pos e]; simp
  · rw [if_neg e]
    simp [emptyB] at e
    simp only []
    omega
theorem lyBox_has {cp : Rc} {W H : Nat} {s ax ay x y : Int} (hs : 1 ≤ s) : hasB (lyBox cp W H s ax ay).a (lyBox cp W H s ax ay).b (lyBox cp W H s ax ay).c (lyBox cp W H s ax ay).d x y = lyHas cp W H s ax ay x y := by
  unfold lyHas
  rw [← cutR_has]
  show _ = hasB (ownR cp W H).a (ownR cp W H).b (ownR cp W H).c (ownR cp W H).d _ _
  unfold lyBox lyE
  by_cases e : emptyB (ownR cp W H).a (ownR cp W H).b (ownR cp W H).c (ownR cp W H).d = true
  · rw [if_pos e, hasB_empty e]; simp [hasB]
  · rw [if_neg e]
    have h1 := span_has (a := (ownR cp W H).a) (c := (ownR cp W H).c) (ax := ax) (x := x) hs
    have h2 := span_has (a := (ownR cp W H).b) (c := (ownR cp W H).d) (ax := ay) (x := y) hs
    rw [Bool.eq_iff_iff]
    unfold hasB
    simp only [decide_eq_true_eq]
    constructor
    · rintro ⟨k1, k2, k3, k4⟩
      have := h1.1 ⟨k1, k2⟩; have := h2.1 ⟨k3, k4⟩
      exact ⟨this.1 |> fun _ => (h1.1 ⟨k1, k2⟩).1, (h1.1 ⟨k1, k2⟩).2, (h2.1 ⟨k3, k4⟩).1, (h2.1 ⟨k3, k4⟩).2⟩
    · rintro ⟨k1, k2, k3, k4⟩
      exact ⟨(h1.2 ⟨k1, k2⟩).1, (h1.2 ⟨k1, k2⟩).2, (h2.2 ⟨k3, k4⟩).1, (h2.2 ⟨k3, k4⟩).2⟩
/-- Which layers may be. -/
def lyMay (W H : Nat) (s al ax ay : Int) : Bool := decide (1 ≤ s ∧ s ≤ 8 ∧ 0 ≤ al ∧ al ≤ 255 ∧ inB ax = true ∧ inB ay = true ∧ inB (ax + W * s) = true ∧ inB (ay + H * s) = true)

end Go.Proofs.Ytafceieenhogpaa
namespace Go.Proofs.Ytafceieenhogpaa
open Go.RowKit Go.Sort

theorem mul_bd {W : Nat} {s : Int} (hW : W ≤ 256) (h1 : 1 ≤ s) (h8 : s ≤ 8) : 0 ≤ (W : Int) * s ∧ (W : Int) * s ≤ 2048 := by
  refine ⟨Int.mul_nonneg (by omega) (by omega), ?_⟩
  calc (W : Int) * s ≤ 256 * s := Int.mul_le_mul_of_nonneg_right (by omega) (by omega)
    _ ≤ 256 * 8 := Int.mul_le_mul_of_nonneg_left h8 (by omega)

set_option maxHeartbeats 1000000 in
theorem rfloor1 (a b : Int) (w : World) (hb : 1 ≤ b) (hb8 : b ≤ 8) (h1 : -9000000000000 ≤ a) (h2 : a ≤ 9000000000000) :
    Calls Try.prog 105 #[.int .i64 a, .int .i64 b] w (fun e w' => e = .returned (.int .i64 (a / b)) ∧ w = w') := by
  rw [← flo_eq hb]
  have hq : a.tdiv b * b ≤ 9000000000000 ∧ -9000000000000 ≤ a.tdiv b * b ∧ -9000000000000 ≤ a.tdiv b ∧ a.tdiv b ≤ 9000000000000 := by
    have e := Int.mul_tdiv_add_tmod a b
    rcases Int.lt_or_le a 0 with h | h
    · have f : a.tdiv b = -((-a) / b) := by
        have : a = -(-a) := by omega
        rw [this, Int.neg_tdiv, Int.tdiv_eq_ediv_of_nonneg (by omega)]; simp
      have m1 := Int.mul_ediv_add_emod (-a) b
      have m2 := Int.emod_nonneg (-a) (show b ≠ 0 by omega)
      have m3 := Int.ediv_nonneg (show 0 ≤ -a by omega) (show 0 ≤ b by omega)
      have m4 := Int.ediv_le_self b (show 0 ≤ -a by omega)
      have m6 : 0 ≤ b * (-a / b) := Int.mul_nonneg (by omega) m3
      have m5 : -(-a / b) * b = -(b * (-a / b)) := by rw [Int.neg_mul, Int.mul_comm]
      rw [f, m5]
      generalize b * (-a / b) = z at *
      generalize -a / b = y at *
      omega
    · have f : a.tdiv b = a / b := Int.tdiv_eq_ediv_of_nonneg h
      have m1 := Int.mul_ediv_add_emod a b
      have m2 := Int.emod_nonneg a (show b ≠ 0 by omega)
      have m3 := Int.ediv_nonneg h (show 0 ≤ b by omega)
      have m4 := Int.ediv_le_self b h
      have m6 : 0 ≤ b * (a / b) := Int.mul_nonneg (by omega) m3
      have m5 : a / b * b = b * (a / b) := Int.mul_comm _ _
      rw [f, m5]
      generalize b * (a / b) = z at *
      generalize a / b = y at *
      omega
  obtain ⟨q1, q2, q3, q4⟩ := hq
  have hz : ¬ b = 0 := by omega
  have hf : flo a b = if a.tdiv b * b > a then a.tdiv b - 1 else a.tdiv b := rfl
  rw [hf]
  clear hf
  obtain ⟨q, hq⟩ : ∃ q, q = a.tdiv b := ⟨_, rfl⟩
  rw [← hq] at q1 q2 q3 q4 ⊢
  obtain ⟨m, hm⟩ : ∃ m, m = q * b := ⟨_, rfl⟩
  rw [← hm] at q1 q2 ⊢
  have d1 : IntKind.i64.wrap (a.tdiv b) = q := by rw [← hq]; exact IntWalk.i64_in _ (by omega)
  have d2 : wrap64 (a.tdiv b) = q := by rw [← hq]; exact w64i (by omega) (by omega)
  have d3 : IntKind.i64.wrap (q * b) = m := by rw [← hm]; exact IntWalk.i64_in _ (by omega)
  have d4 : wrap64 (q * b) = m := by rw [← hm]; exact w64i (by omega) (by omega)
  have d5 : IntKind.i64.wrap (q - 1) = q - 1 := IntWalk.i64_in _ (by omega)
  clear hq hm
  by_cases h : m > a
  · rw [if_pos h]
    go_enter Try.func105, Try.ntmps105
    go_wp2
    go_ret
    exact ⟨rfl, rfl⟩
  · rw [if_neg h]
    go_enter Try.func105, Try.ntmps105
    go_wp2
    go_ret
    exact ⟨rfl, rfl⟩

end Go.Proofs.Ytafceieenhogpaa
namespace Go.Proofs.Ytafceieenhogpaa
open Go.RowKit Go.Sort

attribute [local go_sem] cell?_grow frozen?_grow nlt_r

set_option maxRecDepth 100000 in
set_option maxHeartbeats 2000000 in
theorem oncN (px : Option Addr) (ax ay s al : Int) (cp : Rc) (a b c d e : Int) (w : World) (hs : I64 s) (he : scaleE a b c d s = e) (h0 : e = 1 ∨ e = 4) :
    Calls Try.prog 98 #[.agg #[.pointer px, .int .i64 ax, .int .i64 ay, .int .i64 s, .int .i64 al, .int .i64 cp.a, .int .i64 cp.b, .int .i64 cp.c, .int .i64 cp.d], .agg #[.int .i64 a, .int .i64 b, .int .i64 c, .int .i64 d]] w
      (Rt w (.tuple #[.agg #[.int .i64 0, .int .i64 0, .int .i64 0, .int .i64 0], .int .i64 e])) := by
  have c1 := fun w => scale1 a b c d s w hs
  rw [he] at c1
  clear he
  generalize scaleR a b c d s = r at c1
  obtain ⟨p, q, r, t⟩ := r
  dsimp only at c1
  rcases h0 with rfl | rfl
  all_goals
    go_enter Try.func98, Try.ntmps98
    go_wp2_with fail
    refine (c1 _).mono ?_
    rintro e w1 ⟨rfl, ⟨⟨n, os⟩, rfl⟩⟩
    go_wp2
    go_returns
    refine ⟨rfl, ?_⟩
    repeat (first | with_reducible exact Gr.refl _ | with_reducible apply Gr.drew | with_reducible apply Gr.drewN | with_reducible apply Gr.grow | with_reducible apply Gr.alloc | (with_reducible refine Gr.setCell ?_ ?_ _; rotate_left; (simp; try omega)))

set_option maxRecDepth 100000 in
set_option maxHeartbeats 4000000 in
theorem onc1 (px : Option Addr) (ax ay s al : Int) (cp : Rc) (a b c d : Int) (p q r t : Int) (w : World) (hs : I64 s) (hax : I64 ax) (hay : I64 ay) (he : scaleE a b c d s = 0) (hr : scaleR a b c d s = ⟨p, q, r, t⟩) (hp : Bd p) (hq : Bd q) (hr1 : Bd r) (ht : Bd t) :
    Calls Try.prog 98 #[.agg #[.pointer px, .int .i64 ax, .int .i64 ay, .int .i64 s, .int .i64 al, .int .i64 cp.a, .int .i64 cp.b, .int .i64 cp.c, .int .i64 cp.d], .agg #[.int .i64 a, .int .i64 b, .int .i64 c, .int .i64 d]] w
      (Rt w (.tuple #[.agg #[.int .i64 (moveR p q r t ax ay).a, .int .i64 (moveR p q r t ax ay).b, .int .i64 (moveR p q r t ax ay).c, .int .i64 (moveR p q r t ax ay).d], .int .i64 (moveE p q r t ax ay)])) := by
  have c1 := fun w => scale1 a b c d s w hs
  rw [he, hr] at c1
  have c2 := fun w => move1 p q r t ax ay w hp hq hr1 ht hax hay
  clear he hr
  dsimp only at c1
  generalize moveR p q r t ax ay = m at c2 ⊢
  obtain ⟨m1, m2, m3, m4⟩ := m
  generalize moveE p q r t ax ay = z at c2 ⊢
  dsimp only at c2 ⊢
  have G := (((Gr.refl w).alloc (.cells #[.pointer px, .int .i64 ax, .int .i64 ay, .int .i64 s, .int .i64 al, .int .i64 cp.a, .int .i64 cp.b, .int .i64 cp.c, .int .i64 cp.d] 82)).alloc (.cells #[.int .i64 a, .int .i64 b, .int .i64 c, .int .i64 d] 24)).alloc (.cells #[.int .i64 0, .int .i64 0, .int .i64 0, .int .i64 0] 24)
  have B := ((At.new w #[.pointer px, .int .i64 ax, .int .i64 ay, .int .i64 s, .int .i64 al, .int .i64 cp.a, .int .i64 cp.b, .int .i64 cp.c, .int .i64 cp.d] 82).alloc (.cells #[.int .i64 a, .int .i64 b, .int .i64 c, .int .i64 d] 24)).alloc (.cells #[.int .i64 0, .int .i64 0, .int .i64 0, .int .i64 0] 24)
  have Z := At.newAt (w := (w.alloc (.cells #[.pointer px, .int .i64 ax, .int .i64 ay, .int .i64 s, .int .i64 al, .int .i64 cp.a, .int .i64 cp.b, .int .i64 cp.c, .int .i64 cp.d] 82)).alloc (.cells #[.int .i64 a, .int .i64 b, .int .i64 c, .int .i64 d] 24)) (n := w.heap.size + 1 + 1) (by simp) #[.int .i64 0, .int .i64 0, .int .i64 0, .int .i64 0] 24
  go_enter Try.func98, Try.ntmps98
  go_wp2_with fail
  refine (c1 _).mono ?_
  rintro e w1 ⟨rfl, g1⟩
  replace B := B.gr g1
  replace Z := Z.gr g1
  replace G := G.trans g1
  have k1 : w1.cell? ⟨w.heap.size, 1, none⟩ = some (.int .i64 ax) := B.cell 1
  have k2 : w1.cell? ⟨w.heap.size, 2, none⟩ = some (.int .i64 ay) := B.cell 2
  have hl := B.lt
  go_wp2_with fail
  refine (c2 _).mono ?_
  rintro e w2 ⟨rfl, g2⟩
  replace Z := (Z.alloc _).gr g2
  replace G := (G.alloc _).trans g2
  clear k1 k2 B g1 g2 c1 c2
  obtain ⟨z0, z1, z2, z3⟩ := cells4 Z
  obtain ⟨f0, f1, f2, f3⟩ := free4 Z
  go_wp2
  have k := Z.put4 (.int .i64 m1) (.int .i64 m2) (.int .i64 m3) (.int .i64 m4)
  have G4 := ((((G.setCell (p := ⟨w.heap.size + 1 + 1, 0, none⟩) (by simp; omega) (.int .i64 m1)).setCell (p := ⟨w.heap.size + 1 + 1, 1, none⟩) (by simp; omega) (.int .i64 m2)).setCell (p := ⟨w.heap.size + 1 + 1, 2, none⟩) (by simp; omega) (.int .i64 m3)).setCell (p := ⟨w.heap.size + 1 + 1, 3, none⟩) (by simp; omega) (.int .i64 m4))
  generalize (((w2.setCell ⟨w.heap.size + 1 + 1, 0, none⟩ (.int .i64 m1)).setCell ⟨w.heap.size + 1 + 1, 1, none⟩ (.int .i64 m2)).setCell ⟨w.heap.size + 1 + 1, 2, none⟩ (.int .i64 m3)).setCell ⟨w.heap.size + 1 + 1, 3, none⟩ (.int .i64 m4) = V4 at k G4 ⊢
  obtain ⟨d0, d1, d2, d3⟩ := cells4 k
  exact bodyPost_ret (v := .tuple #[.agg #[.int .i64 m1, .int .i64 m2, .int .i64 m3, .int .i64 m4], .int .i64 z]) (by simp [results, Try.results98, go_sem, d0, d1, d2, d3]) rfl ⟨rfl, G4⟩

end Go.Proofs.Ytafceieenhogpaa
namespace Go.Proofs.Ytafceieenhogpaa
open Go.RowKit Go.Sort

theorem Gr.st4 {a w : World} (h : Gr a w) {k : Nat} (hk : a.heap.size ≤ k) (u0 u1 u2 u3 : Value) : Gr a ((((w.setCell ⟨k, 0, none⟩ u0).setCell ⟨k, 1, none⟩ u1).setCell ⟨k, 2, none⟩ u2).setCell ⟨k, 3, none⟩ u3) :=
  (((h.setCell (p := ⟨k, 0, none⟩) hk u0).setCell (p := ⟨k, 1, none⟩) hk u1).setCell (p := ⟨k, 2, none⟩) hk u2).setCell (p := ⟨k, 3, none⟩) hk u3

set_option maxHeartbeats 1000000 in
theorem pmayN (ax ay s al : Int) (cp : Rc) (w : World) :
    Calls Try.prog 106 #[.agg #[.pointer none, .int .i64 ax, .int .i64 ay, .int .i64 s, .int .i64 al, .int .i64 cp.a, .int .i64 cp.b, .int .i64 cp.c, .int .i64 cp.d]] w (Rt w (.bool false)) := by
  have g := (Gr.refl w).alloc (.cells #[.pointer none, .int .i64 ax, .int .i64 ay, .int .i64 s, .int .i64 al, .int .i64 cp.a, .int .i64 cp.b, .int .i64 cp.c, .int .i64 cp.d] 82)
  go_enter Try.func106, Try.ntmps106
  go_wp2
  go_ret
  exact ⟨rfl, g⟩

set_option maxHeartbeats 1000000 in
theorem pmayA (pm : Nat) (ax ay s al : Int) (cp : Rc) (w : World) (h : al < 0 ∨ 255 < al) :
    Calls Try.prog 106 #[.agg #[.pointer (some ⟨pm, 0, none⟩), .int .i64 ax, .int .i64 ay, .int .i64 s, .int .i64 al, .int .i64 cp.a, .int .i64 cp.b, .int .i64 cp.c, .int .i64 cp.d]] w (Rt w (.bool false)) := by
  have g := (Gr.refl w).alloc (.cells #[.pointer (some ⟨pm, 0, none⟩), .int .i64 ax, .int .i64 ay, .int .i64 s, .int .i64 al, .int .i64 cp.a, .int .i64 cp.b, .int .i64 cp.c, .int .i64 cp.d] 82)
  rcases h with h | h
  · go_enter Try.func106, Try.ntmps106
    go_wp2
    go_ret
    exact ⟨rfl, g⟩
  · have h' : 0 ≤ al := by omega
    go_enter Try.func106, Try.ntmps106
    go_wp2
    go_ret
    exact ⟨rfl, g⟩

set_option maxRecDepth 100000 in
set_option maxHeartbeats 4000000 in
theorem pmayB {pm pc W H : Nat} {L : List Int} (ax ay s al : Int) (cp : Rc) (w : World) (hI : Img w pm pc W H L) (h0 : 0 ≤ al) (h1 : al ≤ 255) (m1 m2 m3 m4 z : Int)
    (cO : ∀ w, Calls Try.prog 98 #[.agg #[.pointer (some ⟨pm, 0, none⟩), .int .i64 ax, .int .i64 ay, .int .i64 s, .int .i64 al, .int .i64 cp.a, .int .i64 cp.b, .int .i64 cp.c, .int .i64 cp.d], .agg #[.int .i64 0, .int .i64 0, .int .i64 W, .int .i64 H]] w (Rt w (.tuple #[.agg #[.int .i64 m1, .int .i64 m2, .int .i64 m3, .int .i64 m4], .int .i64 z]))) :
    Calls Try.prog 106 #[.agg #[.pointer (some ⟨pm, 0, none⟩), .int .i64 ax, .int .i64 ay, .int .i64 s, .int .i64 al, .int .i64 cp.a, .int .i64 cp.b, .int .i64 cp.c, .int .i64 cp.d]] w (Rt w (.bool (z == 0))) := by
  have g := (Gr.refl w).alloc (.cells #[.pointer (some ⟨pm, 0, none⟩), .int .i64 ax, .int .i64 ay, .int .i64 s, .int .i64 al, .int .i64 cp.a, .int .i64 cp.b, .int .i64 cp.c, .int .i64 cp.d] 82)
  have B0 := At.new w #[.pointer (some ⟨pm, 0, none⟩), .int .i64 ax, .int .i64 ay, .int .i64 s, .int .i64 al, .int .i64 cp.a, .int .i64 cp.b, .int .i64 cp.c, .int .i64 cp.d] 82
  have I0 := hI.gr g
  have mixed : Try.prog.follows .mixedOrders = true := by kernel_rfl
  go_enter Try.func106, Try.ntmps106
  go_wp2
  obtain ⟨v1, hV⟩ : ∃ V, V = w.alloc (.cells #[.pointer (some ⟨pm, 0, none⟩), .int .i64 ax, .int .i64 ay, .int .i64 s, .int .i64 al, .int .i64 cp.a, .int .i64 cp.b, .int .i64 cp.c, .int .i64 cp.d] 82) := ⟨_, rfl⟩
  rw [← hV] at B0 I0 g ⊢
  clear hV hI
  obtain ⟨b, hb⟩ : ∃ b, b = w.heap.size := ⟨_, rfl⟩
  rw [← hb] at B0 ⊢
  clear hb
  have SK : ∀ V, Gr v1 V → (V.cell? ⟨b, 0, none⟩ = some (.pointer (some ⟨pm, 0, none⟩)) ∧ V.cell? ⟨b, 1, none⟩ = some (.int .i64 ax) ∧ V.cell? ⟨b, 2, none⟩ = some (.int .i64 ay) ∧ V.cell? ⟨b, 3, none⟩ = some (.int .i64 s) ∧ V.cell? ⟨b, 4, none⟩ = some (.int .i64 al) ∧ V.cell? ⟨b, 5, none⟩ = some (.int .i64 cp.a) ∧ V.cell? ⟨b, 6, none⟩ = some (.int .i64 cp.b) ∧ V.cell? ⟨b, 7, none⟩ = some (.int .i64 cp.c) ∧ V.cell? ⟨b, 8, none⟩ = some (.int .i64 cp.d) ∧ Gr v1 V) := fun V g => ⟨(B0.gr g).cell 0, (B0.gr g).cell 1, (B0.gr g).cell 2, (B0.gr g).cell 3, (B0.gr g).cell 4, (B0.gr g).cell 5, (B0.gr g).cell 6, (B0.gr g).cell 7, (B0.gr g).cell 8, g⟩
  go_region_held3 (fun V => V.cell? ⟨b, 0, none⟩ = some (.pointer (some ⟨pm, 0, none⟩)) ∧ V.cell? ⟨b, 1, none⟩ = some (.int .i64 ax) ∧ V.cell? ⟨b, 2, none⟩ = some (.int .i64 ay) ∧ V.cell? ⟨b, 3, none⟩ = some (.int .i64 s) ∧ V.cell? ⟨b, 4, none⟩ = some (.int .i64 al) ∧ V.cell? ⟨b, 5, none⟩ = some (.int .i64 cp.a) ∧ V.cell? ⟨b, 6, none⟩ = some (.int .i64 cp.b) ∧ V.cell? ⟨b, 7, none⟩ = some (.int .i64 cp.c) ∧ V.cell? ⟨b, 8, none⟩ = some (.int .i64 cp.d) ∧ Gr v1 V) ((refine SK _ ?_; repeat (first | with_reducible assumption | with_reducible exact Gr.refl _ | with_reducible exact (And.right (And.right (And.right (And.right (And.right (And.right (And.right (And.right (And.right (by assumption)))))))))) | with_reducible exact Gr.trans (And.right (And.right (And.right (And.right (And.right (And.right (And.right (And.right (And.right (by assumption)))))))))) (by assumption) | with_reducible apply Gr.drew | with_reducible apply Gr.alloc | (with_reducible refine Gr.st4 ?_ ?_ _ _ _ _; rotate_left; first | with_reducible exact Nat.le_refl _ | with_reducible exact Gr.size (by assumption) | omega))))
    ((first
      | (go_at_call 60; (refine (box1 _ (I0.gr (And.right (And.right (And.right (And.right (And.right (And.right (And.right (And.right (And.right (by assumption)))))))))))).mono ?_); rintro e v2 ⟨rfl, g2⟩; have G2 : Gr v1 v2 := Gr.trans (And.right (And.right (And.right (And.right (And.right (And.right (And.right (And.right (And.right (by assumption)))))))))) g2; (try have X2 : At v2 v1.heap.size #[.int .i64 0, .int .i64 0, .int .i64 0, .int .i64 0] 24 := (At.new v1.drew _ _).gr g2); (try have X2 : At v2 v1.heap.size #[.int .i64 0, .int .i64 0, .int .i64 0, .int .i64 0] 24 := (At.new v1 _ _).gr g2); (try have k2 := cells4 X2); (try have f2 := free4 X2); (try obtain ⟨k20, k21, k22, k23⟩ := k2); (try obtain ⟨f20, f21, f22, f23⟩ := f2))
      | (go_at_call 98; (refine (cO _).mono ?_); rintro e v3 ⟨rfl, g3⟩; have G3 : Gr v1 v3 := Gr.trans (And.right (And.right (And.right (And.right (And.right (And.right (And.right (And.right (And.right (by assumption)))))))))) g3; (try have X3 : At v3 v1.heap.size #[.int .i64 0, .int .i64 0, .int .i64 0, .int .i64 0] 24 := X2.gr g3); (try have X3 : At v3 v2.heap.size #[.int .i64 0, .int .i64 0, .int .i64 0, .int .i64 0] 24 := (At.new v2 _ _).gr g3); (try have X3 : At v3 v2.heap.size #[.int .i64 0, .int .i64 0, .int .i64 0, .int .i64 0] 24 := (At.new v2.drew _ _).gr g3); (try have k3 := cells4 X3); (try have f3 := free4 X3); (try obtain ⟨k30, k31, k32, k33⟩ := k3); (try obtain ⟨f30, f31, f32, f33⟩ := f3))))
  all_goals
    have GF : Gr v1 _ := And.right (And.right (And.right (And.right (And.right (And.right (And.right (And.right (And.right (by assumption)))))))))
    clear SK
    go_wp2
    go_ret
    exact ⟨rfl, g.trans GF⟩

end Go.Proofs.Ytafceieenhogpaa
namespace Go.Proofs.Ytafceieenhogpaa
open Go.RowKit Go.Sort

set_option maxHeartbeats 1000000 in
theorem pclip0 (px : Option Addr) (ax ay s al : Int) (cp : Rc) (w : World)
    (cM : ∀ w', Gr w w' → Calls Try.prog 106 #[.agg #[.pointer px, .int .i64 ax, .int .i64 ay, .int .i64 s, .int .i64 al, .int .i64 cp.a, .int .i64 cp.b, .int .i64 cp.c, .int .i64 cp.d]] w' (Rt w' (.bool false))) :
    Calls Try.prog 97 #[.agg #[.pointer px, .int .i64 ax, .int .i64 ay, .int .i64 s, .int .i64 al, .int .i64 cp.a, .int .i64 cp.b, .int .i64 cp.c, .int .i64 cp.d]] w (Rt w (.agg #[.int .i64 0, .int .i64 0, .int .i64 0, .int .i64 0])) := by
  have g := ((Gr.refl w).alloc (.cells #[.pointer px, .int .i64 ax, .int .i64 ay, .int .i64 s, .int .i64 al, .int .i64 cp.a, .int .i64 cp.b, .int .i64 cp.c, .int .i64 cp.d] 82)).alloc (.cells #[.int .i64 0, .int .i64 0, .int .i64 0, .int .i64 0] 24)
  have R0 := At.newAt (w := w.alloc (.cells #[.pointer px, .int .i64 ax, .int .i64 ay, .int .i64 s, .int .i64 al, .int .i64 cp.a, .int .i64 cp.b, .int .i64 cp.c, .int .i64 cp.d] 82)) (n := w.heap.size + 1) (by simp) #[.int .i64 0, .int .i64 0, .int .i64 0, .int .i64 0] 24
  go_enter Try.func97, Try.ntmps97
  go_wp2_with fail
  refine (cM _ g).mono ?_
  rintro e v1 ⟨rfl, g1⟩
  replace g := g.trans g1
  replace R0 := R0.gr g1
  obtain ⟨k30, k31, k32, k33⟩ := cells4 R0
  obtain ⟨f30, f31, f32, f33⟩ := free4 R0
  go_wp2
  have k := R0.put4 (.int .i64 0) (.int .i64 0) (.int .i64 0) (.int .i64 0)
  have G4 := g.st4 (k := w.heap.size + 1) (by omega) (.int .i64 0) (.int .i64 0) (.int .i64 0) (.int .i64 0)
  generalize (((v1.setCell ⟨w.heap.size + 1, 0, none⟩ (.int .i64 0)).setCell ⟨w.heap.size + 1, 1, none⟩ (.int .i64 0)).setCell ⟨w.heap.size + 1, 2, none⟩ (.int .i64 0)).setCell ⟨w.heap.size + 1, 3, none⟩ (.int .i64 0) = V4 at *
  obtain ⟨d0, d1, d2, d3⟩ := cells4 k
  exact bodyPost_ret (v := .agg #[.int .i64 0, .int .i64 0, .int .i64 0, .int .i64 0]) (by simp [results, Try.results97, go_sem, d0, d1, d2, d3]) rfl ⟨rfl, G4⟩

set_option maxRecDepth 100000 in
set_option maxHeartbeats 4000000 in
theorem pclipB {pm pc W H : Nat} {L : List Int} (ax ay s al : Int) (cp : Rc) (w : World) (hI : Img w pm pc W H L) (q1 q2 q3 q4 : Int) (hq : ownR cp W H = ⟨q1, q2, q3, q4⟩)
    (cM : ∀ w', Gr w w' → Calls Try.prog 106 #[.agg #[.pointer (some ⟨pm, 0, none⟩), .int .i64 ax, .int .i64 ay, .int .i64 s, .int .i64 al, .int .i64 cp.a, .int .i64 cp.b, .int .i64 cp.c, .int .i64 cp.d]] w' (Rt w' (.bool true))) :
    Calls Try.prog 97 #[.agg #[.pointer (some ⟨pm, 0, none⟩), .int .i64 ax, .int .i64 ay, .int .i64 s, .int .i64 al, .int .i64 cp.a, .int .i64 cp.b, .int .i64 cp.c, .int .i64 cp.d]] w (Rt w (.agg #[.int .i64 q1, .int .i64 q2, .int .i64 q3, .int .i64 q4])) := by
  have cC := fun w => cut1 0 0 W H cp.a cp.b cp.c cp.d w
  unfold ownR at hq
  rw [hq] at cC
  dsimp only at cC
  clear hq
  have hlm := hI.hd.lt
  have hlc := hI.cs.lt
  have g := ((Gr.refl w).alloc (.cells #[.pointer (some ⟨pm, 0, none⟩), .int .i64 ax, .int .i64 ay, .int .i64 s, .int .i64 al, .int .i64 cp.a, .int .i64 cp.b, .int .i64 cp.c, .int .i64 cp.d] 82)).alloc (.cells #[.int .i64 0, .int .i64 0, .int .i64 0, .int .i64 0] 24)
  have B0 := (At.new w #[.pointer (some ⟨pm, 0, none⟩), .int .i64 ax, .int .i64 ay, .int .i64 s, .int .i64 al, .int .i64 cp.a, .int .i64 cp.b, .int .i64 cp.c, .int .i64 cp.d] 82).alloc (.cells #[.int .i64 0, .int .i64 0, .int .i64 0, .int .i64 0] 24)
  have R0 := At.newAt (w := w.alloc (.cells #[.pointer (some ⟨pm, 0, none⟩), .int .i64 ax, .int .i64 ay, .int .i64 s, .int .i64 al, .int .i64 cp.a, .int .i64 cp.b, .int .i64 cp.c, .int .i64 cp.d] 82)) (n := w.heap.size + 1) (by simp) #[.int .i64 0, .int .i64 0, .int .i64 0, .int .i64 0] 24
  have mixed : Try.prog.follows .mixedOrders = true := by kernel_rfl
  go_enter Try.func97, Try.ntmps97
  go_wp2_with fail
  refine (cM _ g).mono ?_
  rintro e v1 ⟨rfl, g1⟩
  replace g := g.trans g1
  replace B0 := B0.gr g1
  replace R0 := R0.gr g1
  have I0 := hI.gr g
  clear hI g1 cM
  obtain ⟨b, hb⟩ : ∃ b, b = w.heap.size := ⟨_, rfl⟩
  have hbb : w.heap.size ≤ b := by omega
  have hbm : ¬ pm = b + 1 := by omega
  have hbc : ¬ pc = b + 1 := by omega
  rw [← hb] at B0 R0 ⊢
  clear hb hlm hlc
  have SK : ∀ V, v1.grownBy V (some (b + 1)) → (V.cell? ⟨b, 0, none⟩ = some (.pointer (some ⟨pm, 0, none⟩)) ∧ V.cell? ⟨b, 1, none⟩ = some (.int .i64 ax) ∧ V.cell? ⟨b, 2, none⟩ = some (.int .i64 ay) ∧ V.cell? ⟨b, 3, none⟩ = some (.int .i64 s) ∧ V.cell? ⟨b, 4, none⟩ = some (.int .i64 al) ∧ V.cell? ⟨b, 5, none⟩ = some (.int .i64 cp.a) ∧ V.cell? ⟨b, 6, none⟩ = some (.int .i64 cp.b) ∧ V.cell? ⟨b, 7, none⟩ = some (.int .i64 cp.c) ∧ V.cell? ⟨b, 8, none⟩ = some (.int .i64 cp.d) ∧ v1.grownBy V (some (b + 1))) := fun V g => ⟨(B0.grown g (by simp)).cell 0, (B0.grown g (by simp)).cell 1, (B0.grown g (by simp)).cell 2, (B0.grown g (by simp)).cell 3, (B0.grown g (by simp)).cell 4, (B0.grown g (by simp)).cell 5, (B0.grown g (by simp)).cell 6, (B0.grown g (by simp)).cell 7, (B0.grown g (by simp)).cell 8, g⟩
  go_wp2
  go_region_held3 (fun V => V.cell? ⟨b, 0, none⟩ = some (.pointer (some ⟨pm, 0, none⟩)) ∧ V.cell? ⟨b, 1, none⟩ = some (.int .i64 ax) ∧ V.cell? ⟨b, 2, none⟩ = some (.int .i64 ay) ∧ V.cell? ⟨b, 3, none⟩ = some (.int .i64 s) ∧ V.cell? ⟨b, 4, none⟩ = some (.int .i64 al) ∧ V.cell? ⟨b, 5, none⟩ = some (.int .i64 cp.a) ∧ V.cell? ⟨b, 6, none⟩ = some (.int .i64 cp.b) ∧ V.cell? ⟨b, 7, none⟩ = some (.int .i64 cp.c) ∧ V.cell? ⟨b, 8, none⟩ = some (.int .i64 cp.d) ∧ v1.grownBy V (some (b + 1))) ((refine SK _ ?_; repeat (first | with_reducible assumption | with_reducible exact by_refl _ _ | with_reducible exact (And.right (And.right (And.right (And.right (And.right (And.right (And.right (And.right (And.right (by assumption)))))))))) | with_reducible exact by_gr (And.right (And.right (And.right (And.right (And.right (And.right (And.right (And.right (And.right (by assumption)))))))))) (by assumption) | with_reducible apply by_drew | with_reducible apply by_alloc | with_reducible apply by_set)))
    ((first
      | (go_at_call 60; (refine (box1 _ (I0.kept (And.right (And.right (And.right (And.right (And.right (And.right (And.right (And.right (And.right (by assumption)))))))))) (by simpa using hbm) (by simpa using hbc))).mono ?_); rintro e v2 ⟨rfl, g2⟩; have G2 : v1.grownBy v2 (some (b + 1)) := by_gr (And.right (And.right (And.right (And.right (And.right (And.right (And.right (And.right (And.right (by assumption)))))))))) g2)
      | (go_at_call 63; (refine (cC _).mono ?_); rintro e v3 ⟨rfl, g3⟩; have G3 : v1.grownBy v3 (some (b + 1)) := by_gr (And.right (And.right (And.right (And.right (And.right (And.right (And.right (And.right (And.right (by assumption)))))))))) g3; have R3 := (R0.drew.gr g2).gr g3; obtain ⟨k30, k31, k32, k33⟩ := cells4 R3; obtain ⟨f30, f31, f32, f33⟩ := free4 R3; have G3 := (g.drew.trans g2).trans g3)))
  all_goals
    clear SK k30 k31 k32 k33 f30 f31 f32 f33
    have k := R3.put4 (.int .i64 q1) (.int .i64 q2) (.int .i64 q3) (.int .i64 q4)
    have G4 := G3.st4 (k := b + 1) (by omega) (.int .i64 q1) (.int .i64 q2) (.int .i64 q3) (.int .i64 q4)
    generalize (((v3.setCell ⟨b + 1, 0, none⟩ (.int .i64 q1)).setCell ⟨b + 1, 1, none⟩ (.int .i64 q2)).setCell ⟨b + 1, 2, none⟩ (.int .i64 q3)).setCell ⟨b + 1, 3, none⟩ (.int .i64 q4) = V4 at *
    obtain ⟨d0, d1, d2, d3⟩ := cells4 k
    go_wp2
    exact bodyPost_ret (v := .agg #[.int .i64 q1, .int .i64 q2, .int .i64 q3, .int .i64 q4]) (by simp [results, Try.results97, go_sem, d0, d1, d2, d3]) rfl ⟨rfl, G4⟩

end Go.Proofs.Ytafceieenhogpaa
namespace Go.Proofs.Ytafceieenhogpaa
open Go.RowKit Go.Sort

set_option maxRecDepth 100000 in
set_option maxHeartbeats 2000000 in
theorem pboxE (px : Option Addr) (ax ay s al : Int) (cp : Rc) (w : World) (q1 q2 q3 q4 : Int) (hq : emptyB q1 q2 q3 q4 = true)
    (cC : ∀ w', Gr w w' → Calls Try.prog 97 #[.agg #[.pointer px, .int .i64 ax, .int .i64 ay, .int .i64 s, .int .i64 al, .int .i64 cp.a, .int .i64 cp.b, .int .i64 cp.c, .int .i64 cp.d]] w' (Rt w' (.agg #[.int .i64 q1, .int .i64 q2, .int .i64 q3, .int .i64 q4]))) :
    Calls Try.prog 83 #[.agg #[.pointer px, .int .i64 ax, .int .i64 ay, .int .i64 s, .int .i64 al, .int .i64 cp.a, .int .i64 cp.b, .int .i64 cp.c, .int .i64 cp.d]] w (Rt w (.agg #[.int .i64 0, .int .i64 0, .int .i64 0, .int .i64 0])) := by
  have ce := fun w => empty1 q1 q2 q3 q4 w
  rw [hq] at ce
  clear hq
  have g := ((Gr.refl w).alloc (.cells #[.pointer px, .int .i64 ax, .int .i64 ay, .int .i64 s, .int .i64 al, .int .i64 cp.a, .int .i64 cp.b, .int .i64 cp.c, .int .i64 cp.d] 82)).alloc (.cells #[.int .i64 0, .int .i64 0, .int .i64 0, .int .i64 0] 24)
  have R0 := At.newAt (w := w.alloc (.cells #[.pointer px, .int .i64 ax, .int .i64 ay, .int .i64 s, .int .i64 al, .int .i64 cp.a, .int .i64 cp.b, .int .i64 cp.c, .int .i64 cp.d] 82)) (n := w.heap.size + 1) (by simp) #[.int .i64 0, .int .i64 0, .int .i64 0, .int .i64 0] 24
  go_enter Try.func83, Try.ntmps83
  go_wp2_with fail
  refine (cC _ g).mono ?_
  rintro e v1 ⟨rfl, g1⟩
  replace g := g.trans g1
  replace R0 := R0.gr g1
  clear cC g1
  go_wp2_with fail
  refine (ce _).mono ?_
  rintro e v2 ⟨rfl, g2⟩
  replace g := (g.alloc _).trans g2
  have R3 := (R0.alloc _).gr g2
  clear R0 g2
  obtain ⟨k30, k31, k32, k33⟩ := cells4 R3
  obtain ⟨f30, f31, f32, f33⟩ := free4 R3
  go_wp2
  have k := R3.put4 (.int .i64 0) (.int .i64 0) (.int .i64 0) (.int .i64 0)
  have G4 := g.st4 (k := w.heap.size + 1) (by omega) (.int .i64 0) (.int .i64 0) (.int .i64 0) (.int .i64 0)
  generalize ((((v2.setCell ⟨w.heap.size + 1, 0, none⟩ (.int .i64 0)).setCell ⟨w.heap.size + 1, 1, none⟩ (.int .i64 0)).setCell ⟨w.heap.size + 1, 2, none⟩ (.int .i64 0)).setCell ⟨w.heap.size + 1, 3, none⟩ (.int .i64 0)) = V4 at *
  obtain ⟨d0, d1, d2, d3⟩ := cells4 k
  exact bodyPost_ret (v := .agg #[.int .i64 0, .int .i64 0, .int .i64 0, .int .i64 0]) (by simp [results, Try.results83, go_sem, d0, d1, d2, d3]) rfl ⟨rfl, G4⟩

set_option maxRecDepth 100000 in
set_option maxHeartbeats 2000000 in
theorem pboxB (px : Option Addr) (ax ay s al : Int) (cp : Rc) (w : World) (q1 q2 q3 q4 m1 m2 m3 m4 z : Int) (hq : emptyB q1 q2 q3 q4 = false)
    (cC : ∀ w', Gr w w' → Calls Try.prog 97 #[.agg #[.pointer px, .int .i64 ax, .int .i64 ay, .int .i64 s, .int .i64 al, .int .i64 cp.a, .int .i64 cp.b, .int .i64 cp.c, .int .i64 cp.d]] w' (Rt w' (.agg #[.int .i64 q1, .int .i64 q2, .int .i64 q3, .int .i64 q4])))
    (cO : ∀ w', Calls Try.prog 98 #[.agg #[.pointer px, .int .i64 ax, .int .i64 ay, .int .i64 s, .int .i64 al, .int .i64 cp.a, .int .i64 cp.b, .int .i64 cp.c, .int .i64 cp.d], .agg #[.int .i64 q1, .int .i64 q2, .int .i64 q3, .int .i64 q4]] w' (Rt w' (.tuple #[.agg #[.int .i64 m1, .int .i64 m2, .int .i64 m3, .int .i64 m4], .int .i64 z]))) :
    Calls Try.prog 83 #[.agg #[.pointer px, .int .i64 ax, .int .i64 ay, .int .i64 s, .int .i64 al, .int .i64 cp.a, .int .i64 cp.b, .int .i64 cp.c, .int .i64 cp.d]] w (Rt w (.agg #[.int .i64 m1, .int .i64 m2, .int .i64 m3, .int .i64 m4])) := by
  have ce := fun w => empty1 q1 q2 q3 q4 w
  rw [hq] at ce
  clear hq
  have g := ((Gr.refl w).alloc (.cells #[.pointer px, .int .i64 ax, .int .i64 ay, .int .i64 s, .int .i64 al, .int .i64 cp.a, .int .i64 cp.b, .int .i64 cp.c, .int .i64 cp.d] 82)).alloc (.cells #[.int .i64 0, .int .i64 0, .int .i64 0, .int .i64 0] 24)
  have B0 := (At.new w #[.pointer px, .int .i64 ax, .int .i64 ay, .int .i64 s, .int .i64 al, .int .i64 cp.a, .int .i64 cp.b, .int .i64 cp.c, .int .i64 cp.d] 82).alloc (.cells #[.int .i64 0, .int .i64 0, .int .i64 0, .int .i64 0] 24)
  have R0 := At.newAt (w := w.alloc (.cells #[.pointer px, .int .i64 ax, .int .i64 ay, .int .i64 s, .int .i64 al, .int .i64 cp.a, .int .i64 cp.b, .int .i64 cp.c, .int .i64 cp.d] 82)) (n := w.heap.size + 1) (by simp) #[.int .i64 0, .int .i64 0, .int .i64 0, .int .i64 0] 24
  go_enter Try.func83, Try.ntmps83
  go_wp2_with fail
  refine (cC _ g).mono ?_
  rintro e v1 ⟨rfl, g1⟩
  replace g := g.trans g1
  replace B0 := B0.gr g1
  replace R0 := R0.gr g1
  clear cC g1
  have Q0 := At.new v1 #[.int .i64 q1, .int .i64 q2, .int .i64 q3, .int .i64 q4] 24
  go_wp2_with fail
  refine (ce _).mono ?_
  rintro e v2 ⟨rfl, g2⟩
  replace g := (g.alloc _).trans g2
  replace B0 := (B0.alloc _).gr g2
  replace R0 := (R0.alloc _).gr g2
  replace Q0 := Q0.gr g2
  clear g2
  have x0 : v2.cell? ⟨w.heap.size, 0, none⟩ = some (.pointer px) := B0.cell 0
  have x1 : v2.cell? ⟨w.heap.size, 1, none⟩ = some (.int .i64 ax) := B0.cell 1
  have x2 : v2.cell? ⟨w.heap.size, 2, none⟩ = some (.int .i64 ay) := B0.cell 2
  have x3 : v2.cell? ⟨w.heap.size, 3, none⟩ = some (.int .i64 s) := B0.cell 3
  have x4 : v2.cell? ⟨w.heap.size, 4, none⟩ = some (.int .i64 al) := B0.cell 4
  have x5 : v2.cell? ⟨w.heap.size, 5, none⟩ = some (.int .i64 cp.a) := B0.cell 5
  have x6 : v2.cell? ⟨w.heap.size, 6, none⟩ = some (.int .i64 cp.b) := B0.cell 6
  have x7 : v2.cell? ⟨w.heap.size, 7, none⟩ = some (.int .i64 cp.c) := B0.cell 7
  have x8 : v2.cell? ⟨w.heap.size, 8, none⟩ = some (.int .i64 cp.d) := B0.cell 8
  obtain ⟨k20, k21, k22, k23⟩ := cells4 Q0
  go_wp2_with fail
  refine (cO _).mono ?_
  rintro e v3 ⟨rfl, g3⟩
  replace g := (g.trans g3).alloc (.cells #[.int .i64 m1, .int .i64 m2, .int .i64 m3, .int .i64 m4] 24)
  have R3 := (R0.gr g3).alloc (.cells #[.int .i64 m1, .int .i64 m2, .int .i64 m3, .int .i64 m4] 24)
  have Y3 := At.new v3 #[.int .i64 m1, .int .i64 m2, .int .i64 m3, .int .i64 m4] 24
  clear R0 g3 Q0 k20 k21 k22 k23 x0 x1 x2 x3 x4 x5 x6 x7 x8 B0 cO ce
  obtain ⟨k30, k31, k32, k33⟩ := cells4 R3
  obtain ⟨f30, f31, f32, f33⟩ := free4 R3
  obtain ⟨y30, y31, y32, y33⟩ := cells4 Y3
  go_wp2
  have k := R3.put4 (.int .i64 m1) (.int .i64 m2) (.int .i64 m3) (.int .i64 m4)
  have G4 := g.st4 (k := w.heap.size + 1) (by omega) (.int .i64 m1) (.int .i64 m2) (.int .i64 m3) (.int .i64 m4)
  generalize (((((v3.alloc (.cells #[.int .i64 m1, .int .i64 m2, .int .i64 m3, .int .i64 m4] 24)).setCell ⟨w.heap.size + 1, 0, none⟩ (.int .i64 m1)).setCell ⟨w.heap.size + 1, 1, none⟩ (.int .i64 m2)).setCell ⟨w.heap.size + 1, 2, none⟩ (.int .i64 m3)).setCell ⟨w.heap.size + 1, 3, none⟩ (.int .i64 m4)) = V4 at *
  obtain ⟨d0, d1, d2, d3⟩ := cells4 k
  exact bodyPost_ret (v := .agg #[.int .i64 m1, .int .i64 m2, .int .i64 m3, .int .i64 m4]) (by simp [results, Try.results83, go_sem, d0, d1, d2, d3]) rfl ⟨rfl, G4⟩

end Go.Proofs.Ytafceieenhogpaa
namespace Go.Proofs.Ytafceieenhogpaa
open Go.RowKit Go.Sort Go.Deep

set_option maxRecDepth 100000 in
set_option maxHeartbeats 2000000 in
theorem lgood1 (x y : Int) (A : Option Addr) (ca : Nat) (a : List Int) (sm0 : Bool) (W0 H0 : Int) (A0 : Option Addr) (n0 c0 : Nat) (ax ay s al : Int) (cp : Rc) (w : World) (hA : Ns .u32 w A a) (h32 : ∀ c ∈ a, C32 c) (hca : a.length ≤ ca) (hcm : ca ≤ maxLen) (hx : I64 x) (hy : I64 y) (hax : I64 ax) (hay : I64 ay) (hs : I64 s) (hal : I64 al) :
    Calls Try.prog 35 #[.agg #[.bool sm0, .int .i64 W0, .int .i64 H0, .slice A0 n0 c0, .int .i64 ax, .int .i64 ay, .int .i64 s, .int .i64 al, .int .i64 cp.a, .int .i64 cp.b, .int .i64 cp.c, .int .i64 cp.d], .int .i64 x, .int .i64 y, .slice A a.length ca] w (fun e w' => ∃ rb, e = .returned (.agg #[.bool true, .int .i64 (side (around x 6) : Nat), .int .i64 (side (around y 6) : Nat), .slice (some ⟨rb, 0, none⟩) (side (around x 6) * side (around y 6)) (side (around x 6) * side (around y 6)), .int .i64 (around ax 24 - 6), .int .i64 (around ay 24 - 6), .int .i64 (1 + around s 3), .int .i64 (around al 256), .int .i64 cp.a, .int .i64 cp.b, .int .i64 cp.c, .int .i64 cp.d]) ∧
      At w' rb (cC (goodL (side (around x 6) * side (around y 6)) a)) 39 ∧ w.heap.size ≤ rb ∧ Bl w w') := by
  have c1 := fun w => around1 x 6 w hx (by omega)
  have c2 := fun w => around1 y 6 w hy (by omega)
  have c3 := fun w => around1 ax 24 w hax (by omega)
  have c4 := fun w => around1 ay 24 w hay (by omega)
  have c5 := fun w => around1 s 3 w hs (by omega)
  have c6 := fun w => around1 al 256 w hal (by omega)
  obtain ⟨u1, u2⟩ := around_bd x 6 (by omega)
  obtain ⟨u3, u4⟩ := around_bd y 6 (by omega)
  obtain ⟨u5, u6⟩ := around_bd ax 24 (by omega)
  obtain ⟨u7, u8⟩ := around_bd ay 24 (by omega)
  obtain ⟨u9, u10⟩ := around_bd s 3 (by omega)
  have cg := fun (w : World) (h : Ns .u32 w A a) => mgood1 (around x 6) (around y 6) A ca a w h h32 hca hcm (by unfold I64; omega) (by unfold I64; omega)
  generalize around x 6 = rx at *
  generalize around y 6 = ry at *
  generalize around ax 24 = r3 at *
  generalize around ay 24 = r4 at *
  generalize around s 3 = r5 at *
  generalize around al 256 = r6 at *
  generalize side rx = W at *
  generalize side ry = H at *
  generalize goodL (W * H) a = F at *
  generalize W * H = n at *
  generalize a.length = la at *
  have G := ((Gr.refl w).alloc (.cells #[.bool true, .int .i64 W0, .int .i64 H0, .slice A0 n0 c0, .int .i64 ax, .int .i64 ay, .int .i64 s, .int .i64 al, .int .i64 cp.a, .int .i64 cp.b, .int .i64 cp.c, .int .i64 cp.d] 72)).alloc (.cells #[.bool false, .int .i64 0, .int .i64 0, .slice none 0 0, .int .i64 0, .int .i64 0, .int .i64 0, .int .i64 0, .int .i64 0, .int .i64 0, .int .i64 0, .int .i64 0] 72)
  have B := (At.new w #[.bool true, .int .i64 W0, .int .i64 H0, .slice A0 n0 c0, .int .i64 ax, .int .i64 ay, .int .i64 s, .int .i64 al, .int .i64 cp.a, .int .i64 cp.b, .int .i64 cp.c, .int .i64 cp.d] 72).alloc (.cells #[.bool false, .int .i64 0, .int .i64 0, .slice none 0 0, .int .i64 0, .int .i64 0, .int .i64 0, .int .i64 0, .int .i64 0, .int .i64 0, .int .i64 0, .int .i64 0] 72)
  have R := At.newAt (w := w.alloc (.cells #[.bool true, .int .i64 W0, .int .i64 H0, .slice A0 n0 c0, .int .i64 ax, .int .i64 ay, .int .i64 s, .int .i64 al, .int .i64 cp.a, .int .i64 cp.b, .int .i64 cp.c, .int .i64 cp.d] 72)) (n := w.heap.size + 1) (by simp) #[.bool false, .int .i64 0, .int .i64 0, .slice none 0 0, .int .i64 0, .int .i64 0, .int .i64 0, .int .i64 0, .int .i64 0, .int .i64 0, .int .i64 0, .int .i64 0] 72
  have f1 : IntKind.i64.wrap (r3 - 6) = r3 - 6 := IntWalk.i64_in _ (by omega)
  have f2 : IntKind.i64.wrap (r4 - 6) = r4 - 6 := IntWalk.i64_in _ (by omega)
  go_enter Try.func35, Try.ntmps35
  go_wp2_with fail
  refine (c1 _).mono ?_
  rintro e v ⟨rfl, rfl⟩
  go_wp2_with fail
  refine (c2 _).mono ?_
  rintro e v ⟨rfl, rfl⟩
  go_wp2_with fail
  refine (cg _ (hA.bl G.bl)).mono ?_
  rintro e v1 ⟨rb, rfl, C1, hrb, g1⟩
  replace B := B.bl g1
  replace R := R.bl g1
  have GB := G.bl.trans g1
  simp at hrb
  clear g1 G c1 c2 cg hA
  obtain ⟨b, hb⟩ : ∃ b, b = w.heap.size := ⟨_, rfl⟩
  have hbb : w.heap.size ≤ b := by omega
  have hlb := B.lt
  rw [← hb] at B R hrb hlb ⊢
  clear hb
  have k0 : v1.cell? ⟨b, 1, none⟩ = some (.int .i64 W0) := B.cell 1
  have k1 : v1.cell? ⟨b, 2, none⟩ = some (.int .i64 H0) := B.cell 2
  have k2 : v1.cell? ⟨b, 3, none⟩ = some (.slice A0 n0 c0) := B.cell 3
  have k3 := B.free 1
  have k4 := B.free 2
  have k5 := B.free 3
  go_wp2
  have B1 := ((B.put 1 (.int .i64 W)).put 2 (.int .i64 H)).put 3 (.slice (some ⟨rb, 0, none⟩) n n)
  have R1 := ((R.far (p := ⟨b, 1, none⟩) (by simp) (.int .i64 W)).far (p := ⟨b, 2, none⟩) (by simp) (.int .i64 H)).far (p := ⟨b, 3, none⟩) (by simp) (.slice (some ⟨rb, 0, none⟩) n n)
  have C2 := ((C1.far (p := ⟨b, 1, none⟩) (by simp; omega) (.int .i64 W)).far (p := ⟨b, 2, none⟩) (by simp; omega) (.int .i64 H)).far (p := ⟨b, 3, none⟩) (by simp; omega) (.slice (some ⟨rb, 0, none⟩) n n)
  have G1 := ((GB.setCell (p := ⟨b, 1, none⟩) hbb (.int .i64 W)).setCell (p := ⟨b, 2, none⟩) hbb (.int .i64 H)).setCell (p := ⟨b, 3, none⟩) hbb (.slice (some ⟨rb, 0, none⟩) n n)
  generalize ((v1.setCell ⟨b, 1, none⟩ (.int .i64 W)).setCell ⟨b, 2, none⟩ (.int .i64 H)).setCell ⟨b, 3, none⟩ (.slice (some ⟨rb, 0, none⟩) n n) = V at *
  clear B R C1 GB k0 k1 k2 k3 k4 k5
  simp at B1
  have k4 : V.cell? ⟨b, 4, none⟩ = some (.int .i64 ax) := B1.cell 4
  have k5 : V.cell? ⟨b, 5, none⟩ = some (.int .i64 ay) := B1.cell 5
  have k6 := B1.free 4
  have k7 := B1.free 5
  go_still_tail 12, (by kernel_rfl)
  still_call ((c3 _).mono fun _ _ h => ⟨h.1, h.2.symm⟩)
  repeat still_step
  still_call ((c4 _).mono fun _ _ h => ⟨h.1, h.2.symm⟩)
  repeat still_step
  refine wpStill_nil ?_
  change wpList _ _ _ _ _ V.drew
  have k8 : (((V.setCell ⟨b, 4, none⟩ (.int .i64 (r3 - 6))).setCell ⟨b, 5, none⟩ (.int .i64 (r4 - 6)))).drew.cell? ⟨b, 6, none⟩ = some (.int .i64 s) := ((B1.put 4 (.int .i64 (r3 - 6))).put 5 (.int .i64 (r4 - 6))).drew.cell 6
  go_wp2_with fail
  have B2 := ((B1.put 4 (.int .i64 (r3 - 6))).put 5 (.int .i64 (r4 - 6))).drew
  have R2 := ((R1.far (p := ⟨b, 4, none⟩) (by simp) (.int .i64 (r3 - 6))).far (p := ⟨b, 5, none⟩) (by simp) (.int .i64 (r4 - 6))).drew
  have C3 := ((C2.far (p := ⟨b, 4, none⟩) (by simp; omega) (.int .i64 (r3 - 6))).far (p := ⟨b, 5, none⟩) (by simp; omega) (.int .i64 (r4 - 6))).drew
  have G2 := ((G1.setCell (p := ⟨b, 4, none⟩) hbb (.int .i64 (r3 - 6))).setCell (p := ⟨b, 5, none⟩) hbb (.int .i64 (r4 - 6))).drew
  clear k4 k5 k6 k7 k8 f1 f2
  generalize (((V.setCell ⟨b, 4, none⟩ (.int .i64 (r3 - 6))).setCell ⟨b, 5, none⟩ (.int .i64 (r4 - 6)))).drew = V2 at *
  clear B1 R1 C2 G1
  simp at B2
  refine (c5 _).mono ?_
  rintro e v ⟨rfl, rfl⟩
  have k4 : V2.cell? ⟨b, 6, none⟩ = some (.int .i64 s) := B2.cell 6
  have k5 := B2.free 6
  have k6 : (V2.setCell ⟨b, 6, none⟩ (.int .i64 (1 + r5))).cell? ⟨b, 7, none⟩ = some (.int .i64 al) := (B2.put 6 (.int .i64 (1 + r5))).cell 7
  go_wp2_with fail
  have B3 := B2.put 6 (.int .i64 (1 + r5))
  have R3 := R2.far (p := ⟨b, 6, none⟩) (by simp) (.int .i64 (1 + r5))
  have C4 := C3.far (p := ⟨b, 6, none⟩) (by simp; omega) (.int .i64 (1 + r5))
  have G3 := G2.setCell (p := ⟨b, 6, none⟩) hbb (.int .i64 (1 + r5))
  clear k4 k5 k6
  generalize (V2.setCell ⟨b, 6, none⟩ (.int .i64 (1 + r5))) = V3 at *
  clear B2 R2 C3 G2
  simp at B3
  refine (c6 _).mono ?_
  rintro e v ⟨rfl, rfl⟩
  have k4 : V3.cell? ⟨b, 7, none⟩ = some (.int .i64 al) := B3.cell 7
  have k5 := B3.free 7
  have B4 := B3.put 7 (.int .i64 r6)
  have R4 := R3.far (p := ⟨b, 7, none⟩) (by simp) (.int .i64 r6)
  have C5 := C4.far (p := ⟨b, 7, none⟩) (by simp; omega) (.int .i64 r6)
  have G4 := G3.setCell (p := ⟨b, 7, none⟩) hbb (.int .i64 r6)
  simp at B4
  have x0 : (V3.setCell ⟨b, 7, none⟩ (.int .i64 r6)).cell? ⟨b, 0, none⟩ = some (.bool true) := B4.cell 0
  have x1 : (V3.setCell ⟨b, 7, none⟩ (.int .i64 r6)).cell? ⟨b, 1, none⟩ = some (.int .i64 W) := B4.cell 1
  have x2 : (V3.setCell ⟨b, 7, none⟩ (.int .i64 r6)).cell? ⟨b, 2, none⟩ = some (.int .i64 H) := B4.cell 2
  have x3 : (V3.setCell ⟨b, 7, none⟩ (.int .i64 r6)).cell? ⟨b, 3, none⟩ = some (.slice (some ⟨rb, 0, none⟩) n n) := B4.cell 3
  have x4 : (V3.setCell ⟨b, 7, none⟩ (.int .i64 r6)).cell? ⟨b, 4, none⟩ = some (.int .i64 (r3 - 6)) := B4.cell 4
  have x5 : (V3.setCell ⟨b, 7, none⟩ (.int .i64 r6)).cell? ⟨b, 5, none⟩ = some (.int .i64 (r4 - 6)) := B4.cell 5
  have x6 : (V3.setCell ⟨b, 7, none⟩ (.int .i64 r6)).cell? ⟨b, 6, none⟩ = some (.int .i64 (1 + r5)) := B4.cell 6
  have x7 : (V3.setCell ⟨b, 7, none⟩ (.int .i64 r6)).cell? ⟨b, 7, none⟩ = some (.int .i64 r6) := B4.cell 7
  have x8 : (V3.setCell ⟨b, 7, none⟩ (.int .i64 r6)).cell? ⟨b, 8, none⟩ = some (.int .i64 cp.a) := B4.cell 8
  have x9 : (V3.setCell ⟨b, 7, none⟩ (.int .i64 r6)).cell? ⟨b, 9, none⟩ = some (.int .i64 cp.b) := B4.cell 9
  have x10 : (V3.setCell ⟨b, 7, none⟩ (.int .i64 r6)).cell? ⟨b, 10, none⟩ = some (.int .i64 cp.c) := B4.cell 10
  have x11 : (V3.setCell ⟨b, 7, none⟩ (.int .i64 r6)).cell? ⟨b, 11, none⟩ = some (.int .i64 cp.d) := B4.cell 11
  have y0 : (V3.setCell ⟨b, 7, none⟩ (.int .i64 r6)).cell? ⟨b + 1, 0, none⟩ = some (.bool false) := R4.cell 0
  have y1 : (V3.setCell ⟨b, 7, none⟩ (.int .i64 r6)).cell? ⟨b + 1, 1, none⟩ = some (.int .i64 0) := R4.cell 1
  have y2 : (V3.setCell ⟨b, 7, none⟩ (.int .i64 r6)).cell? ⟨b + 1, 2, none⟩ = some (.int .i64 0) := R4.cell 2
  have y3 : (V3.setCell ⟨b, 7, none⟩ (.int .i64 r6)).cell? ⟨b + 1, 3, none⟩ = some (.slice none 0 0) := R4.cell 3
  have y4 : (V3.setCell ⟨b, 7, none⟩ (.int .i64 r6)).cell? ⟨b + 1, 4, none⟩ = some (.int .i64 0) := R4.cell 4
  have y5 : (V3.setCell ⟨b, 7, none⟩ (.int .i64 r6)).cell? ⟨b + 1, 5, none⟩ = some (.int .i64 0) := R4.cell 5
  have y6 : (V3.setCell ⟨b, 7, none⟩ (.int .i64 r6)).cell? ⟨b + 1, 6, none⟩ = some (.int .i64 0) := R4.cell 6
  have y7 : (V3.setCell ⟨b, 7, none⟩ (.int .i64 r6)).cell? ⟨b + 1, 7, none⟩ = some (.int .i64 0) := R4.cell 7
  have y8 : (V3.setCell ⟨b, 7, none⟩ (.int .i64 r6)).cell? ⟨b + 1, 8, none⟩ = some (.int .i64 0) := R4.cell 8
  have y9 : (V3.setCell ⟨b, 7, none⟩ (.int .i64 r6)).cell? ⟨b + 1, 9, none⟩ = some (.int .i64 0) := R4.cell 9
  have y10 : (V3.setCell ⟨b, 7, none⟩ (.int .i64 r6)).cell? ⟨b + 1, 10, none⟩ = some (.int .i64 0) := R4.cell 10
  have y11 : (V3.setCell ⟨b, 7, none⟩ (.int .i64 r6)).cell? ⟨b + 1, 11, none⟩ = some (.int .i64 0) := R4.cell 11
  have z0 := R4.free 0
  have z1 := R4.free 1
  have z2 := R4.free 2
  have z3 := R4.free 3
  have z4 := R4.free 4
  have z5 := R4.free 5
  have z6 := R4.free 6
  have z7 := R4.free 7
  have z8 := R4.free 8
  have z9 := R4.free 9
  have z10 := R4.free 10
  have z11 := R4.free 11
  go_wp2
  have R5 := ((((((((((((R4.put 0 (.bool true)).put 1 (.int .i64 W)).put 2 (.int .i64 H)).put 3 (.slice (some ⟨rb, 0, none⟩) n n)).put 4 (.int .i64 (r3 - 6))).put 5 (.int .i64 (r4 - 6))).put 6 (.int .i64 (1 + r5))).put 7 (.int .i64 r6)).put 8 (.int .i64 cp.a)).put 9 (.int .i64 cp.b)).put 10 (.int .i64 cp.c)).put 11 (.int .i64 cp.d))
  have G5 := ((((((((((((G4.setCell (p := ⟨b + 1, 0, none⟩) (by simp; omega) (.bool true)).setCell (p := ⟨b + 1, 1, none⟩) (by simp; omega) (.int .i64 W)).setCell (p := ⟨b + 1, 2, none⟩) (by simp; omega) (.int .i64 H)).setCell (p := ⟨b + 1, 3, none⟩) (by simp; omega) (.slice (some ⟨rb, 0, none⟩) n n)).setCell (p := ⟨b + 1, 4, none⟩) (by simp; omega) (.int .i64 (r3 - 6))).setCell (p := ⟨b + 1, 5, none⟩) (by simp; omega) (.int .i64 (r4 - 6))).setCell (p := ⟨b + 1, 6, none⟩) (by simp; omega) (.int .i64 (1 + r5))).setCell (p := ⟨b + 1, 7, none⟩) (by simp; omega) (.int .i64 r6)).setCell (p := ⟨b + 1, 8, none⟩) (by simp; omega) (.int .i64 cp.a)).setCell (p := ⟨b + 1, 9, none⟩) (by simp; omega) (.int .i64 cp.b)).setCell (p := ⟨b + 1, 10, none⟩) (by simp; omega) (.int .i64 cp.c)).setCell (p := ⟨b + 1, 11, none⟩) (by simp; omega) (.int .i64 cp.d))
  have C6 := ((((((((((((C5.far (p := ⟨b + 1, 0, none⟩) (by simp; omega) (.bool true)).far (p := ⟨b + 1, 1, none⟩) (by simp; omega) (.int .i64 W)).far (p := ⟨b + 1, 2, none⟩) (by simp; omega) (.int .i64 H)).far (p := ⟨b + 1, 3, none⟩) (by simp; omega) (.slice (some ⟨rb, 0, none⟩) n n)).far (p := ⟨b + 1, 4, none⟩) (by simp; omega) (.int .i64 (r3 - 6))).far (p := ⟨b + 1, 5, none⟩) (by simp; omega) (.int .i64 (r4 - 6))).far (p := ⟨b + 1, 6, none⟩) (by simp; omega) (.int .i64 (1 + r5))).far (p := ⟨b + 1, 7, none⟩) (by simp; omega) (.int .i64 r6)).far (p := ⟨b + 1, 8, none⟩) (by simp; omega) (.int .i64 cp.a)).far (p := ⟨b + 1, 9, none⟩) (by simp; omega) (.int .i64 cp.b)).far (p := ⟨b + 1, 10, none⟩) (by simp; omega) (.int .i64 cp.c)).far (p := ⟨b + 1, 11, none⟩) (by simp; omega) (.int .i64 cp.d))
  clear x0 x1 x2 x3 x4 x5 x6 x7 x8 x9 x10 x11 y0 y1 y2 y3 y4 y5 y6 y7 y8 y9 y10 y11 z0 z1 z2 z3 z4 z5 z6 z7 z8 z9 z10 z11 k4 k5
  generalize (((((((((((((V3.setCell ⟨b, 7, none⟩ (.int .i64 r6)).setCell ⟨b + 1, 0, none⟩ (.bool true)).setCell ⟨b + 1, 1, none⟩ (.int .i64 W)).setCell ⟨b + 1, 2, none⟩ (.int .i64 H)).setCell ⟨b + 1, 3, none⟩ (.slice (some ⟨rb, 0, none⟩) n n)).setCell ⟨b + 1, 4, none⟩ (.int .i64 (r3 - 6))).setCell ⟨b + 1, 5, none⟩ (.int .i64 (r4 - 6))).setCell ⟨b + 1, 6, none⟩ (.int .i64 (1 + r5))).setCell ⟨b + 1, 7, none⟩ (.int .i64 r6)).setCell ⟨b + 1, 8, none⟩ (.int .i64 cp.a)).setCell ⟨b + 1, 9, none⟩ (.int .i64 cp.b)).setCell ⟨b + 1, 10, none⟩ (.int .i64 cp.c)).setCell ⟨b + 1, 11, none⟩ (.int .i64 cp.d)) = V5 at *
  simp at R5
  have d0 : V5.cell? ⟨b + 1, 0, none⟩ = some (.bool true) := R5.cell 0
  have d1 : V5.cell? ⟨b + 1, 1, none⟩ = some (.int .i64 W) := R5.cell 1
  have d2 : V5.cell? ⟨b + 1, 2, none⟩ = some (.int .i64 H) := R5.cell 2
  have d3 : V5.cell? ⟨b + 1, 3, none⟩ = some (.slice (some ⟨rb, 0, none⟩) n n) := R5.cell 3
  have d4 : V5.cell? ⟨b + 1, 4, none⟩ = some (.int .i64 (r3 - 6)) := R5.cell 4
  have d5 : V5.cell? ⟨b + 1, 5, none⟩ = some (.int .i64 (r4 - 6)) := R5.cell 5
  have d6 : V5.cell? ⟨b + 1, 6, none⟩ = some (.int .i64 (1 + r5)) := R5.cell 6
  have d7 : V5.cell? ⟨b + 1, 7, none⟩ = some (.int .i64 r6) := R5.cell 7
  have d8 : V5.cell? ⟨b + 1, 8, none⟩ = some (.int .i64 cp.a) := R5.cell 8
  have d9 : V5.cell? ⟨b + 1, 9, none⟩ = some (.int .i64 cp.b) := R5.cell 9
  have d10 : V5.cell? ⟨b + 1, 10, none⟩ = some (.int .i64 cp.c) := R5.cell 10
  have d11 : V5.cell? ⟨b + 1, 11, none⟩ = some (.int .i64 cp.d) := R5.cell 11
  exact bodyPost_ret (v := .agg #[.bool true, .int .i64 W, .int .i64 H, .slice (some ⟨rb, 0, none⟩) n n, .int .i64 (r3 - 6), .int .i64 (r4 - 6), .int .i64 (1 + r5), .int .i64 r6, .int .i64 cp.a, .int .i64 cp.b, .int .i64 cp.c, .int .i64 cp.d]) (by simp [results, Try.results35, go_sem, d0, d1, d2, d3, d4, d5, d6, d7, d8, d9, d10, d11]) rfl ⟨rb, rfl, C6, by omega, G5⟩

end Go.Proofs.Ytafceieenhogpaa
