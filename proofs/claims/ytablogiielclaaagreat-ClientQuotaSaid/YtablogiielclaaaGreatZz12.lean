/-
  What is proved: plain arithmetic of a layer: which points of a canvas show one of its image, as a rectangle and point by point. No conditions but bounds. what in, May, floor of the document's layers hand back. No conditions but bounds. what onCanvas, May, clipped and Box of package paint hand back. No conditions but bounds. what May, clipped and Box of package paint hand back. No conditions but bounds. what clipped of package paint hands back. No conditions but bounds. what Box of package paint hands back. No conditions but bounds.
-/
import Derived.Test.YtablogiielclaaaGreatZz11
import Derived.Test.YtablogiielclaaaGreatZz6
import Derived.Test.YtablogiielclaaaGreatZz9
import Derived.Test.YtablogiielclaaaGreatZz8
import Derived.Test.YtablogiielclaaaGreatZz10
import Derived.Deep.RegionHeld3
namespace Go.Proofs.YtablogiielclaaaGreat
open Go.RowKit Go.Sort

theorem hasB_empty {a b c d x y : Int} (e : emptyB a b c d = true) : hasB a b c d x y = false := by
  unfold emptyB at e; unfold hasB; simp at *; omega
theorem w64i {x : Int} (h0 : -1000000000000000 ≤ x) (h1 : x ≤ 1000000000000000) : wrap64 x = x := by unfold wrap64; omega
/-- The quotient that the document tells, and the program's. -/
def flo (a b : Int) : Int := if a.tdiv b * b > a then a.tdiv b - 1 else a.tdiv b
theorem flo_eq {a b : Int} (hb : 1 ≤ b) : flo a b = a / b := by
  unfold flo
  by_cases ha : 0 ≤ a
  · rw [Int.tdiv_eq_ediv_of_nonneg ha]
    have := Int.ediv_mul_le a (show b ≠ 0 by omega)
    rw [if_neg (by omega)]
  · have h1 : a.tdiv b = -((-a) / b) := by
      have : a = -(-a) := by omega
      rw [this, Int.neg_tdiv, Int.tdiv_eq_ediv_of_nonneg (by omega)]; simp
    have e := Int.mul_ediv_add_emod (-a) b
    have m1 := Int.emod_nonneg (-a) (show b ≠ 0 by omega)
    have m2 := Int.emod_lt_of_pos (-a) (show 0 < b by omega)
    have hq : a.tdiv b * b = a + (-a) % b := by
      rw [h1, Int.neg_mul, Int.mul_comm]; omega
    have e2 := Int.mul_ediv_add_emod a b
    have n1 := Int.emod_nonneg a (show b ≠ 0 by omega)
    have n2 := Int.emod_lt_of_pos a (show 0 < b by omega)
    by_cases hz : (-a) % b = 0
    · rw [if_neg (by omega)]
      have h3 : b * (a.tdiv b) = b * (a / b) + a % b := by rw [Int.mul_comm]; omega
      have h4 : b * (a.tdiv b - a / b) = a % b := by rw [Int.mul_sub]; omega
      rcases Int.lt_trichotomy (a.tdiv b - a / b) 0 with h5 | h5 | h5
      · have := Int.mul_le_mul_of_nonneg_left (show a.tdiv b - a / b ≤ -1 by omega) (show 0 ≤ b by omega); omega
      · omega
      · have := Int.mul_le_mul_of_nonneg_left (show 1 ≤ a.tdiv b - a / b by omega) (show 0 ≤ b by omega); omega
    · rw [if_pos (by omega)]
      have h3 : b * (a.tdiv b) = b * (a / b) + a % b + (-a) % b := by rw [Int.mul_comm]; omega
      have h4 : b * (a.tdiv b - 1 - a / b) = a % b + (-a) % b - b := by rw [Int.mul_sub, Int.mul_sub]; omega
      rcases Int.lt_trichotomy (a.tdiv b - 1 - a / b) 0 with h5 | h5 | h5
      · have := Int.mul_le_mul_of_nonneg_left (show a.tdiv b - 1 - a / b ≤ -1 by omega) (show 0 ≤ b by omega); omega
      · omega
      · have := Int.mul_le_mul_of_nonneg_left (show 1 ≤ a.tdiv b - 1 - a / b by omega) (show 0 ≤ b by omega); omega

/-- What the clip has of the image. -/
def ownR (cp : Rc) (W H : Nat) : Rc := cutR 0 0 W H cp.a cp.b cp.c cp.d
def lyE (cp : Rc) (W H : Nat) : Bool := emptyB (ownR cp W H).a (ownR cp W H).b (ownR cp W H).c (ownR cp W H).d
/-- The box of a layer. -/
def lyBox (cp : Rc) (W H : Nat) (s ax ay : Int) : Rc :=
  if lyE cp W H = true then ⟨0, 0, 0, 0⟩ else ⟨ax + (ownR cp W H).a * s, ay + (ownR cp W H).b * s, ax + (ownR cp W H).c * s, ay + (ownR cp W H).d * s⟩
/-- Whether a point of a canvas shows one. -/
def lyHas (cp : Rc) (W H : Nat) (s ax ay x y : Int) : Bool := hasB 0 0 W H ((x - ax) / s) ((y - ay) / s) && hasB cp.a cp.b cp.c cp.d ((x - ax) / s) ((y - ay) / s)
theorem span_has {a c s ax x : Int} (hs : 1 ≤ s) : (ax + a * s ≤ x ∧ x < ax + c * s) ↔ (a ≤ (x - ax) / s ∧ (x - ax) / s < c) := by
  rw [Int.le_ediv_iff_mul_le (by omega), Int.ediv_lt_iff_lt_mul (by omega)]
  omega
theorem ownR_bd (cp : Rc) (W H : Nat) : 0 ≤ (ownR cp W H).a ∧ (ownR cp W H).a ≤ (ownR cp W H).c ∧ (ownR cp W H).c ≤ W ∧ 0 ≤ (ownR cp W H).b ∧ (ownR cp W H).b ≤ (ownR cp W H).d ∧ (ownR cp W H).d ≤ H := by
  unfold ownR cutR
  by_cases e : emptyB (max 0 cp.a) (max 0 cp.b) (min W cp.c) (min H cp.d) = true
  · rw [if_pos e]; simp
  · rw [if_neg e]
    simp [emptyB] at e
    simp only []
    omega
theorem lyBox_has {cp : Rc} {W H : Nat} {s ax ay x y : Int} (hs : 1 ≤ s) : hasB (lyBox cp W H s ax ay).a (lyBox cp W H s ax ay).b (lyBox cp W H s ax ay).c (lyBox cp W H s ax ay).d x y = lyHas cp W H s ax ay x y := by
  unfold lyHas
  rw [← cutR_has]
  show _ = hasB (ownR cp W H).a (ownR cp W H).b (ownR cp W H).c (ownR cp W H).d _ _
  unfold lyBox lyE
  by_cases e : emptyB (ownR cp W H).a (ownR cp W H).b (ownR cp W H).c (ownR cp W H).d = true
  · rw [if_pos e, hasB_empty e]; simp [hasB]
  · rw [if_neg e]
    have h1 := span_has (a := (ownR cp W H).a) (c := (ownR cp W H).c) (ax := ax) (x := x) hs
    have h2 := span_has (a := (ownR cp W H).b) (c := (ownR cp W H).d) (ax := ay) (x := y) hs
    rw [Bool.eq_iff_iff]
    unfold hasB
    simp only [decide_eq_true_eq]
    constructor
    · rintro ⟨k1, k2, k3, k4⟩
      have := h1.1 ⟨k1, k2⟩; have := h2.1 ⟨k3, k4⟩
      exact ⟨this.1 |> fun _ => (h1.1 ⟨k1, k2⟩).1, (h1.1 ⟨k1, k2⟩).2, (h2.1 ⟨k3, k4⟩).1, (h2.1 ⟨k3, k4⟩).2⟩
    · rintro ⟨k1, k2, k3, k4⟩
      exact ⟨(h1.2 ⟨k1, k2⟩).1, (h1.2 ⟨k1, k2⟩).2, (h2.2 ⟨k3, k4⟩).1, (h2.2 ⟨k3, k4⟩).2⟩
/-- Which layers may be. -/
def lyMay (W H : Nat) (s al ax ay : Int) : Bool := decide (1 ≤ s ∧ s ≤ 8 ∧ 0 ≤ al ∧ al ≤ 255 ∧ inB ax = true ∧ inB ay = true ∧ inB (ax + W * s) = true ∧ inB (ay + H * s) = true)

end Go.Proofs.YtablogiielclaaaGreat
namespace Go.Proofs.YtablogiielclaaaGreat
open Go.RowKit Go.Sort

set_option maxHeartbeats 400000 in
theorem rin1 (a : Int) (w : World) : Calls Tryz.prog 137 #[.int .i64 a] w (Rt w (.bool (inB a))) := by
  go_enter Tryz.func137, Tryz.ntmps137
  go_wp2
  all_goals
    go_ret
    refine Rt.bool ?_ (Gr.refl _)
    simp [inB] <;> omega

set_option maxHeartbeats 1000000 in
theorem rmay0 (W H : Nat) (A : Option Addr) (n rc : Nat) (ax ay s al : Int) (cp : Rc) (w : World) :
    Calls Tryz.prog 74 #[.agg #[.bool false, .int .i64 W, .int .i64 H, .slice A n rc, .int .i64 ax, .int .i64 ay, .int .i64 s, .int .i64 al, .int .i64 cp.a, .int .i64 cp.b, .int .i64 cp.c, .int .i64 cp.d]] w (Rt w (.bool false)) := by
  have g := (Gr.refl w).alloc (.cells #[.bool false, .int .i64 W, .int .i64 H, .slice A n rc, .int .i64 ax, .int .i64 ay, .int .i64 s, .int .i64 al, .int .i64 cp.a, .int .i64 cp.b, .int .i64 cp.c, .int .i64 cp.d] 124)
  go_enter Tryz.func74, Tryz.ntmps74
  go_wp2
  go_ret
  exact ⟨rfl, g⟩

theorem mul_bd {W : Nat} {s : Int} (hW : W ≤ 256) (h1 : 1 ≤ s) (h8 : s ≤ 8) : 0 ≤ (W : Int) * s ∧ (W : Int) * s ≤ 2048 := by
  refine ⟨Int.mul_nonneg (by omega) (by omega), ?_⟩
  calc (W : Int) * s ≤ 256 * s := Int.mul_le_mul_of_nonneg_right (by omega) (by omega)
    _ ≤ 256 * 8 := Int.mul_le_mul_of_nonneg_left h8 (by omega)

set_option maxRecDepth 100000 in
set_option maxHeartbeats 2000000 in
theorem rmay1 (W H : Nat) (A : Option Addr) (n rc : Nat) (ax ay s al : Int) (cp : Rc) (w : World) (hW : W ≤ 256) (hH : H ≤ 256) (b : Bool) (hb : lyMay W H s al ax ay = b) :
    Calls Tryz.prog 74 #[.agg #[.bool true, .int .i64 W, .int .i64 H, .slice A n rc, .int .i64 ax, .int .i64 ay, .int .i64 s, .int .i64 al, .int .i64 cp.a, .int .i64 cp.b, .int .i64 cp.c, .int .i64 cp.d]] w (Rt w (.bool b)) := by
  have g := (Gr.refl w).alloc (.cells #[.bool true, .int .i64 W, .int .i64 H, .slice A n rc, .int .i64 ax, .int .i64 ay, .int .i64 s, .int .i64 al, .int .i64 cp.a, .int .i64 cp.b, .int .i64 cp.c, .int .i64 cp.d] 124)
  have B0 := At.new w #[.bool true, .int .i64 W, .int .i64 H, .slice A n rc, .int .i64 ax, .int .i64 ay, .int .i64 s, .int .i64 al, .int .i64 cp.a, .int .i64 cp.b, .int .i64 cp.c, .int .i64 cp.d] 124
  by_cases hs : 1 ≤ s ∧ s ≤ 8 ∧ 0 ≤ al ∧ al ≤ 255
  · obtain ⟨s1, s8, a1, a2⟩ := hs
    obtain ⟨p1, p2⟩ := mul_bd hW s1 s8
    obtain ⟨p3, p4⟩ := mul_bd hH s1 s8
    have c1 := fun w => rin1 ax w
    have c2 := fun w => rin1 ay w
    have c3 := fun w => rin1 (ax + W * s) w
    have c4 := fun w => rin1 (ay + H * s) w
    have hL : lyMay W H s al ax ay = (inB ax && inB ay && inB (ax + W * s) && inB (ay + H * s)) := by
      unfold lyMay; rw [Bool.eq_iff_iff]; simp only [Bool.and_eq_true, decide_eq_true_eq]; constructor
      · rintro ⟨_, _, _, _, h1, h2, h3, h4⟩; exact ⟨⟨⟨h1, h2⟩, h3⟩, h4⟩
      · rintro ⟨⟨⟨h1, h2⟩, h3⟩, h4⟩; exact ⟨s1, s8, a1, a2, h1, h2, h3, h4⟩
    rw [hL] at hb
    clear hL
    cases h1 : inB ax
    · rw [h1] at c1 hb
      obtain rfl : b = false := by simpa using hb.symm
      clear h1 hb
      go_enter Tryz.func74, Tryz.ntmps74
      go_wp2_with fail
      refine (c1 _).mono ?_
      rintro e w1 ⟨rfl, g1⟩
      go_wp2
      go_ret
      exact ⟨rfl, g.trans g1⟩
    · rw [h1] at c1 hb
      have b1 : -1048576 ≤ ax ∧ ax ≤ 1048576 := by simpa [inB] using h1
      clear h1
      cases h2 : inB ay
      · rw [h2] at c2 hb
        obtain rfl : b = false := by simpa using hb.symm
        clear h2 hb
        go_enter Tryz.func74, Tryz.ntmps74
        go_wp2_with fail
        refine (c1 _).mono ?_
        rintro e w1 ⟨rfl, g1⟩
        have k5 : w1.cell? ⟨w.heap.size, 5, none⟩ = some (.int .i64 ay) := (B0.gr g1).cell 5
        go_wp2_with fail
        refine (c2 _).mono ?_
        rintro e w2 ⟨rfl, g2⟩
        go_wp2
        go_ret
        exact ⟨rfl, (g.trans g1).trans g2⟩
      · rw [h2] at c2 hb
        have b2 : -1048576 ≤ ay ∧ ay ≤ 1048576 := by simpa [inB] using h2
        clear h2
        obtain ⟨p, hp⟩ : ∃ p, p = (W : Int) * s := ⟨_, rfl⟩
        obtain ⟨r, hr⟩ : ∃ r, r = (H : Int) * s := ⟨_, rfl⟩
        rw [← hp] at p1 p2 c3 hb
        rw [← hr] at p3 p4 c4 hb
        have e1 : IntKind.i64.wrap ((W : Int) * s) = p := by rw [← hp]; exact IntWalk.i64_in _ (by omega)
        have e2 : IntKind.i64.wrap ((H : Int) * s) = r := by rw [← hr]; exact IntWalk.i64_in _ (by omega)
        have q1 : wrap64 ((W : Int) * s) = p := by rw [← hp]; exact w64i (by omega) (by omega)
        have q2 : wrap64 ((H : Int) * s) = r := by rw [← hr]; exact w64i (by omega) (by omega)
        have e3 : IntKind.i64.wrap (ax + p) = ax + p := IntWalk.i64_in _ (by omega)
        have e4 : IntKind.i64.wrap (ay + r) = ay + r := IntWalk.i64_in _ (by omega)
        have e5 : wrap64 (ax + p) = ax + p := w64i (by omega) (by omega)
        have e6 : wrap64 (ay + r) = ay + r := w64i (by omega) (by omega)
        clear hp hr
        cases h3 : inB (ax + p)
        · rw [h3] at c3 hb
          obtain rfl : b = false := by simpa using hb.symm
          clear h3 hb
          go_enter Tryz.func74, Tryz.ntmps74
          go_wp2_with fail
          refine (c1 _).mono ?_
          rintro e w1 ⟨rfl, g1⟩
          have k5 : w1.cell? ⟨w.heap.size, 5, none⟩ = some (.int .i64 ay) := (B0.gr g1).cell 5
          go_wp2_with fail
          refine (c2 _).mono ?_
          rintro e w2 ⟨rfl, g2⟩
          have y1 : w2.cell? ⟨w.heap.size, 1, none⟩ = some (.int .i64 W) := ((B0.gr g1).gr g2).cell 1
          have y2 : w2.cell? ⟨w.heap.size, 2, none⟩ = some (.int .i64 H) := ((B0.gr g1).gr g2).cell 2
          have y4 : w2.cell? ⟨w.heap.size, 4, none⟩ = some (.int .i64 ax) := ((B0.gr g1).gr g2).cell 4
          have y5 : w2.cell? ⟨w.heap.size, 5, none⟩ = some (.int .i64 ay) := ((B0.gr g1).gr g2).cell 5
          have y6 : w2.cell? ⟨w.heap.size, 6, none⟩ = some (.int .i64 s) := ((B0.gr g1).gr g2).cell 6
          go_wp2_with fail
          refine (c3 _).mono ?_
          rintro e w3 ⟨rfl, g3⟩
          go_wp2
          go_ret
          exact ⟨rfl, ((g.trans g1).trans g2).trans g3⟩
        · rw [h3] at c3 hb
          simp only [Bool.true_and] at hb
          rw [hb] at c4
          clear h3 hb
          go_enter Tryz.func74, Tryz.ntmps74
          go_wp2_with fail
          refine (c1 _).mono ?_
          rintro e w1 ⟨rfl, g1⟩
          have k5 : w1.cell? ⟨w.heap.size, 5, none⟩ = some (.int .i64 ay) := (B0.gr g1).cell 5
          go_wp2_with fail
          refine (c2 _).mono ?_
          rintro e w2 ⟨rfl, g2⟩
          have y1 : w2.cell? ⟨w.heap.size, 1, none⟩ = some (.int .i64 W) := ((B0.gr g1).gr g2).cell 1
          have y2 : w2.cell? ⟨w.heap.size, 2, none⟩ = some (.int .i64 H) := ((B0.gr g1).gr g2).cell 2
          have y4 : w2.cell? ⟨w.heap.size, 4, none⟩ = some (.int .i64 ax) := ((B0.gr g1).gr g2).cell 4
          have y5 : w2.cell? ⟨w.heap.size, 5, none⟩ = some (.int .i64 ay) := ((B0.gr g1).gr g2).cell 5
          have y6 : w2.cell? ⟨w.heap.size, 6, none⟩ = some (.int .i64 s) := ((B0.gr g1).gr g2).cell 6
          go_wp2_with fail
          refine (c3 _).mono ?_
          rintro e w3 ⟨rfl, g3⟩
          have z1 : w3.cell? ⟨w.heap.size, 1, none⟩ = some (.int .i64 W) := (((B0.gr g1).gr g2).gr g3).cell 1
          have z2 : w3.cell? ⟨w.heap.size, 2, none⟩ = some (.int .i64 H) := (((B0.gr g1).gr g2).gr g3).cell 2
          have z4 : w3.cell? ⟨w.heap.size, 4, none⟩ = some (.int .i64 ax) := (((B0.gr g1).gr g2).gr g3).cell 4
          have z5 : w3.cell? ⟨w.heap.size, 5, none⟩ = some (.int .i64 ay) := (((B0.gr g1).gr g2).gr g3).cell 5
          have z6 : w3.cell? ⟨w.heap.size, 6, none⟩ = some (.int .i64 s) := (((B0.gr g1).gr g2).gr g3).cell 6
          go_wp2_with fail
          refine (c4 _).mono ?_
          rintro e w4 ⟨rfl, g4⟩
          go_wp2
          go_ret
          exact ⟨rfl, (((g.trans g1).trans g2).trans g3).trans g4⟩
  · obtain rfl : b = false := by
      rw [← hb]; unfold lyMay; rw [decide_eq_false_iff_not]; rintro ⟨h1, h2, h3, h4, _⟩; exact hs ⟨h1, h2, h3, h4⟩
    have hw : s < 1 ∨ (1 ≤ s ∧ 8 < s) ∨ (1 ≤ s ∧ s ≤ 8 ∧ al < 0) ∨ (1 ≤ s ∧ s ≤ 8 ∧ 0 ≤ al ∧ 255 < al) := by omega
    clear hs hb
    rcases hw with h | ⟨h, h2⟩ | ⟨h, h2, h3⟩ | ⟨h, h2, h3, h4⟩
    all_goals
      go_enter Tryz.func74, Tryz.ntmps74
      go_wp2
      go_ret
      exact ⟨rfl, g⟩

set_option maxHeartbeats 1000000 in
theorem rfloor1 (a b : Int) (w : World) (hb : 1 ≤ b) (hb8 : b ≤ 8) (h1 : -9000000000000 ≤ a) (h2 : a ≤ 9000000000000) :
    Calls Tryz.prog 204 #[.int .i64 a, .int .i64 b] w (fun e w' => e = .returned (.int .i64 (a / b)) ∧ w = w') := by
  rw [← flo_eq hb]
  have hq : a.tdiv b * b ≤ 9000000000000 ∧ -9000000000000 ≤ a.tdiv b * b ∧ -9000000000000 ≤ a.tdiv b ∧ a.tdiv b ≤ 9000000000000 := by
    have e := Int.mul_tdiv_add_tmod a b
    rcases Int.lt_or_le a 0 with h | h
    · have f : a.tdiv b = -((-a) / b) := by
        have : a = -(-a) := by omega
        rw [this, Int.neg_tdiv, Int.tdiv_eq_ediv_of_nonneg (by omega)]; simp
      have m1 := Int.mul_ediv_add_emod (-a) b
      have m2 := Int.emod_nonneg (-a) (show b ≠ 0 by omega)
      have m3 := Int.ediv_nonneg (show 0 ≤ -a by omega) (show 0 ≤ b by omega)
      have m4 := Int.ediv_le_self b (show 0 ≤ -a by omega)
      have m6 : 0 ≤ b * (-a / b) := Int.mul_nonneg (by omega) m3
      have m5 : -(-a / b) * b = -(b * (-a / b)) := by rw [Int.neg_mul, Int.mul_comm]
      rw [f, m5]
      generalize b * (-a / b) = z at *
      generalize -a / b = y at *
      omega
    · have f : a.tdiv b = a / b := Int.tdiv_eq_ediv_of_nonneg h
      have m1 := Int.mul_ediv_add_emod a b
      have m2 := Int.emod_nonneg a (show b ≠ 0 by omega)
      have m3 := Int.ediv_nonneg h (show 0 ≤ b by omega)
      have m4 := Int.ediv_le_self b h
      have m6 : 0 ≤ b * (a / b) := Int.mul_nonneg (by omega) m3
      have m5 : a / b * b = b * (a / b) := Int.mul_comm _ _
      rw [f, m5]
      generalize b * (a / b) = z at *
      generalize a / b = y at *
      omega
  obtain ⟨q1, q2, q3, q4⟩ := hq
  have hz : ¬ b = 0 := by omega
  have hf : flo a b = if a.tdiv b * b > a then a.tdiv b - 1 else a.tdiv b := rfl
  rw [hf]
  clear hf
  obtain ⟨q, hq⟩ : ∃ q, q = a.tdiv b := ⟨_, rfl⟩
  rw [← hq] at q1 q2 q3 q4 ⊢
  obtain ⟨m, hm⟩ : ∃ m, m = q * b := ⟨_, rfl⟩
  rw [← hm] at q1 q2 ⊢
  have d1 : IntKind.i64.wrap (a.tdiv b) = q := by rw [← hq]; exact IntWalk.i64_in _ (by omega)
  have d2 : wrap64 (a.tdiv b) = q := by rw [← hq]; exact w64i (by omega) (by omega)
  have d3 : IntKind.i64.wrap (q * b) = m := by rw [← hm]; exact IntWalk.i64_in _ (by omega)
  have d4 : wrap64 (q * b) = m := by rw [← hm]; exact w64i (by omega) (by omega)
  have d5 : IntKind.i64.wrap (q - 1) = q - 1 := IntWalk.i64_in _ (by omega)
  clear hq hm
  by_cases h : m > a
  · rw [if_pos h]
    go_enter Tryz.func204, Tryz.ntmps204
    go_wp2
    go_ret
    exact ⟨rfl, rfl⟩
  · rw [if_neg h]
    go_enter Tryz.func204, Tryz.ntmps204
    go_wp2
    go_ret
    exact ⟨rfl, rfl⟩

end Go.Proofs.YtablogiielclaaaGreat
namespace Go.Proofs.YtablogiielclaaaGreat
open Go.RowKit Go.Sort

attribute [local go_sem] cell?_grow frozen?_grow nlt_r

set_option maxRecDepth 100000 in
set_option maxHeartbeats 2000000 in
theorem oncN (px : Option Addr) (ax ay s al : Int) (cp : Rc) (a b c d e : Int) (w : World) (hs : I64 s) (he : scaleE a b c d s = e) (h0 : e = 1 ∨ e = 4) :
    Calls Tryz.prog 141 #[.agg #[.pointer px, .int .i64 ax, .int .i64 ay, .int .i64 s, .int .i64 al, .int .i64 cp.a, .int .i64 cp.b, .int .i64 cp.c, .int .i64 cp.d], .agg #[.int .i64 a, .int .i64 b, .int .i64 c, .int .i64 d]] w
      (Rt w (.tuple #[.agg #[.int .i64 0, .int .i64 0, .int .i64 0, .int .i64 0], .int .i64 e])) := by
  have c1 := fun w => scale1 a b c d s w hs
  rw [he] at c1
  clear he
  generalize scaleR a b c d s = r at c1
  obtain ⟨p, q, r, t⟩ := r
  dsimp only at c1
  rcases h0 with rfl | rfl
  all_goals
    go_enter Tryz.func141, Tryz.ntmps141
    go_wp2_with fail
    refine (c1 _).mono ?_
    rintro e w1 ⟨rfl, ⟨⟨n, os⟩, rfl⟩⟩
    go_wp2
    go_returns
    refine ⟨rfl, ?_⟩
    repeat (first | with_reducible exact Gr.refl _ | with_reducible apply Gr.drew | with_reducible apply Gr.drewN | with_reducible apply Gr.grow | with_reducible apply Gr.alloc | (with_reducible refine Gr.setCell ?_ ?_ _; rotate_left; (simp; try omega)))

set_option maxRecDepth 100000 in
set_option maxHeartbeats 4000000 in
theorem onc1 (px : Option Addr) (ax ay s al : Int) (cp : Rc) (a b c d : Int) (p q r t : Int) (w : World) (hs : I64 s) (hax : I64 ax) (hay : I64 ay) (he : scaleE a b c d s = 0) (hr : scaleR a b c d s = ⟨p, q, r, t⟩) (hp : Bd p) (hq : Bd q) (hr1 : Bd r) (ht : Bd t) :
    Calls Tryz.prog 141 #[.agg #[.pointer px, .int .i64 ax, .int .i64 ay, .int .i64 s, .int .i64 al, .int .i64 cp.a, .int .i64 cp.b, .int .i64 cp.c, .int .i64 cp.d], .agg #[.int .i64 a, .int .i64 b, .int .i64 c, .int .i64 d]] w
      (Rt w (.tuple #[.agg #[.int .i64 (moveR p q r t ax ay).a, .int .i64 (moveR p q r t ax ay).b, .int .i64 (moveR p q r t ax ay).c, .int .i64 (moveR p q r t ax ay).d], .int .i64 (moveE p q r t ax ay)])) := by
  have c1 := fun w => scale1 a b c d s w hs
  rw [he, hr] at c1
  have c2 := fun w => move1 p q r t ax ay w hp hq hr1 ht hax hay
  clear he hr
  dsimp only at c1
  generalize moveR p q r t ax ay = m at c2 ⊢
  obtain ⟨m1, m2, m3, m4⟩ := m
  generalize moveE p q r t ax ay = z at c2 ⊢
  dsimp only at c2 ⊢
  have G := (((Gr.refl w).alloc (.cells #[.pointer px, .int .i64 ax, .int .i64 ay, .int .i64 s, .int .i64 al, .int .i64 cp.a, .int .i64 cp.b, .int .i64 cp.c, .int .i64 cp.d] 65)).alloc (.cells #[.int .i64 a, .int .i64 b, .int .i64 c, .int .i64 d] 31)).alloc (.cells #[.int .i64 0, .int .i64 0, .int .i64 0, .int .i64 0] 31)
  have B := ((At.new w #[.pointer px, .int .i64 ax, .int .i64 ay, .int .i64 s, .int .i64 al, .int .i64 cp.a, .int .i64 cp.b, .int .i64 cp.c, .int .i64 cp.d] 65).alloc (.cells #[.int .i64 a, .int .i64 b, .int .i64 c, .int .i64 d] 31)).alloc (.cells #[.int .i64 0, .int .i64 0, .int .i64 0, .int .i64 0] 31)
  have Z := At.newAt (w := (w.alloc (.cells #[.pointer px, .int .i64 ax, .int .i64 ay, .int .i64 s, .int .i64 al, .int .i64 cp.a, .int .i64 cp.b, .int .i64 cp.c, .int .i64 cp.d] 65)).alloc (.cells #[.int .i64 a, .int .i64 b, .int .i64 c, .int .i64 d] 31)) (n := w.heap.size + 1 + 1) (by simp) #[.int .i64 0, .int .i64 0, .int .i64 0, .int .i64 0] 31
  go_enter Tryz.func141, Tryz.ntmps141
  go_wp2_with fail
  refine (c1 _).mono ?_
  rintro e w1 ⟨rfl, g1⟩
  replace B := B.gr g1
  replace Z := Z.gr g1
  replace G := G.trans g1
  have k1 : w1.cell? ⟨w.heap.size, 1, none⟩ = some (.int .i64 ax) := B.cell 1
  have k2 : w1.cell? ⟨w.heap.size, 2, none⟩ = some (.int .i64 ay) := B.cell 2
  have hl := B.lt
  go_wp2_with fail
  refine (c2 _).mono ?_
  rintro e w2 ⟨rfl, g2⟩
  replace Z := (Z.alloc _).gr g2
  replace G := (G.alloc _).trans g2
  clear k1 k2 B g1 g2 c1 c2
  obtain ⟨z0, z1, z2, z3⟩ := cells4 Z
  obtain ⟨f0, f1, f2, f3⟩ := free4 Z
  go_wp2
  have k := Z.put4 (.int .i64 m1) (.int .i64 m2) (.int .i64 m3) (.int .i64 m4)
  have G4 := ((((G.setCell (p := ⟨w.heap.size + 1 + 1, 0, none⟩) (by simp; omega) (.int .i64 m1)).setCell (p := ⟨w.heap.size + 1 + 1, 1, none⟩) (by simp; omega) (.int .i64 m2)).setCell (p := ⟨w.heap.size + 1 + 1, 2, none⟩) (by simp; omega) (.int .i64 m3)).setCell (p := ⟨w.heap.size + 1 + 1, 3, none⟩) (by simp; omega) (.int .i64 m4))
  generalize (((w2.setCell ⟨w.heap.size + 1 + 1, 0, none⟩ (.int .i64 m1)).setCell ⟨w.heap.size + 1 + 1, 1, none⟩ (.int .i64 m2)).setCell ⟨w.heap.size + 1 + 1, 2, none⟩ (.int .i64 m3)).setCell ⟨w.heap.size + 1 + 1, 3, none⟩ (.int .i64 m4) = V4 at k G4 ⊢
  obtain ⟨d0, d1, d2, d3⟩ := cells4 k
  exact bodyPost_ret (v := .tuple #[.agg #[.int .i64 m1, .int .i64 m2, .int .i64 m3, .int .i64 m4], .int .i64 z]) (by simp [results, Tryz.results141, go_sem, d0, d1, d2, d3]) rfl ⟨rfl, G4⟩

end Go.Proofs.YtablogiielclaaaGreat
namespace Go.Proofs.YtablogiielclaaaGreat
open Go.RowKit Go.Sort

theorem Gr.st4 {a w : World} (h : Gr a w) {k : Nat} (hk : a.heap.size ≤ k) (u0 u1 u2 u3 : Value) : Gr a ((((w.setCell ⟨k, 0, none⟩ u0).setCell ⟨k, 1, none⟩ u1).setCell ⟨k, 2, none⟩ u2).setCell ⟨k, 3, none⟩ u3) :=
  (((h.setCell (p := ⟨k, 0, none⟩) hk u0).setCell (p := ⟨k, 1, none⟩) hk u1).setCell (p := ⟨k, 2, none⟩) hk u2).setCell (p := ⟨k, 3, none⟩) hk u3

set_option maxHeartbeats 1000000 in
theorem pmayN (ax ay s al : Int) (cp : Rc) (w : World) :
    Calls Tryz.prog 83 #[.agg #[.pointer none, .int .i64 ax, .int .i64 ay, .int .i64 s, .int .i64 al, .int .i64 cp.a, .int .i64 cp.b, .int .i64 cp.c, .int .i64 cp.d]] w (Rt w (.bool false)) := by
  have g := (Gr.refl w).alloc (.cells #[.pointer none, .int .i64 ax, .int .i64 ay, .int .i64 s, .int .i64 al, .int .i64 cp.a, .int .i64 cp.b, .int .i64 cp.c, .int .i64 cp.d] 65)
  go_enter Tryz.func83, Tryz.ntmps83
  go_wp2
  go_ret
  exact ⟨rfl, g⟩

set_option maxHeartbeats 1000000 in
theorem pmayA (pm : Nat) (ax ay s al : Int) (cp : Rc) (w : World) (h : al < 0 ∨ 255 < al) :
    Calls Tryz.prog 83 #[.agg #[.pointer (some ⟨pm, 0, none⟩), .int .i64 ax, .int .i64 ay, .int .i64 s, .int .i64 al, .int .i64 cp.a, .int .i64 cp.b, .int .i64 cp.c, .int .i64 cp.d]] w (Rt w (.bool false)) := by
  have g := (Gr.refl w).alloc (.cells #[.pointer (some ⟨pm, 0, none⟩), .int .i64 ax, .int .i64 ay, .int .i64 s, .int .i64 al, .int .i64 cp.a, .int .i64 cp.b, .int .i64 cp.c, .int .i64 cp.d] 65)
  rcases h with h | h
  · go_enter Tryz.func83, Tryz.ntmps83
    go_wp2
    go_ret
    exact ⟨rfl, g⟩
  · have h' : 0 ≤ al := by omega
    go_enter Tryz.func83, Tryz.ntmps83
    go_wp2
    go_ret
    exact ⟨rfl, g⟩

set_option maxRecDepth 100000 in
set_option maxHeartbeats 4000000 in
theorem pmayBX {pm pc W H : Nat} {L : List Int} {Sp : List Value} (ax ay s al : Int) (cp : Rc) (w : World) (hI : ImgX w pm pc W H L Sp) (h0 : 0 ≤ al) (h1 : al ≤ 255) (m1 m2 m3 m4 z : Int)
    (cO : ∀ w, Calls Tryz.prog 141 #[.agg #[.pointer (some ⟨pm, 0, none⟩), .int .i64 ax, .int .i64 ay, .int .i64 s, .int .i64 al, .int .i64 cp.a, .int .i64 cp.b, .int .i64 cp.c, .int .i64 cp.d], .agg #[.int .i64 0, .int .i64 0, .int .i64 W, .int .i64 H]] w (Rt w (.tuple #[.agg #[.int .i64 m1, .int .i64 m2, .int .i64 m3, .int .i64 m4], .int .i64 z]))) :
    Calls Tryz.prog 83 #[.agg #[.pointer (some ⟨pm, 0, none⟩), .int .i64 ax, .int .i64 ay, .int .i64 s, .int .i64 al, .int .i64 cp.a, .int .i64 cp.b, .int .i64 cp.c, .int .i64 cp.d]] w (Rt w (.bool (z == 0))) := by
  have g := (Gr.refl w).alloc (.cells #[.pointer (some ⟨pm, 0, none⟩), .int .i64 ax, .int .i64 ay, .int .i64 s, .int .i64 al, .int .i64 cp.a, .int .i64 cp.b, .int .i64 cp.c, .int .i64 cp.d] 65)
  have B0 := At.new w #[.pointer (some ⟨pm, 0, none⟩), .int .i64 ax, .int .i64 ay, .int .i64 s, .int .i64 al, .int .i64 cp.a, .int .i64 cp.b, .int .i64 cp.c, .int .i64 cp.d] 65
  have I0 := hI.gr g
  have mixed : Tryz.prog.follows .mixedOrders = true := by kernel_rfl
  go_enter Tryz.func83, Tryz.ntmps83
  go_wp2
  obtain ⟨v1, hV⟩ : ∃ V, V = w.alloc (.cells #[.pointer (some ⟨pm, 0, none⟩), .int .i64 ax, .int .i64 ay, .int .i64 s, .int .i64 al, .int .i64 cp.a, .int .i64 cp.b, .int .i64 cp.c, .int .i64 cp.d] 65) := ⟨_, rfl⟩
  rw [← hV] at B0 I0 g ⊢
  clear hV hI
  obtain ⟨b, hb⟩ : ∃ b, b = w.heap.size := ⟨_, rfl⟩
  rw [← hb] at B0 ⊢
  clear hb
  have SK : ∀ V, Gr v1 V → (V.cell? ⟨b, 0, none⟩ = some (.pointer (some ⟨pm, 0, none⟩)) ∧ V.cell? ⟨b, 1, none⟩ = some (.int .i64 ax) ∧ V.cell? ⟨b, 2, none⟩ = some (.int .i64 ay) ∧ V.cell? ⟨b, 3, none⟩ = some (.int .i64 s) ∧ V.cell? ⟨b, 4, none⟩ = some (.int .i64 al) ∧ V.cell? ⟨b, 5, none⟩ = some (.int .i64 cp.a) ∧ V.cell? ⟨b, 6, none⟩ = some (.int .i64 cp.b) ∧ V.cell? ⟨b, 7, none⟩ = some (.int .i64 cp.c) ∧ V.cell? ⟨b, 8, none⟩ = some (.int .i64 cp.d) ∧ Gr v1 V) := fun V g => ⟨(B0.gr g).cell 0, (B0.gr g).cell 1, (B0.gr g).cell 2, (B0.gr g).cell 3, (B0.gr g).cell 4, (B0.gr g).cell 5, (B0.gr g).cell 6, (B0.gr g).cell 7, (B0.gr g).cell 8, g⟩
  go_region_held3 (fun V => V.cell? ⟨b, 0, none⟩ = some (.pointer (some ⟨pm, 0, none⟩)) ∧ V.cell? ⟨b, 1, none⟩ = some (.int .i64 ax) ∧ V.cell? ⟨b, 2, none⟩ = some (.int .i64 ay) ∧ V.cell? ⟨b, 3, none⟩ = some (.int .i64 s) ∧ V.cell? ⟨b, 4, none⟩ = some (.int .i64 al) ∧ V.cell? ⟨b, 5, none⟩ = some (.int .i64 cp.a) ∧ V.cell? ⟨b, 6, none⟩ = some (.int .i64 cp.b) ∧ V.cell? ⟨b, 7, none⟩ = some (.int .i64 cp.c) ∧ V.cell? ⟨b, 8, none⟩ = some (.int .i64 cp.d) ∧ Gr v1 V) ((refine SK _ ?_; repeat (first | with_reducible assumption | with_reducible exact Gr.refl _ | with_reducible exact (And.right (And.right (And.right (And.right (And.right (And.right (And.right (And.right (And.right (by assumption)))))))))) | with_reducible exact Gr.trans (And.right (And.right (And.right (And.right (And.right (And.right (And.right (And.right (And.right (by assumption)))))))))) (by assumption) | with_reducible apply Gr.drew | with_reducible apply Gr.alloc | (with_reducible refine Gr.st4 ?_ ?_ _ _ _ _; rotate_left; first | with_reducible exact Nat.le_refl _ | with_reducible exact Gr.size (by assumption) | omega))))
    ((first
      | (go_at_call 100; (refine (boxX _ (I0.gr (And.right (And.right (And.right (And.right (And.right (And.right (And.right (And.right (And.right (by assumption)))))))))))).mono ?_); rintro e v2 ⟨rfl, g2⟩; have G2 : Gr v1 v2 := Gr.trans (And.right (And.right (And.right (And.right (And.right (And.right (And.right (And.right (And.right (by assumption)))))))))) g2; (try have X2 : At v2 v1.heap.size #[.int .i64 0, .int .i64 0, .int .i64 0, .int .i64 0] 31 := (At.new v1.drew _ _).gr g2); (try have X2 : At v2 v1.heap.size #[.int .i64 0, .int .i64 0, .int .i64 0, .int .i64 0] 31 := (At.new v1 _ _).gr g2); (try have k2 := cells4 X2); (try have f2 := free4 X2); (try obtain ⟨k20, k21, k22, k23⟩ := k2); (try obtain ⟨f20, f21, f22, f23⟩ := f2))
      | (go_at_call 141; (refine (cO _).mono ?_); rintro e v3 ⟨rfl, g3⟩; have G3 : Gr v1 v3 := Gr.trans (And.right (And.right (And.right (And.right (And.right (And.right (And.right (And.right (And.right (by assumption)))))))))) g3; (try have X3 : At v3 v1.heap.size #[.int .i64 0, .int .i64 0, .int .i64 0, .int .i64 0] 31 := X2.gr g3); (try have X3 : At v3 v2.heap.size #[.int .i64 0, .int .i64 0, .int .i64 0, .int .i64 0] 31 := (At.new v2 _ _).gr g3); (try have X3 : At v3 v2.heap.size #[.int .i64 0, .int .i64 0, .int .i64 0, .int .i64 0] 31 := (At.new v2.drew _ _).gr g3); (try have k3 := cells4 X3); (try have f3 := free4 X3); (try obtain ⟨k30, k31, k32, k33⟩ := k3); (try obtain ⟨f30, f31, f32, f33⟩ := f3))))
  all_goals
    have GF : Gr v1 _ := And.right (And.right (And.right (And.right (And.right (And.right (And.right (And.right (And.right (by assumption)))))))))
    clear SK
    go_wp2
    go_ret
    exact ⟨rfl, g.trans GF⟩
theorem pmayB {pm pc W H : Nat} {L : List Int} (ax ay s al : Int) (cp : Rc) (w : World) (hI : Img w pm pc W H L) (h0 : 0 ≤ al) (h1 : al ≤ 255) (m1 m2 m3 m4 z : Int)
    (cO : ∀ w, Calls Tryz.prog 141 #[.agg #[.pointer (some ⟨pm, 0, none⟩), .int .i64 ax, .int .i64 ay, .int .i64 s, .int .i64 al, .int .i64 cp.a, .int .i64 cp.b, .int .i64 cp.c, .int .i64 cp.d], .agg #[.int .i64 0, .int .i64 0, .int .i64 W, .int .i64 H]] w (Rt w (.tuple #[.agg #[.int .i64 m1, .int .i64 m2, .int .i64 m3, .int .i64 m4], .int .i64 z]))) :
    Calls Tryz.prog 83 #[.agg #[.pointer (some ⟨pm, 0, none⟩), .int .i64 ax, .int .i64 ay, .int .i64 s, .int .i64 al, .int .i64 cp.a, .int .i64 cp.b, .int .i64 cp.c, .int .i64 cp.d]] w (Rt w (.bool (z == 0))) :=
  pmayBX ax ay s al cp w hI.x h0 h1 m1 m2 m3 m4 z cO

end Go.Proofs.YtablogiielclaaaGreat
namespace Go.Proofs.YtablogiielclaaaGreat
open Go.RowKit Go.Sort

set_option maxHeartbeats 1000000 in
theorem pclip0 (px : Option Addr) (ax ay s al : Int) (cp : Rc) (w : World)
    (cM : ∀ w', Gr w w' → Calls Tryz.prog 83 #[.agg #[.pointer px, .int .i64 ax, .int .i64 ay, .int .i64 s, .int .i64 al, .int .i64 cp.a, .int .i64 cp.b, .int .i64 cp.c, .int .i64 cp.d]] w' (Rt w' (.bool false))) :
    Calls Tryz.prog 131 #[.agg #[.pointer px, .int .i64 ax, .int .i64 ay, .int .i64 s, .int .i64 al, .int .i64 cp.a, .int .i64 cp.b, .int .i64 cp.c, .int .i64 cp.d]] w (Rt w (.agg #[.int .i64 0, .int .i64 0, .int .i64 0, .int .i64 0])) := by
  have g := ((Gr.refl w).alloc (.cells #[.pointer px, .int .i64 ax, .int .i64 ay, .int .i64 s, .int .i64 al, .int .i64 cp.a, .int .i64 cp.b, .int .i64 cp.c, .int .i64 cp.d] 65)).alloc (.cells #[.int .i64 0, .int .i64 0, .int .i64 0, .int .i64 0] 31)
  have R0 := At.newAt (w := w.alloc (.cells #[.pointer px, .int .i64 ax, .int .i64 ay, .int .i64 s, .int .i64 al, .int .i64 cp.a, .int .i64 cp.b, .int .i64 cp.c, .int .i64 cp.d] 65)) (n := w.heap.size + 1) (by simp) #[.int .i64 0, .int .i64 0, .int .i64 0, .int .i64 0] 31
  go_enter Tryz.func131, Tryz.ntmps131
  go_wp2_with fail
  refine (cM _ g).mono ?_
  rintro e v1 ⟨rfl, g1⟩
  replace g := g.trans g1
  replace R0 := R0.gr g1
  obtain ⟨k30, k31, k32, k33⟩ := cells4 R0
  obtain ⟨f30, f31, f32, f33⟩ := free4 R0
  go_wp2
  have k := R0.put4 (.int .i64 0) (.int .i64 0) (.int .i64 0) (.int .i64 0)
  have G4 := g.st4 (k := w.heap.size + 1) (by omega) (.int .i64 0) (.int .i64 0) (.int .i64 0) (.int .i64 0)
  generalize (((v1.setCell ⟨w.heap.size + 1, 0, none⟩ (.int .i64 0)).setCell ⟨w.heap.size + 1, 1, none⟩ (.int .i64 0)).setCell ⟨w.heap.size + 1, 2, none⟩ (.int .i64 0)).setCell ⟨w.heap.size + 1, 3, none⟩ (.int .i64 0) = V4 at *
  obtain ⟨d0, d1, d2, d3⟩ := cells4 k
  exact bodyPost_ret (v := .agg #[.int .i64 0, .int .i64 0, .int .i64 0, .int .i64 0]) (by simp [results, Tryz.results131, go_sem, d0, d1, d2, d3]) rfl ⟨rfl, G4⟩

set_option maxRecDepth 100000 in
set_option maxHeartbeats 4000000 in
theorem pclipBX {pm pc W H : Nat} {L : List Int} {Sp : List Value} (ax ay s al : Int) (cp : Rc) (w : World) (hI : ImgX w pm pc W H L Sp) (q1 q2 q3 q4 : Int) (hq : ownR cp W H = ⟨q1, q2, q3, q4⟩)
    (cM : ∀ w', Gr w w' → Calls Tryz.prog 83 #[.agg #[.pointer (some ⟨pm, 0, none⟩), .int .i64 ax, .int .i64 ay, .int .i64 s, .int .i64 al, .int .i64 cp.a, .int .i64 cp.b, .int .i64 cp.c, .int .i64 cp.d]] w' (Rt w' (.bool true))) :
    Calls Tryz.prog 131 #[.agg #[.pointer (some ⟨pm, 0, none⟩), .int .i64 ax, .int .i64 ay, .int .i64 s, .int .i64 al, .int .i64 cp.a, .int .i64 cp.b, .int .i64 cp.c, .int .i64 cp.d]] w (Rt w (.agg #[.int .i64 q1, .int .i64 q2, .int .i64 q3, .int .i64 q4])) := by
  have cC := fun w => cut1 0 0 W H cp.a cp.b cp.c cp.d w
  unfold ownR at hq
  rw [hq] at cC
  dsimp only at cC
  clear hq
  have hlm := hI.hd.lt
  have hlc := hI.cs.lt
  have g := ((Gr.refl w).alloc (.cells #[.pointer (some ⟨pm, 0, none⟩), .int .i64 ax, .int .i64 ay, .int .i64 s, .int .i64 al, .int .i64 cp.a, .int .i64 cp.b, .int .i64 cp.c, .int .i64 cp.d] 65)).alloc (.cells #[.int .i64 0, .int .i64 0, .int .i64 0, .int .i64 0] 31)
  have B0 := (At.new w #[.pointer (some ⟨pm, 0, none⟩), .int .i64 ax, .int .i64 ay, .int .i64 s, .int .i64 al, .int .i64 cp.a, .int .i64 cp.b, .int .i64 cp.c, .int .i64 cp.d] 65).alloc (.cells #[.int .i64 0, .int .i64 0, .int .i64 0, .int .i64 0] 31)
  have R0 := At.newAt (w := w.alloc (.cells #[.pointer (some ⟨pm, 0, none⟩), .int .i64 ax, .int .i64 ay, .int .i64 s, .int .i64 al, .int .i64 cp.a, .int .i64 cp.b, .int .i64 cp.c, .int .i64 cp.d] 65)) (n := w.heap.size + 1) (by simp) #[.int .i64 0, .int .i64 0, .int .i64 0, .int .i64 0] 31
  have mixed : Tryz.prog.follows .mixedOrders = true := by kernel_rfl
  go_enter Tryz.func131, Tryz.ntmps131
  go_wp2_with fail
  refine (cM _ g).mono ?_
  rintro e v1 ⟨rfl, g1⟩
  replace g := g.trans g1
  replace B0 := B0.gr g1
  replace R0 := R0.gr g1
  have I0 := hI.gr g
  clear hI g1 cM
  obtain ⟨b, hb⟩ : ∃ b, b = w.heap.size := ⟨_, rfl⟩
  have hbb : w.heap.size ≤ b := by omega
  have hbm : ¬ pm = b + 1 := by omega
  have hbc : ¬ pc = b + 1 := by omega
  rw [← hb] at B0 R0 ⊢
  clear hb hlm hlc
  have SK : ∀ V, v1.grownBy V (some (b + 1)) → (V.cell? ⟨b, 0, none⟩ = some (.pointer (some ⟨pm, 0, none⟩)) ∧ V.cell? ⟨b, 1, none⟩ = some (.int .i64 ax) ∧ V.cell? ⟨b, 2, none⟩ = some (.int .i64 ay) ∧ V.cell? ⟨b, 3, none⟩ = some (.int .i64 s) ∧ V.cell? ⟨b, 4, none⟩ = some (.int .i64 al) ∧ V.cell? ⟨b, 5, none⟩ = some (.int .i64 cp.a) ∧ V.cell? ⟨b, 6, none⟩ = some (.int .i64 cp.b) ∧ V.cell? ⟨b, 7, none⟩ = some (.int .i64 cp.c) ∧ V.cell? ⟨b, 8, none⟩ = some (.int .i64 cp.d) ∧ v1.grownBy V (some (b + 1))) := fun V g => ⟨(B0.grown g (by simp)).cell 0, (B0.grown g (by simp)).cell 1, (B0.grown g (by simp)).cell 2, (B0.grown g (by simp)).cell 3, (B0.grown g (by simp)).cell 4, (B0.grown g (by simp)).cell 5, (B0.grown g (by simp)).cell 6, (B0.grown g (by simp)).cell 7, (B0.grown g (by simp)).cell 8, g⟩
  go_wp2
  go_region_held3 (fun V => V.cell? ⟨b, 0, none⟩ = some (.pointer (some ⟨pm, 0, none⟩)) ∧ V.cell? ⟨b, 1, none⟩ = some (.int .i64 ax) ∧ V.cell? ⟨b, 2, none⟩ = some (.int .i64 ay) ∧ V.cell? ⟨b, 3, none⟩ = some (.int .i64 s) ∧ V.cell? ⟨b, 4, none⟩ = some (.int .i64 al) ∧ V.cell? ⟨b, 5, none⟩ = some (.int .i64 cp.a) ∧ V.cell? ⟨b, 6, none⟩ = some (.int .i64 cp.b) ∧ V.cell? ⟨b, 7, none⟩ = some (.int .i64 cp.c) ∧ V.cell? ⟨b, 8, none⟩ = some (.int .i64 cp.d) ∧ v1.grownBy V (some (b + 1))) ((refine SK _ ?_; repeat (first | with_reducible assumption | with_reducible exact by_refl _ _ | with_reducible exact (And.right (And.right (And.right (And.right (And.right (And.right (And.right (And.right (And.right (by assumption)))))))))) | with_reducible exact by_gr (And.right (And.right (And.right (And.right (And.right (And.right (And.right (And.right (And.right (by assumption)))))))))) (by assumption) | with_reducible apply by_drew | with_reducible apply by_alloc | with_reducible apply by_set)))
    ((first
      | (go_at_call 100; (refine (boxX _ (I0.kept (And.right (And.right (And.right (And.right (And.right (And.right (And.right (And.right (And.right (by assumption)))))))))) (by simpa using hbm) (by simpa using hbc))).mono ?_); rintro e v2 ⟨rfl, g2⟩; have G2 : v1.grownBy v2 (some (b + 1)) := by_gr (And.right (And.right (And.right (And.right (And.right (And.right (And.right (And.right (And.right (by assumption)))))))))) g2)
      | (go_at_call 102; (refine (cC _).mono ?_); rintro e v3 ⟨rfl, g3⟩; have G3 : v1.grownBy v3 (some (b + 1)) := by_gr (And.right (And.right (And.right (And.right (And.right (And.right (And.right (And.right (And.right (by assumption)))))))))) g3; have R3 := (R0.drew.gr g2).gr g3; obtain ⟨k30, k31, k32, k33⟩ := cells4 R3; obtain ⟨f30, f31, f32, f33⟩ := free4 R3; have G3 := (g.drew.trans g2).trans g3)))
  all_goals
    clear SK k30 k31 k32 k33 f30 f31 f32 f33
    have k := R3.put4 (.int .i64 q1) (.int .i64 q2) (.int .i64 q3) (.int .i64 q4)
    have G4 := G3.st4 (k := b + 1) (by omega) (.int .i64 q1) (.int .i64 q2) (.int .i64 q3) (.int .i64 q4)
    generalize (((v3.setCell ⟨b + 1, 0, none⟩ (.int .i64 q1)).setCell ⟨b + 1, 1, none⟩ (.int .i64 q2)).setCell ⟨b + 1, 2, none⟩ (.int .i64 q3)).setCell ⟨b + 1, 3, none⟩ (.int .i64 q4) = V4 at *
    obtain ⟨d0, d1, d2, d3⟩ := cells4 k
    go_wp2
    exact bodyPost_ret (v := .agg #[.int .i64 q1, .int .i64 q2, .int .i64 q3, .int .i64 q4]) (by simp [results, Tryz.results131, go_sem, d0, d1, d2, d3]) rfl ⟨rfl, G4⟩
theorem pclipB {pm pc W H : Nat} {L : List Int} (ax ay s al : Int) (cp : Rc) (w : World) (hI : Img w pm pc W H L) (q1 q2 q3 q4 : Int) (hq : ownR cp W H = ⟨q1, q2, q3, q4⟩)
    (cM : ∀ w', Gr w w' → Calls Tryz.prog 83 #[.agg #[.pointer (some ⟨pm, 0, none⟩), .int .i64 ax, .int .i64 ay, .int .i64 s, .int .i64 al, .int .i64 cp.a, .int .i64 cp.b, .int .i64 cp.c, .int .i64 cp.d]] w' (Rt w' (.bool true))) :
    Calls Tryz.prog 131 #[.agg #[.pointer (some ⟨pm, 0, none⟩), .int .i64 ax, .int .i64 ay, .int .i64 s, .int .i64 al, .int .i64 cp.a, .int .i64 cp.b, .int .i64 cp.c, .int .i64 cp.d]] w (Rt w (.agg #[.int .i64 q1, .int .i64 q2, .int .i64 q3, .int .i64 q4])) :=
  pclipBX ax ay s al cp w hI.x q1 q2 q3 q4 hq cM

end Go.Proofs.YtablogiielclaaaGreat
namespace Go.Proofs.YtablogiielclaaaGreat
open Go.RowKit Go.Sort

set_option maxRecDepth 100000 in
set_option maxHeartbeats 2000000 in
theorem pboxE (px : Option Addr) (ax ay s al : Int) (cp : Rc) (w : World) (q1 q2 q3 q4 : Int) (hq : emptyB q1 q2 q3 q4 = true)
    (cC : ∀ w', Gr w w' → Calls Tryz.prog 131 #[.agg #[.pointer px, .int .i64 ax, .int .i64 ay, .int .i64 s, .int .i64 al, .int .i64 cp.a, .int .i64 cp.b, .int .i64 cp.c, .int .i64 cp.d]] w' (Rt w' (.agg #[.int .i64 q1, .int .i64 q2, .int .i64 q3, .int .i64 q4]))) :
    Calls Tryz.prog 94 #[.agg #[.pointer px, .int .i64 ax, .int .i64 ay, .int .i64 s, .int .i64 al, .int .i64 cp.a, .int .i64 cp.b, .int .i64 cp.c, .int .i64 cp.d]] w (Rt w (.agg #[.int .i64 0, .int .i64 0, .int .i64 0, .int .i64 0])) := by
  have ce := fun w => empty1 q1 q2 q3 q4 w
  rw [hq] at ce
  clear hq
  have g := ((Gr.refl w).alloc (.cells #[.pointer px, .int .i64 ax, .int .i64 ay, .int .i64 s, .int .i64 al, .int .i64 cp.a, .int .i64 cp.b, .int .i64 cp.c, .int .i64 cp.d] 65)).alloc (.cells #[.int .i64 0, .int .i64 0, .int .i64 0, .int .i64 0] 31)
  have R0 := At.newAt (w := w.alloc (.cells #[.pointer px, .int .i64 ax, .int .i64 ay, .int .i64 s, .int .i64 al, .int .i64 cp.a, .int .i64 cp.b, .int .i64 cp.c, .int .i64 cp.d] 65)) (n := w.heap.size + 1) (by simp) #[.int .i64 0, .int .i64 0, .int .i64 0, .int .i64 0] 31
  go_enter Tryz.func94, Tryz.ntmps94
  go_wp2_with fail
  refine (cC _ g).mono ?_
  rintro e v1 ⟨rfl, g1⟩
  replace g := g.trans g1
  replace R0 := R0.gr g1
  clear cC g1
  go_wp2_with fail
  refine (ce _).mono ?_
  rintro e v2 ⟨rfl, g2⟩
  replace g := (g.alloc _).trans g2
  have R3 := (R0.alloc _).gr g2
  clear R0 g2
  obtain ⟨k30, k31, k32, k33⟩ := cells4 R3
  obtain ⟨f30, f31, f32, f33⟩ := free4 R3
  go_wp2
  have k := R3.put4 (.int .i64 0) (.int .i64 0) (.int .i64 0) (.int .i64 0)
  have G4 := g.st4 (k := w.heap.size + 1) (by omega) (.int .i64 0) (.int .i64 0) (.int .i64 0) (.int .i64 0)
  generalize ((((v2.setCell ⟨w.heap.size + 1, 0, none⟩ (.int .i64 0)).setCell ⟨w.heap.size + 1, 1, none⟩ (.int .i64 0)).setCell ⟨w.heap.size + 1, 2, none⟩ (.int .i64 0)).setCell ⟨w.heap.size + 1, 3, none⟩ (.int .i64 0)) = V4 at *
  obtain ⟨d0, d1, d2, d3⟩ := cells4 k
  exact bodyPost_ret (v := .agg #[.int .i64 0, .int .i64 0, .int .i64 0, .int .i64 0]) (by simp [results, Tryz.results94, go_sem, d0, d1, d2, d3]) rfl ⟨rfl, G4⟩

set_option maxRecDepth 100000 in
set_option maxHeartbeats 2000000 in
theorem pboxB (px : Option Addr) (ax ay s al : Int) (cp : Rc) (w : World) (q1 q2 q3 q4 m1 m2 m3 m4 z : Int) (hq : emptyB q1 q2 q3 q4 = false)
    (cC : ∀ w', Gr w w' → Calls Tryz.prog 131 #[.agg #[.pointer px, .int .i64 ax, .int .i64 ay, .int .i64 s, .int .i64 al, .int .i64 cp.a, .int .i64 cp.b, .int .i64 cp.c, .int .i64 cp.d]] w' (Rt w' (.agg #[.int .i64 q1, .int .i64 q2, .int .i64 q3, .int .i64 q4])))
    (cO : ∀ w', Calls Tryz.prog 141 #[.agg #[.pointer px, .int .i64 ax, .int .i64 ay, .int .i64 s, .int .i64 al, .int .i64 cp.a, .int .i64 cp.b, .int .i64 cp.c, .int .i64 cp.d], .agg #[.int .i64 q1, .int .i64 q2, .int .i64 q3, .int .i64 q4]] w' (Rt w' (.tuple #[.agg #[.int .i64 m1, .int .i64 m2, .int .i64 m3, .int .i64 m4], .int .i64 z]))) :
    Calls Tryz.prog 94 #[.agg #[.pointer px, .int .i64 ax, .int .i64 ay, .int .i64 s, .int .i64 al, .int .i64 cp.a, .int .i64 cp.b, .int .i64 cp.c, .int .i64 cp.d]] w (Rt w (.agg #[.int .i64 m1, .int .i64 m2, .int .i64 m3, .int .i64 m4])) := by
  have ce := fun w => empty1 q1 q2 q3 q4 w
  rw [hq] at ce
  clear hq
  have g := ((Gr.refl w).alloc (.cells #[.pointer px, .int .i64 ax, .int .i64 ay, .int .i64 s, .int .i64 al, .int .i64 cp.a, .int .i64 cp.b, .int .i64 cp.c, .int .i64 cp.d] 65)).alloc (.cells #[.int .i64 0, .int .i64 0, .int .i64 0, .int .i64 0] 31)
  have B0 := (At.new w #[.pointer px, .int .i64 ax, .int .i64 ay, .int .i64 s, .int .i64 al, .int .i64 cp.a, .int .i64 cp.b, .int .i64 cp.c, .int .i64 cp.d] 65).alloc (.cells #[.int .i64 0, .int .i64 0, .int .i64 0, .int .i64 0] 31)
  have R0 := At.newAt (w := w.alloc (.cells #[.pointer px, .int .i64 ax, .int .i64 ay, .int .i64 s, .int .i64 al, .int .i64 cp.a, .int .i64 cp.b, .int .i64 cp.c, .int .i64 cp.d] 65)) (n := w.heap.size + 1) (by simp) #[.int .i64 0, .int .i64 0, .int .i64 0, .int .i64 0] 31
  go_enter Tryz.func94, Tryz.ntmps94
  go_wp2_with fail
  refine (cC _ g).mono ?_
  rintro e v1 ⟨rfl, g1⟩
  replace g := g.trans g1
  replace B0 := B0.gr g1
  replace R0 := R0.gr g1
  clear cC g1
  have Q0 := At.new v1 #[.int .i64 q1, .int .i64 q2, .int .i64 q3, .int .i64 q4] 31
  go_wp2_with fail
  refine (ce _).mono ?_
  rintro e v2 ⟨rfl, g2⟩
  replace g := (g.alloc _).trans g2
  replace B0 := (B0.alloc _).gr g2
  replace R0 := (R0.alloc _).gr g2
  replace Q0 := Q0.gr g2
  clear g2
  have x0 : v2.cell? ⟨w.heap.size, 0, none⟩ = some (.pointer px) := B0.cell 0
  have x1 : v2.cell? ⟨w.heap.size, 1, none⟩ = some (.int .i64 ax) := B0.cell 1
  have x2 : v2.cell? ⟨w.heap.size, 2, none⟩ = some (.int .i64 ay) := B0.cell 2
  have x3 : v2.cell? ⟨w.heap.size, 3, none⟩ = some (.int .i64 s) := B0.cell 3
  have x4 : v2.cell? ⟨w.heap.size, 4, none⟩ = some (.int .i64 al) := B0.cell 4
  have x5 : v2.cell? ⟨w.heap.size, 5, none⟩ = some (.int .i64 cp.a) := B0.cell 5
  have x6 : v2.cell? ⟨w.heap.size, 6, none⟩ = some (.int .i64 cp.b) := B0.cell 6
  have x7 : v2.cell? ⟨w.heap.size, 7, none⟩ = some (.int .i64 cp.c) := B0.cell 7
  have x8 : v2.cell? ⟨w.heap.size, 8, none⟩ = some (.int .i64 cp.d) := B0.cell 8
  obtain ⟨k20, k21, k22, k23⟩ := cells4 Q0
  go_wp2_with fail
  refine (cO _).mono ?_
  rintro e v3 ⟨rfl, g3⟩
  replace g := (g.trans g3).alloc (.cells #[.int .i64 m1, .int .i64 m2, .int .i64 m3, .int .i64 m4] 31)
  have R3 := (R0.gr g3).alloc (.cells #[.int .i64 m1, .int .i64 m2, .int .i64 m3, .int .i64 m4] 31)
  have Y3 := At.new v3 #[.int .i64 m1, .int .i64 m2, .int .i64 m3, .int .i64 m4] 31
  clear R0 g3 Q0 k20 k21 k22 k23 x0 x1 x2 x3 x4 x5 x6 x7 x8 B0 cO ce
  obtain ⟨k30, k31, k32, k33⟩ := cells4 R3
  obtain ⟨f30, f31, f32, f33⟩ := free4 R3
  obtain ⟨y30, y31, y32, y33⟩ := cells4 Y3
  go_wp2
  have k := R3.put4 (.int .i64 m1) (.int .i64 m2) (.int .i64 m3) (.int .i64 m4)
  have G4 := g.st4 (k := w.heap.size + 1) (by omega) (.int .i64 m1) (.int .i64 m2) (.int .i64 m3) (.int .i64 m4)
  generalize (((((v3.alloc (.cells #[.int .i64 m1, .int .i64 m2, .int .i64 m3, .int .i64 m4] 31)).setCell ⟨w.heap.size + 1, 0, none⟩ (.int .i64 m1)).setCell ⟨w.heap.size + 1, 1, none⟩ (.int .i64 m2)).setCell ⟨w.heap.size + 1, 2, none⟩ (.int .i64 m3)).setCell ⟨w.heap.size + 1, 3, none⟩ (.int .i64 m4)) = V4 at *
  obtain ⟨d0, d1, d2, d3⟩ := cells4 k
  exact bodyPost_ret (v := .agg #[.int .i64 m1, .int .i64 m2, .int .i64 m3, .int .i64 m4]) (by simp [results, Tryz.results94, go_sem, d0, d1, d2, d3]) rfl ⟨rfl, G4⟩

end Go.Proofs.YtablogiielclaaaGreat
