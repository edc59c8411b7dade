/-
  What is proved: what the merge of two rows of edges hands back. what 'from' of package region hands back, its capacity told. what 'merge' of package region hands back of two regions: the region of the points that are kept. plain facts on the document's own answer for regions: its rows put under one another; no Go in sight. what the calls of package rect, and of the document's answers, hand back.
-/
import Derived.Test.YtablogiielclaaaGreatZz2
import Derived.Test.YtablogiielclaaaGreatZz4
import Derived.Test.YtablogiielclaaaGreatZz1
import Derived.IntWalk
import Derived.Deep.RegionHeld3
import Derived.Deep.DeepCutAuto
namespace Go.Proofs.YtablogiielclaaaGreat
open Go.RowKit Go.Sort

/-- A function of two bools, that answers kp and turns nothing. -/
def Kc (g : FuncId) : Prop := ∀ (args : Array Value) (w : World), Sem.run Tryz.prog (callFunc g args) w = Result.ok (Next.enter g args) w
def Kp (g : FuncId) (kp : Bool → Bool → Bool) : Prop := ∀ (x y : Bool) (w : World), Calls Tryz.prog g #[.bool x, .bool y] w (fun e w' => e = .returned (.bool (kp x y)) ∧ w = w')
theorem Kp.at_ {g : FuncId} {kp : Bool → Bool → Bool} (h : Kp g kp) {x y z : Bool} (hz : kp x y = z) (w : World) : Calls Tryz.prog g #[.bool x, .bool y] w (fun e w' => e = .returned (.bool z) ∧ w = w') := by
  subst hz; exact h x y w

theorem kcOr : Kc 153 := fun _ _ => by kernel_rfl
theorem kpOr : Kp 153 (fun a b => a || b) := by
  intro x y w
  cases x <;> cases y
  all_goals
    go_enter Tryz.func153, Tryz.ntmps153
    go_wp2
    go_ret
    exact ⟨rfl, rfl⟩
theorem kcAnd : Kc 202 := fun _ _ => by kernel_rfl
theorem kpAnd : Kp 202 (fun a b => a && b) := by
  intro x y w
  cases x <;> cases y
  all_goals
    go_enter Tryz.func202, Tryz.ntmps202
    go_wp2
    go_ret
    exact ⟨rfl, rfl⟩
attribute [local go_sem ↓] run_min2 run_max2

theorem par_nat (i : Nat) : decide (i % 2 = 1) = ((i : Int) % 2 == 1) := by rw [Bool.eq_iff_iff]; simp; omega
theorem par_succ (i : Nat) : decide ((i + 1) % 2 = 1) = (((i : Int) + 1) % 2 == 1) := by rw [Bool.eq_iff_iff]; simp; omega

def I64s (E : List Int) : Prop := ∀ x ∈ E, I64 x

set_option maxRecDepth 100000 in
set_option maxHeartbeats 8000000 in
theorem mergeEdges1 (A B : Option Addr) (c d : Nat) (a b : List Int) (g : FuncId) (kp : Bool → Bool → Bool) (w : World) (hA : Is w A a) (hB : Is w B b) (ha : Inc a) (hb : Inc b) (hae : a.length % 2 = 0) (hbe : b.length % 2 = 0)
    (hla : a.length ≤ 1000000) (hlb : b.length ≤ 1000000) (ia : I64s a) (ib : I64s b) (hc : Kc g) (hg : Kp g kp) (hk : kp false false = false) :
    Calls Tryz.prog 213 #[.slice A a.length c, .slice B b.length d, .func (.func g) #[] #[]] w (RN w (Mrg a b kp)) := by
  unfold Kc at hc
  go_enter Tryz.func213, Tryz.ntmps213
  go_wp2
  go_loopw [7, 8, 9] (fun v p q wr => ∃ (i j : Nat) (A' : Option Addr) (c' : Nat) (O : List Int), v = .slice A' O.length c' ∧ p = .int .i64 i ∧ q = .int .i64 j ∧ InvM a b kp i j O ∧ OwI wr w.heap.size A' c' O ∧ Bl w wr) (fun _ p q _ => (a.length - (intOf p).toNat) + (b.length - (intOf q).toNat))
  case atStart => exact ⟨0, 0, none, 0, [], rfl, rfl, rfl, InvM.start hk, OwI.nil _ _, Bl.refl _⟩
  case round =>
    obtain ⟨i, j, A', c', O, rfl, rfl, rfl, inv, own, G⟩ := hrel
    have i1 := inv.ia
    have j1 := inv.jb
    have l1 := inv.len
    by_cases hi : i < a.length
    · obtain ⟨x, hx⟩ := list_at hi
      obtain ⟨b1, o1, rfl, r1⟩ := hA.opened (by omega)
      have e1 := (r1.bl G) i x hx
      have x1 := (ia x (get_mem hx)).2
      by_cases hj : j < b.length
      · obtain ⟨y, hy⟩ := list_at hj
        obtain ⟨b2, o2, rfl, r2⟩ := hB.opened (by omega)
        have e2 := (r2.bl G) j y hy
        have y1 := (ib y (get_mem hy)).2
        have da := inc_head_le ha hx
        have db := inc_head_le hb hy
        replace da := Lib.hid da
        replace db := Lib.hid db
        have Hx := Lib.hid hx
        have Hy := Lib.hid hy
        clear hx hy
        rcases Int.lt_trichotomy x y with hl | hl | hl
        · have hm : min x y = x := by omega
          have hq : (y == x) = false := by simp; omega
          have stp := fun O' => inv.step ha hb (i' := i + 1) (j' := j) (x := x) (O' := O') (.inr ⟨rfl, Hx.out⟩) (.inl ⟨rfl, fun o ho => by have := db.out o ho; omega⟩) (.inl Hx.out) (by omega)
          replace stp := Lib.hid stp
          rcases Nat.mod_two_eq_zero_or_one O.length with ho | ho
          · have hz1 : (((O.length : Nat) : Int) % 2 == 1) = false := by rw [Bool.eq_iff_iff]; simp; omega
            replace ho := Lib.hid ho
            go_wp2_with fail
            refine (hg _ _ _).mono ?_
            rintro e w' ⟨rfl, rfl⟩
            generalize hz : kp _ _ = z
            replace hz := Lib.hid hz
            cases z
            · go_wp2
              go_roundw
              case rel => exact ⟨i + 1, j, A', c', O, rfl, by go_num, by go_num, stp.out _ (.inr ⟨rfl, by rw [par_succ i, par_nat j, ho.out]; exact hz.out⟩), own, G⟩
              case measure => simp [intOf]; omega
            · have sz := G.size
              have ow2 := own.bl ((Bl.refl wr).alloc (.cells #[.int .i64 x] 3))
              go_wp2_with (at_builtin; refine wp_app_i rfl (.tmp 80) (.tmp 82) rfl A' c' O rfl w.heap.size ow2 wr.heap.size x 1 rfl (At.new _ _ _) (by omega) (by simp; omega) ?_; intro A2 c2 w2 own2 ap2)
              go_roundw
              case rel => exact ⟨i + 1, j, A2, c2, O ++ [x], by simp, by go_num, by go_num, stp.out _ (.inl ⟨rfl, fun h3 => by rw [par_succ i, par_nat j, ho.out, hz.out] at h3; simp at h3⟩), own2, ap2.bl (G.alloc _) ow2.lies (Nat.le_refl _)⟩
              case measure => simp [intOf]; omega
          · have hz1 : (((O.length : Nat) : Int) % 2 == 1) = true := by rw [Bool.eq_iff_iff]; simp; omega
            replace ho := Lib.hid ho
            go_wp2_with fail
            refine (hg _ _ _).mono ?_
            rintro e w' ⟨rfl, rfl⟩
            generalize hz : kp _ _ = z
            replace hz := Lib.hid hz
            cases z
            · have sz := G.size
              have ow2 := own.bl ((Bl.refl wr).alloc (.cells #[.int .i64 x] 3))
              go_wp2_with (at_builtin; refine wp_app_i rfl (.tmp 80) (.tmp 82) rfl A' c' O rfl w.heap.size ow2 wr.heap.size x 1 rfl (At.new _ _ _) (by omega) (by simp; omega) ?_; intro A2 c2 w2 own2 ap2)
              go_roundw
              case rel => exact ⟨i + 1, j, A2, c2, O ++ [x], by simp, by go_num, by go_num, stp.out _ (.inl ⟨rfl, fun h3 => by rw [par_succ i, par_nat j, ho.out, hz.out] at h3; simp at h3⟩), own2, ap2.bl (G.alloc _) ow2.lies (Nat.le_refl _)⟩
              case measure => simp [intOf]; omega
            · go_wp2
              go_roundw
              case rel => exact ⟨i + 1, j, A', c', O, rfl, by go_num, by go_num, stp.out _ (.inr ⟨rfl, by rw [par_succ i, par_nat j, ho.out]; exact hz.out⟩), own, G⟩
              case measure => simp [intOf]; omega
        · subst hl
          have hm : min x x = x := by omega
          have stp := fun O' => inv.step ha hb (i' := i + 1) (j' := j + 1) (x := x) (O' := O') (.inr ⟨rfl, Hx.out⟩) (.inr ⟨rfl, Hy.out⟩) (.inl Hx.out) (by omega)
          replace stp := Lib.hid stp
          rcases Nat.mod_two_eq_zero_or_one O.length with ho | ho
          · have hz1 : (((O.length : Nat) : Int) % 2 == 1) = false := by rw [Bool.eq_iff_iff]; simp; omega
            replace ho := Lib.hid ho
            go_wp2_with fail
            refine (hg _ _ _).mono ?_
            rintro e w' ⟨rfl, rfl⟩
            generalize hz : kp _ _ = z
            replace hz := Lib.hid hz
            cases z
            · go_wp2
              go_roundw
              case rel => exact ⟨i + 1, j + 1, A', c', O, rfl, by go_num, by go_num, stp.out _ (.inr ⟨rfl, by rw [par_succ i, par_succ j, ho.out]; exact hz.out⟩), own, G⟩
              case measure => simp [intOf]; omega
            · have sz := G.size
              have ow2 := own.bl ((Bl.refl wr).alloc (.cells #[.int .i64 x] 3))
              go_wp2_with (at_builtin; refine wp_app_i rfl (.tmp 80) (.tmp 82) rfl A' c' O rfl w.heap.size ow2 wr.heap.size x 1 rfl (At.new _ _ _) (by omega) (by simp; omega) ?_; intro A2 c2 w2 own2 ap2)
              go_roundw
              case rel => exact ⟨i + 1, j + 1, A2, c2, O ++ [x], by simp, by go_num, by go_num, stp.out _ (.inl ⟨rfl, fun h3 => by rw [par_succ i, par_succ j, ho.out, hz.out] at h3; simp at h3⟩), own2, ap2.bl (G.alloc _) ow2.lies (Nat.le_refl _)⟩
              case measure => simp [intOf]; omega
          · have hz1 : (((O.length : Nat) : Int) % 2 == 1) = true := by rw [Bool.eq_iff_iff]; simp; omega
            replace ho := Lib.hid ho
            go_wp2_with fail
            refine (hg _ _ _).mono ?_
            rintro e w' ⟨rfl, rfl⟩
            generalize hz : kp _ _ = z
            replace hz := Lib.hid hz
            cases z
            · have sz := G.size
              have ow2 := own.bl ((Bl.refl wr).alloc (.cells #[.int .i64 x] 3))
              go_wp2_with (at_builtin; refine wp_app_i rfl (.tmp 80) (.tmp 82) rfl A' c' O rfl w.heap.size ow2 wr.heap.size x 1 rfl (At.new _ _ _) (by omega) (by simp; omega) ?_; intro A2 c2 w2 own2 ap2)
              go_roundw
              case rel => exact ⟨i + 1, j + 1, A2, c2, O ++ [x], by simp, by go_num, by go_num, stp.out _ (.inl ⟨rfl, fun h3 => by rw [par_succ i, par_succ j, ho.out, hz.out] at h3; simp at h3⟩), own2, ap2.bl (G.alloc _) ow2.lies (Nat.le_refl _)⟩
              case measure => simp [intOf]; omega
            · go_wp2
              go_roundw
              case rel => exact ⟨i + 1, j + 1, A', c', O, rfl, by go_num, by go_num, stp.out _ (.inr ⟨rfl, by rw [par_succ i, par_succ j, ho.out]; exact hz.out⟩), own, G⟩
              case measure => simp [intOf]; omega
        · have hm : min x y = y := by omega
          have hq : (x == y) = false := by simp; omega
          have stp := fun O' => inv.step ha hb (i' := i) (j' := j + 1) (x := y) (O' := O') (.inl ⟨rfl, fun o ho => by have := da.out o ho; omega⟩) (.inr ⟨rfl, Hy.out⟩) (.inr Hy.out) (by omega)
          replace stp := Lib.hid stp
          rcases Nat.mod_two_eq_zero_or_one O.length with ho | ho
          · have hz1 : (((O.length : Nat) : Int) % 2 == 1) = false := by rw [Bool.eq_iff_iff]; simp; omega
            replace ho := Lib.hid ho
            go_wp2_with fail
            refine (hg _ _ _).mono ?_
            rintro e w' ⟨rfl, rfl⟩
            generalize hz : kp _ _ = z
            replace hz := Lib.hid hz
            cases z
            · go_wp2
              go_roundw
              case rel => exact ⟨i, j + 1, A', c', O, rfl, by go_num, by go_num, stp.out _ (.inr ⟨rfl, by rw [par_nat i, par_succ j, ho.out]; exact hz.out⟩), own, G⟩
              case measure => simp [intOf]; omega
            · have sz := G.size
              have ow2 := own.bl ((Bl.refl wr).alloc (.cells #[.int .i64 y] 3))
              go_wp2_with (at_builtin; refine wp_app_i rfl (.tmp 80) (.tmp 82) rfl A' c' O rfl w.heap.size ow2 wr.heap.size y 1 rfl (At.new _ _ _) (by omega) (by simp; omega) ?_; intro A2 c2 w2 own2 ap2)
              go_roundw
              case rel => exact ⟨i, j + 1, A2, c2, O ++ [y], by simp, by go_num, by go_num, stp.out _ (.inl ⟨rfl, fun h3 => by rw [par_nat i, par_succ j, ho.out, hz.out] at h3; simp at h3⟩), own2, ap2.bl (G.alloc _) ow2.lies (Nat.le_refl _)⟩
              case measure => simp [intOf]; omega
          · have hz1 : (((O.length : Nat) : Int) % 2 == 1) = true := by rw [Bool.eq_iff_iff]; simp; omega
            replace ho := Lib.hid ho
            go_wp2_with fail
            refine (hg _ _ _).mono ?_
            rintro e w' ⟨rfl, rfl⟩
            generalize hz : kp _ _ = z
            replace hz := Lib.hid hz
            cases z
            · have sz := G.size
              have ow2 := own.bl ((Bl.refl wr).alloc (.cells #[.int .i64 y] 3))
              go_wp2_with (at_builtin; refine wp_app_i rfl (.tmp 80) (.tmp 82) rfl A' c' O rfl w.heap.size ow2 wr.heap.size y 1 rfl (At.new _ _ _) (by omega) (by simp; omega) ?_; intro A2 c2 w2 own2 ap2)
              go_roundw
              case rel => exact ⟨i, j + 1, A2, c2, O ++ [y], by simp, by go_num, by go_num, stp.out _ (.inl ⟨rfl, fun h3 => by rw [par_nat i, par_succ j, ho.out, hz.out] at h3; simp at h3⟩), own2, ap2.bl (G.alloc _) ow2.lies (Nat.le_refl _)⟩
              case measure => simp [intOf]; omega
            · go_wp2
              go_roundw
              case rel => exact ⟨i, j + 1, A', c', O, rfl, by go_num, by go_num, stp.out _ (.inr ⟨rfl, by rw [par_nat i, par_succ j, ho.out]; exact hz.out⟩), own, G⟩
              case measure => simp [intOf]; omega
      · have hj2 : j = b.length := by omega
        have db : b.drop j = [] := List.drop_eq_nil_of_le (by omega)
        replace db := Lib.hid db
        have Hx := Lib.hid hx
        clear hx hj2
        have stp := fun O' => inv.step ha hb (i' := i + 1) (j' := j) (x := x) (O' := O') (.inr ⟨rfl, Hx.out⟩) (.inl ⟨rfl, fun o ho => by rw [db.out] at ho; simp at ho⟩) (.inl Hx.out) (by omega)
        replace stp := Lib.hid stp
        rcases Nat.mod_two_eq_zero_or_one O.length with ho | ho
        · have hz1 : (((O.length : Nat) : Int) % 2 == 1) = false := by rw [Bool.eq_iff_iff]; simp; omega
          replace ho := Lib.hid ho
          go_wp2_with fail
          refine (hg _ _ _).mono ?_
          rintro e w' ⟨rfl, rfl⟩
          generalize hz : kp _ _ = z
          replace hz := Lib.hid hz
          cases z
          · go_wp2
            go_roundw
            case rel => exact ⟨i + 1, j, A', c', O, rfl, by go_num, by go_num, stp.out _ (.inr ⟨rfl, by rw [par_succ i, par_nat j, ho.out]; exact hz.out⟩), own, G⟩
            case measure => simp [intOf]; omega
          · have sz := G.size
            have ow2 := own.bl ((Bl.refl wr).alloc (.cells #[.int .i64 x] 3))
            go_wp2_with (at_builtin; refine wp_app_i rfl (.tmp 80) (.tmp 82) rfl A' c' O rfl w.heap.size ow2 wr.heap.size x 1 rfl (At.new _ _ _) (by omega) (by simp; omega) ?_; intro A2 c2 w2 own2 ap2)
            go_roundw
            case rel => exact ⟨i + 1, j, A2, c2, O ++ [x], by simp, by go_num, by go_num, stp.out _ (.inl ⟨rfl, fun h3 => by rw [par_succ i, par_nat j, ho.out, hz.out] at h3; simp at h3⟩), own2, ap2.bl (G.alloc _) ow2.lies (Nat.le_refl _)⟩
            case measure => simp [intOf]; omega
        · have hz1 : (((O.length : Nat) : Int) % 2 == 1) = true := by rw [Bool.eq_iff_iff]; simp; omega
          replace ho := Lib.hid ho
          go_wp2_with fail
          refine (hg _ _ _).mono ?_
          rintro e w' ⟨rfl, rfl⟩
          generalize hz : kp _ _ = z
          replace hz := Lib.hid hz
          cases z
          · have sz := G.size
            have ow2 := own.bl ((Bl.refl wr).alloc (.cells #[.int .i64 x] 3))
            go_wp2_with (at_builtin; refine wp_app_i rfl (.tmp 80) (.tmp 82) rfl A' c' O rfl w.heap.size ow2 wr.heap.size x 1 rfl (At.new _ _ _) (by omega) (by simp; omega) ?_; intro A2 c2 w2 own2 ap2)
            go_roundw
            case rel => exact ⟨i + 1, j, A2, c2, O ++ [x], by simp, by go_num, by go_num, stp.out _ (.inl ⟨rfl, fun h3 => by rw [par_succ i, par_nat j, ho.out, hz.out] at h3; simp at h3⟩), own2, ap2.bl (G.alloc _) ow2.lies (Nat.le_refl _)⟩
            case measure => simp [intOf]; omega
          · go_wp2
            go_roundw
            case rel => exact ⟨i + 1, j, A', c', O, rfl, by go_num, by go_num, stp.out _ (.inr ⟨rfl, by rw [par_succ i, par_nat j, ho.out]; exact hz.out⟩), own, G⟩
            case measure => simp [intOf]; omega
    · by_cases hj : j < b.length
      · obtain ⟨y, hy⟩ := list_at hj
        obtain ⟨b2, o2, rfl, r2⟩ := hB.opened (by omega)
        have e2 := (r2.bl G) j y hy
        have y1 := (ib y (get_mem hy)).2
        have hm : min 9223372036854775807 y = y := by omega
        have da : a.drop i = [] := List.drop_eq_nil_of_le (by omega)
        replace da := Lib.hid da
        have Hy := Lib.hid hy
        clear hy
        have stp := fun O' => inv.step ha hb (i' := i) (j' := j + 1) (x := y) (O' := O') (.inl ⟨rfl, fun o ho => by rw [da.out] at ho; simp at ho⟩) (.inr ⟨rfl, Hy.out⟩) (.inr Hy.out) (by omega)
        replace stp := Lib.hid stp
        rcases Nat.mod_two_eq_zero_or_one O.length with ho | ho
        · have hz1 : (((O.length : Nat) : Int) % 2 == 1) = false := by rw [Bool.eq_iff_iff]; simp; omega
          replace ho := Lib.hid ho
          go_wp2_with fail
          refine (hg _ _ _).mono ?_
          rintro e w' ⟨rfl, rfl⟩
          generalize hz : kp _ _ = z
          replace hz := Lib.hid hz
          cases z
          · go_wp2
            go_roundw
            case rel => exact ⟨i, j + 1, A', c', O, rfl, by go_num, by go_num, stp.out _ (.inr ⟨rfl, by rw [par_nat i, par_succ j, ho.out]; exact hz.out⟩), own, G⟩
            case measure => simp [intOf]; omega
          · have sz := G.size
            have ow2 := own.bl ((Bl.refl wr).alloc (.cells #[.int .i64 y] 3))
            go_wp2_with (at_builtin; refine wp_app_i rfl (.tmp 80) (.tmp 82) rfl A' c' O rfl w.heap.size ow2 wr.heap.size y 1 rfl (At.new _ _ _) (by omega) (by simp; omega) ?_; intro A2 c2 w2 own2 ap2)
            go_roundw
            case rel => exact ⟨i, j + 1, A2, c2, O ++ [y], by simp, by go_num, by go_num, stp.out _ (.inl ⟨rfl, fun h3 => by rw [par_nat i, par_succ j, ho.out, hz.out] at h3; simp at h3⟩), own2, ap2.bl (G.alloc _) ow2.lies (Nat.le_refl _)⟩
            case measure => simp [intOf]; omega
        · have hz1 : (((O.length : Nat) : Int) % 2 == 1) = true := by rw [Bool.eq_iff_iff]; simp; omega
          replace ho := Lib.hid ho
          go_wp2_with fail
          refine (hg _ _ _).mono ?_
          rintro e w' ⟨rfl, rfl⟩
          generalize hz : kp _ _ = z
          replace hz := Lib.hid hz
          cases z
          · have sz := G.size
            have ow2 := own.bl ((Bl.refl wr).alloc (.cells #[.int .i64 y] 3))
            go_wp2_with (at_builtin; refine wp_app_i rfl (.tmp 80) (.tmp 82) rfl A' c' O rfl w.heap.size ow2 wr.heap.size y 1 rfl (At.new _ _ _) (by omega) (by simp; omega) ?_; intro A2 c2 w2 own2 ap2)
            go_roundw
            case rel => exact ⟨i, j + 1, A2, c2, O ++ [y], by simp, by go_num, by go_num, stp.out _ (.inl ⟨rfl, fun h3 => by rw [par_nat i, par_succ j, ho.out, hz.out] at h3; simp at h3⟩), own2, ap2.bl (G.alloc _) ow2.lies (Nat.le_refl _)⟩
            case measure => simp [intOf]; omega
          · go_wp2
            go_roundw
            case rel => exact ⟨i, j + 1, A', c', O, rfl, by go_num, by go_num, stp.out _ (.inr ⟨rfl, by rw [par_nat i, par_succ j, ho.out]; exact hz.out⟩), own, G⟩
            case measure => simp [intOf]; omega
      · have : i = a.length := by omega
        subst this
        have : j = b.length := by omega
        subst this
        go_wp2
        go_ret
        exact ⟨A', c', O, rfl, own, inv.done hk hae hbe, G⟩

end Go.Proofs.YtablogiielclaaaGreat
namespace Go.Proofs.YtablogiielclaaaGreat
open Go.RowKit Go.Sort

def RB2 (w : World) (A0 : Option Addr) (l0 : List BW) (C : Nat) (Q : List Bn → Prop) (e : Ending) (w' : World) : Prop := ∃ (A : Option Addr) (c : Nat) (l : List BW), e = .returned (.slice A l.length c) ∧ l.length ≤ c ∧ c ≤ C ∧ (∀ w0, Bs w0 A0 l0 → Bs w0 A l) ∧ Q (l.map BW.bn) ∧ w = w'

set_option maxHeartbeats 1000000 in
theorem from2 (A : Option Addr) (c : Nat) (l : List BW) (y : Int) (w : World) (h : Bs w A l) (hc : l.length ≤ c) (hl : c ≤ 9223372036854775807) :
    Calls Tryz.prog 211 #[.slice A l.length c, .int .i64 y] w (RB2 w A l c (fun E => E = fromL y (l.map BW.bn))) := by
  go_enter Tryz.func211, Tryz.ntmps211
  go_wp2
  go_loop [0] (fun v => ∃ (A' : Option Addr) (c' : Nat) (l' : List BW), v = .slice A' l'.length c' ∧ l'.length ≤ c' ∧ c' ≤ c ∧ (∀ w0, Bs w0 A l → Bs w0 A' l') ∧ Hid (fromL y (l'.map BW.bn) = fromL y (l.map BW.bn))) (fun v => match v with | .slice _ n _ => n | _ => 0)
  case atStart => exact ⟨A, c, l, rfl, hc, Nat.le_refl _, fun _ h => h, Lib.hid rfl⟩
  case round =>
    obtain ⟨A', c', l', rfl, hc', hcc, hB, hq⟩ := hrel
    have h' := hB w h
    cases l' with
    | nil =>
      go_wp2
      go_ret
      exact ⟨A', c', [], rfl, by simp, hcc, hB, hq.out, rfl⟩
    | cons r l' =>
      obtain ⟨b, off, rfl, hr⟩ := h'.opened (by simp)
      obtain ⟨e1, e2, e3⟩ := hr.at_ (k := 0) (r := r) rfl
      simp only [Nat.zero_mul, Nat.add_zero] at e1 e2 e3
      have HR := Lib.hid hr
      clear hr
      have hn : 0 < (r :: l').length := by simp
      obtain ⟨n, hN⟩ : ∃ n, n = (r :: l').length := ⟨_, rfl⟩
      rw [← hN] at hn hc' ⊢
      have HN := Lib.hid hN
      clear hN
      by_cases hy : r.y1 ≤ y
      · by_cases hc1 : c' = 1
        · go_wp2
          have hl' : l' = [] := List.eq_nil_of_length_eq_zero (by have := HN.out; simp at this; omega)
          subst hl'
          refine ⟨⟨some ⟨b, off, none⟩, 0, [], by have := HN.out; simp at this; subst this; rfl, by simp, by omega, fun _ _ => ⟨.inl rfl, by simp⟩, Lib.hid ?_⟩, ?_⟩
          · rw [← hq.out]; show fromL y [] = if r.y1 ≤ y then fromL y [] else _; rw [if_pos hy]
          · show n - 1 < n; omega
        · go_wp2
          have hn' : n - 1 = l'.length := by have := HN.out; simp at this; omega
          refine ⟨⟨some ⟨b, off + 3, none⟩, c' - 1, l', by rw [hn'], by omega, by omega, fun w0 h0 => Bs.tail (hB w0 h0), Lib.hid ?_⟩, ?_⟩
          · rw [← hq.out]; show fromL y (l'.map BW.bn) = if r.y1 ≤ y then fromL y (l'.map BW.bn) else _; rw [if_pos hy]
          · show n - 1 < n; omega
      · go_wp2
        go_ret
        exact ⟨some ⟨b, off, none⟩, c', r :: l', by rw [← HN.out]; rfl, by rw [← HN.out]; exact hc', hcc, hB, by show _ = _; rw [← hq.out]; show _ = if r.y1 ≤ y then _ else _; rw [if_neg (by omega)]; rfl, rfl⟩


end Go.Proofs.YtablogiielclaaaGreat
namespace Go.Proofs.YtablogiielclaaaGreat
open Go.RowKit Go.Sort

/-- Numbers of two short lists. -/
structure Grid (X Y : List Int) : Prop where
  x : X.length ≤ 1000
  y : Y.length ≤ 1000
  i : I64s X
/-- What a merge tells. -/
structure MQ (X Y : List Int) (a b : List Rc) (kp : Bool → Bool → Bool) (L : List Rc) : Prop where
  reg : IsReg L
  inr : InR X Y L
  has : ∀ x y, hasL L x y = kp (hasL a x y) (hasL b x y)

theorem OwBs.bs {w : World} {B : Nat} {A : Option Addr} {c : Nat} {l : List BW} (h : OwBs w B A c l) : Bs w A l ∧ l.length ≤ c := by
  have hc := h.1.cap
  rw [List.length_map] at hc
  refine ⟨⟨?_, fun r hr => ⟨(h.2 r hr).cap, (h.2 r hr).is⟩⟩, hc⟩
  rcases h.1.addr with ⟨_, _, h0⟩ | ⟨g, rfl, _⟩
  · left; simpa using h0
  · right; exact ⟨g, 0, rfl, h.1.row⟩
theorem OwBs.capmax {w : World} {B : Nat} {A : Option Addr} {c : Nat} {l : List BW} (h : OwBs w B A c l) : c ≤ 9223372036854775807 := by
  rcases h.1.2 with ⟨h1, _⟩ | ⟨g, cap, cur, h1, _, _, _, h4, _⟩
  · injection h1 with _ _ h1; omega
  · injection h1 with _ _ h1; subst h1; unfold maxLen at h4; omega

theorem own_mono {w : World} {B B' s n : Nat} {e : TypeId} {v : Value} {xs : List Value} (h : w.ownsRow B e s v n xs) (hB : B' ≤ B) : w.ownsRow B' e s v n xs := by
  refine ⟨h.1, ?_⟩
  rcases h.2 with h1 | ⟨g, cap, cur, h1, h2, h3⟩
  · exact .inl h1
  · exact .inr ⟨g, cap, cur, h1, by omega, h3⟩
theorem ownI_mono {w : World} {B B' c : Nat} {A : Option Addr} {E : List Int} (h : OwI w B A c E) (hB : B' ≤ B) : OwI w B' A c E := own_mono h hB
theorem ownR_mono {w : World} {B B' c : Nat} {A : Option Addr} {E : List Rc} (h : OwR w B A c E) (hB : B' ≤ B) : OwR w B' A c E := own_mono h hB

set_option maxRecDepth 100000 in
set_option maxHeartbeats 16000000 in
theorem merge1 (A B : Option Addr) (c d : Nat) (a b : List Rc) (X Y : List Int) (g : FuncId) (kp : Bool → Bool → Bool) (w : World) (hA : Rs w A a) (hB : Rs w B b) (ra : IsReg a) (rb : IsReg b) (hX : Grid X Y) (ia : InR X Y a) (ib : InR X Y b)
    (hc : Kc g) (hg : Kp g kp) (hk : kp false false = false) :
    Calls Tryz.prog 152 #[.slice A a.length c, .slice B b.length d, .func (.func g) #[] #[]] w (RR w (MQ X Y a b kp)) := by
  obtain ⟨ga, ea⟩ := ra.bands
  obtain ⟨gb, eb⟩ := rb.bands
  have la : a.length ≤ 1000000 := by
    have h1 := rects_len ga.toWk (InR.bands ga (by rw [ea]; exact ia))
    rw [ea] at h1
    exact Nat.le_trans h1 (Nat.le_trans (Nat.mul_le_mul hX.y hX.x) (by omega))
  have lb : b.length ≤ 1000000 := by
    have h1 := rects_len gb.toWk (InR.bands gb (by rw [eb]; exact ib))
    rw [eb] at h1
    exact Nat.le_trans h1 (Nat.le_trans (Nat.mul_le_mul hX.y hX.x) (by omega))
  go_enter Tryz.func152, Tryz.ntmps152
  go_wp2_with fail
  refine (bandsOf1 A c a w hA la).mono ?_
  rintro e W1 ⟨A1, c1, p, rfl, op, hp, g1⟩
  go_wp2_with fail
  refine (bandsOf1 B d b W1 (hB.bl g1) lb).mono ?_
  rintro e W2 ⟨A2, c2, q, rfl, oq, hq, g2⟩
  obtain ⟨bp, cp⟩ := (op.bl g2).bs
  obtain ⟨bq, cq⟩ := oq.bs
  have mp := op.capmax
  have mq := oq.capmax
  rw [← hp] at ga ea
  rw [← hq] at gb eb
  have wp := ga.toWk
  have wq := gb.toWk
  have gia := InR.bands ga (by rw [ea]; exact ia)
  have gib := InR.bands gb (by rw [eb]; exact ib)
  have lp : p.length ≤ 1000 := by have := bands_len wp gia; rw [List.length_map] at this; exact Nat.le_trans this hX.y
  have lq : q.length ≤ 1000 := by have := bands_len wq gib; rw [List.length_map] at this; exact Nat.le_trans this hX.y
  have elp : ∀ r ∈ p.map BW.bn, r.E.length ≤ 1000000 := fun r hr => Nat.le_trans (inc_len _ _ (wp.ok r hr).2.1 (gia r hr).2.2) (Nat.le_trans hX.x (by omega))
  have elq : ∀ r ∈ q.map BW.bn, r.E.length ≤ 1000000 := fun r hr => Nat.le_trans (inc_len _ _ (wq.ok r hr).2.1 (gib r hr).2.2) (Nat.le_trans hX.x (by omega))
  have ilp : ∀ r ∈ p.map BW.bn, I64s r.E := fun r hr x hx => hX.i x ((gia r hr).2.2 x hx)
  have ilq : ∀ r ∈ q.map BW.bn, I64s r.E := fun r hr x hx => hX.i x ((gib r hr).2.2 x hx)
  have G2 : Bl w W2 := g1.trans g2
  clear oq op hA hB
  go_wp2_with fail
  refine (heights1 A1 A2 c1 c2 p q W2 bp bq (by omega) (by omega)).mono ?_
  rintro e W3 ⟨A3, c3, ys, rfl, oy, hy, g3⟩
  have iy := oy.is
  have lys : ys.length ≤ 4000 := by have := hy.len; rw [List.length_map, List.length_map] at this; omega
  have G3 := G2.trans g3
  have sz3 := G3.size
  have st := MInv.start hy hk wp wq
  replace st := Lib.hid st
  replace bp := bp.bl g3
  replace bq := bq.bl g3
  clear oy g1 g2 g3 G2
  go_wp2
  go_loopw [7, 8, 10, 11] (fun vp vq vo i wr => ∃ (k : Nat) (A4 A5 A6 : Option Addr) (c4 c5 c6 : Nat) (p' q' O : List BW), vp = .slice A4 p'.length c4 ∧ vq = .slice A5 q'.length c5 ∧ vo = .slice A6 O.length c6 ∧ i = .int .i64 k ∧
      Hid (MInv (p.map BW.bn) (q.map BW.bn) kp ys k (O.map BW.bn) (p'.map BW.bn) (q'.map BW.bn)) ∧ (k ≤ ys.length ∨ k = 1) ∧ 1 ≤ k ∧ Bs W3 A4 p' ∧ p'.length ≤ c4 ∧ c4 ≤ 9223372036854775807 ∧ Bs W3 A5 q' ∧ q'.length ≤ c5 ∧ c5 ≤ 9223372036854775807 ∧
      OwBs wr W3.heap.size A6 c6 O ∧ Bl W3 wr) (fun _ _ _ i _ => ys.length - (intOf i).toNat)
  case atStart => exact ⟨1, A1, A2, none, c1, c2, 0, p, q, [], rfl, rfl, rfl, rfl, st, .inr rfl, Nat.le_refl _, bp, cp, mp, bq, cq, mq, ⟨OwB.nil _ _, by simp⟩, Bl.refl _⟩
  case round =>
    obtain ⟨k, A4, A5, A6, c4, c5, c6, p', q', O, rfl, rfl, rfl, rfl, inv, hk1, hk2, bp', cp', mp', bq', cq', mq', ow, G⟩ := hrel
    by_cases hlt : k < ys.length
    · obtain ⟨m, rfl⟩ : ∃ m, k = m + 1 := ⟨k - 1, by omega⟩
      obtain ⟨y0, h0⟩ := list_at (show m < ys.length by omega)
      obtain ⟨y1, h1⟩ := list_at hlt
      obtain ⟨b0, o0, rfl, ry⟩ := iy.opened (by omega)
      have E0 := fun n os => (ry.bl ((G.drewN n).grow os)) m y0 h0
      have E1 := fun n os => (ry.bl ((G.drewN n).grow os)) (m + 1) y1 h1
      have hw1 : IntKind.i64.wrap (m : Int) = (m : Int) := IntWalk.i64_in _ (by omega)
      have hm1 : (m : Int) < (ys.length : Int) := by omega
      have hm2 : (m : Int) + 1 < (ys.length : Int) := by omega
      replace h0 := Lib.hid h0
      replace h1 := Lib.hid h1
      clear ry
      go_wp2
      refine wp_region_quiet_grown (by kernel_rfl) (by kernel_rfl) ?_
      repeat (first | go_big_quiet_step (fail) | quiet_step (fail))
      refine wpQuiet_nil ?_
      intro W4 g8
      replace g8 : Gr _ W4 := g8
      clear E0 E1 hw1
      have ow4 := ow.bl g8.bl
      have G4 := G.gr g8
      have bp4 := bp'.bl G4
      have bq4 := bq'.bl G4
      clear g8 ow G
      go_wp2_with fail
      refine (from2 A4 c4 p' y0 W4 bp4 cp' mp').mono ?_
      rintro e w' ⟨A7, c7, p7, rfl, cp7, cc7, kp7, hp7, rfl⟩
      replace hp7 := Lib.hid hp7
      go_wp2_with fail
      refine (from2 A5 c5 q' y0 W4 bq4 cq' mq').mono ?_
      rintro e w' ⟨A8, c8, q8, rfl, cq8, cc8, kq8, hq8, rfl⟩
      have inv' := inv.out
      have hsp : (p7.map BW.bn).Sublist (p.map BW.bn) := by rw [hp7.out]; exact (fromL_sub _ _).trans inv'.sp
      have hsq : (q8.map BW.bn).Sublist (q.map BW.bn) := by rw [hq8]; exact (fromL_sub _ _).trans inv'.sq
      have ok7 := edgesL_ok (y := y0) (wp.sub hsp)
      have ok8 := edgesL_ok (y := y0) (wq.sub hsq)
      have mem7 := edgesL_mem (p := p7.map BW.bn) (y := y0)
      have mem8 := edgesL_mem (p := q8.map BW.bn) (y := y0)
      have len7 : (edgesL (p7.map BW.bn) y0).length ≤ 1000000 := by
        rcases mem7 with h | ⟨r, h, h'⟩
        · rw [h]; simp
        · rw [h']; exact elp r (hsp.mem h)
      have len8 : (edgesL (q8.map BW.bn) y0).length ≤ 1000000 := by
        rcases mem8 with h | ⟨r, h, h'⟩
        · rw [h]; simp
        · rw [h']; exact elq r (hsq.mem h)
      have i7 : I64s (edgesL (p7.map BW.bn) y0) := by
        rcases mem7 with h | ⟨r, h, h'⟩
        · rw [h]; intro x hx; simp at hx
        · rw [h']; exact ilp r (hsp.mem h)
      have i8 : I64s (edgesL (q8.map BW.bn) y0) := by
        rcases mem8 with h | ⟨r, h, h'⟩
        · rw [h]; intro x hx; simp at hx
        · rw [h']; exact ilq r (hsq.mem h)
      have lO : O.length ≤ 4000 := by have := inv'.len; rw [List.length_map] at this; omega
      replace hq8 := Lib.hid hq8
      have elO : ∀ r ∈ O, r.E.length ≤ 9000000 := fun r hr => Nat.le_trans (inv'.el r.bn (List.mem_map_of_mem hr)) (by omega)
      clear inv' mem7 mem8
      go_wp2_with fail
      refine (edgesAt1 A7 c7 p7 y0 W4 (kp7 W4 bp4)).mono ?_
      rintro e w' ⟨A9, c9, e7, rfl, _, is7, he7, rfl⟩
      rw [← he7] at ok7 len7 i7
      replace he7 := Lib.hid he7
      go_wp2_with fail
      refine (edgesAt1 A8 c8 q8 y0 W4 (kq8 W4 bq4)).mono ?_
      rintro e w' ⟨A10, c10, e8, rfl, _, is8, he8, rfl⟩
      rw [← he8] at ok8 len8 i8
      replace he8 := Lib.hid he8
      go_wp2_with fail
      refine (mergeEdges1 A9 A10 c9 c10 e7 e8 g kp W4 is7 is8 ok7.1 ok8.1 ok7.2 ok8.2 len7 len8 i7 i8 hc hg hk).mono ?_
      rintro e W5 ⟨A11, c11, ne, rfl, own, hm, g5⟩
      have hml : ne.length ≤ 9000000 := by have := hm.len; omega
      replace hm := Lib.hid hm
      have sz4 := G4.size
      have ow5 := ow4.bl g5
      have own5 : OwI W5 W3.heap.size A11 c11 ne := ownI_mono own sz4
      have G5 := G4.trans g5
      have sz5 := G5.size
      go_wp2_with fail
      refine (add1 A6 c6 O ⟨y0, y1, ne, A11, c11⟩ W5 W3.heap.size ow5 own5 sz5 (by omega) elO hml).mono ?_
      rintro e W6 ⟨A12, c12, O6, rfl, ow6, hO6, b6⟩
      go_wp2
      go_roundw
      case rel =>
        refine ⟨m + 1 + 1, A7, A8, A12, c7, c8, c12, p7, q8, O6, rfl, rfl, rfl, by go_num, Lib.hid ?_, .inl (by omega), by omega, kp7 W3 bp', cp7, by omega, kq8 W3 bq', cq8, by omega, ow6, G5.trans2 b6 sz5⟩
        have := inv.out.step hy wp wq (y0 := y0) (y1 := y1) h0.out h1.out elp elq (e := ne) (by rw [← hp7.out, ← hq8.out, ← he7.out, ← he8.out]; exact hm.out)
        rw [← hp7.out, ← hq8.out] at this
        rw [hO6]
        exact this
      case measure => simp [intOf]; omega
    · have fin := inv.out.done hy hk (by omega) hk1
      have wk := inv.out.wk
      have hin : InB X Y (O.map BW.bn) := fun r hr => by
        obtain ⟨q1, q2, q3⟩ := inv.out.ed r hr
        refine ⟨?_, ?_, fun e he => ?_⟩
        · obtain ⟨b', h1, h2⟩ := (hy.mem _).1 q2
          rcases h1 with h1 | h1
          · rcases h2 with h2 | h2 <;> rw [h2]; exact (gia b' h1).1; exact (gia b' h1).2.1
          · rcases h2 with h2 | h2 <;> rw [h2]; exact (gib b' h1).1; exact (gib b' h1).2.1
        · obtain ⟨b', h1, h2⟩ := (hy.mem _).1 q3
          rcases h1 with h1 | h1
          · rcases h2 with h2 | h2 <;> rw [h2]; exact (gia b' h1).1; exact (gia b' h1).2.1
          · rcases h2 with h2 | h2 <;> rw [h2]; exact (gib b' h1).1; exact (gib b' h1).2.1
        · obtain ⟨b', h1, h2⟩ := q1 e he
          rcases h1 with h1 | h1
          · exact (gia b' h1).2.2 e h2
          · exact (gib b' h1).2.2 e h2
      have lR : (rectsL (O.map BW.bn)).length ≤ 1000000 := Nat.le_trans (rects_len wk hin) (Nat.le_trans (Nat.mul_le_mul hX.y hX.x) (by omega))
      have lO : O.length ≤ 1000000 := by
        have h1 := bands_len wk hin
        have h2 := hX.y
        rw [List.length_map] at h1
        omega
      have eO : ∀ r ∈ O, r.E.length % 2 = 0 ∧ r.E.length ≤ 9000000 := fun r hr => ⟨(wk.ok r.bn (List.mem_map_of_mem hr)).2.2, Nat.le_trans (inv.out.el r.bn (List.mem_map_of_mem hr)) (by omega)⟩
      have hfin : MQ X Y a b kp (rectsL (O.map BW.bn)) := by
        refine ⟨wk.reg, hin.rects, fun x y => ?_⟩
        rw [rects_hasL wk, fin, ← rects_hasL wp, ← rects_hasL wq, ea, eb]
      replace hfin := Lib.hid hfin
      clear fin wk hin
      go_wp2_with fail
      refine (rectsOf1 A6 c6 O wr ow.bs.1 lO eO lR).mono ?_
      rintro e W4 ⟨A7, c7, L, rfl, owL, hL, g4⟩
      replace hL := Lib.hid hL
      go_wp2
      go_ret
      have sz := G.size
      exact ⟨A7, c7, L, rfl, ownR_mono owL (by omega), by rw [hL.out]; exact hfin.out, (G3.trans G).trans g4⟩

end Go.Proofs.YtablogiielclaaaGreat
namespace Go.Proofs.YtablogiielclaaaGreat

/-- All numbers of the rectangles that have points, and no others. -/
structure Axes (a b : List Rc) (xs ys : List Int) : Prop where
  xi : Inc xs
  yi : Inc ys
  xm : ∀ x, x ∈ xs ↔ ∃ r ∈ a ++ b, emptyB r.a r.b r.c r.d = false ∧ (x = r.a ∨ x = r.c)
  ym : ∀ y, y ∈ ys ↔ ∃ r ∈ a ++ b, emptyB r.a r.b r.c r.d = false ∧ (y = r.b ∨ y = r.d)
theorem not_empty {r : Rc} (h : emptyB r.a r.b r.c r.d = false) : r.a < r.c ∧ r.b < r.d := by
  unfold emptyB at h; simp at h; omega
theorem has_not_empty {r : Rc} {x y : Int} (h : hasB r.a r.b r.c r.d x y = true) : emptyB r.a r.b r.c r.d = false := by
  unfold hasB at h; unfold emptyB; simp at *; omega
theorem hasL_false {L : List Rc} {x y : Int} (h : ∀ r ∈ L, hasB r.a r.b r.c r.d x y = false) : hasL L x y = false := by
  unfold hasL; rw [List.any_eq_false]; intro r hr; rw [h r hr]; simp
theorem hasL_same {L : List Rc} {x y x' y' : Int} (h : ∀ r ∈ L, hasB r.a r.b r.c r.d x y = hasB r.a r.b r.c r.d x' y') : hasL L x y = hasL L x' y' := by
  induction L with
  | nil => rfl
  | cons r l ih =>
    unfold hasL at *
    rw [List.any_cons, List.any_cons, h r (by simp), ih fun q hq => h q (by simp [hq])]
theorem Axes.cols {a b : List Rc} {xs ys : List Int} (h : Axes a b xs ys) {kp : Bool → Bool → Bool} (hk : kp false false = false) (y : Int) : Cols (fun x => kp (hasL a x y) (hasL b x y)) xs := by
  have one : ∀ r ∈ a ++ b, ∀ x, hasB r.a r.b r.c r.d x y = true → r.a ∈ xs ∧ r.c ∈ xs ∧ r.a ≤ x ∧ x < r.c := by
    intro r hr x hx
    have he := has_not_empty hx
    refine ⟨(h.xm _).2 ⟨r, hr, he, .inl rfl⟩, (h.xm _).2 ⟨r, hr, he, .inr rfl⟩, ?_⟩
    unfold hasB at hx; simp at hx; omega
  refine ⟨h.xi, fun x hx => ?_, fun x hx => ?_, fun k x0 x1 x h0 h1 hl hr => ?_⟩
  · have q : ∀ r ∈ a ++ b, hasB r.a r.b r.c r.d x y = false := fun r hr => by
      cases hh : hasB r.a r.b r.c r.d x y with
      | false => rfl
      | true => obtain ⟨q1, _, q3, _⟩ := one r hr x hh; have := hx _ q1; omega
    simp only [hasL_false (L := a) fun r hr => q r (by simp [hr]), hasL_false (L := b) fun r hr => q r (by simp [hr]), hk]
  · have q : ∀ r ∈ a ++ b, hasB r.a r.b r.c r.d x y = false := fun r hr => by
      cases hh : hasB r.a r.b r.c r.d x y with
      | false => rfl
      | true => obtain ⟨_, q2, _, q4⟩ := one r hr x hh; have := hx _ q2; omega
    simp only [hasL_false (L := a) fun r hr => q r (by simp [hr]), hasL_false (L := b) fun r hr => q r (by simp [hr]), hk]
  · have q : ∀ r ∈ a ++ b, hasB r.a r.b r.c r.d x y = hasB r.a r.b r.c r.d x0 y := fun r hr' => by
      by_cases he : emptyB r.a r.b r.c r.d = true
      · unfold emptyB at he; unfold hasB; simp at *; rw [Bool.eq_iff_iff]; simp; omega
      · simp only [Bool.not_eq_true] at he
        have n1 := fun hl' => inc_next h.xi h0 h1 ((h.xm r.a).2 ⟨r, hr', he, .inl rfl⟩) hl'
        have n2 := fun hl' => inc_next h.xi h0 h1 ((h.xm r.c).2 ⟨r, hr', he, .inr rfl⟩) hl'
        unfold hasB
        rw [decide_eq_decide]
        constructor
        · rintro ⟨g1, g2, g3⟩
          refine ⟨?_, ?_, g3⟩
          · rcases Int.lt_or_le x0 r.a with g | g
            · have := n1 g; omega
            · exact g
          · omega
        · rintro ⟨g1, g2, g3⟩
          refine ⟨by omega, ?_, g3⟩
          have := n2 g2; omega
    simp only [hasL_same (L := a) fun r hr => q r (by simp [hr]), hasL_same (L := b) fun r hr => q r (by simp [hr])]

/-- The rows so far: those that are done, and the last one. -/
structure OInv (a b : List Rc) (kp : Bool → Bool → Bool) (ys xs : List Int) (i : Nat) (Bs : List Bn) (t : Option Bn) : Prop where
  wk : Wk (Bs ++ t.toList)
  top : ∀ y0, ys[i]? = some y0 → ∀ c ∈ Bs ++ t.toList, c.y1 ≤ y0
  last : ∀ c, t = some c → c.E ≠ [] ∧ ys[i]? = some c.y1
  par : ∀ y0, ys[i]? = some y0 → ∀ y, y < y0 → ∀ x, inE (rowE (Bs ++ t.toList) y) x = kp (hasL a x y) (hasL b x y)
  ed : ∀ c ∈ Bs ++ t.toList, (∀ e ∈ c.E, e ∈ xs) ∧ c.y0 ∈ ys ∧ c.y1 ∈ ys
  gap : t = none → ∀ y0, ys[i]? = some y0 → ∀ c ∈ Bs, c.y1 < y0
theorem has_low {a b : List Rc} {xs ys : List Int} (h : Axes a b xs ys) {y : Int} (hy : (∀ z ∈ ys, y < z) ∨ (∀ z ∈ ys, z ≤ y)) (x : Int) : hasL a x y = false ∧ hasL b x y = false := by
  have q : ∀ r ∈ a ++ b, hasB r.a r.b r.c r.d x y = false := fun r hr => by
    cases hh : hasB r.a r.b r.c r.d x y with
    | false => rfl
    | true =>
      have he := has_not_empty hh
      have m1 := (h.ym r.b).2 ⟨r, hr, he, .inl rfl⟩
      have m2 := (h.ym r.d).2 ⟨r, hr, he, .inr rfl⟩
      unfold hasB at hh; simp at hh
      rcases hy with hy | hy
      · have := hy _ m1; omega
      · have := hy _ m2; omega
  exact ⟨hasL_false fun r hr => q r (by simp [hr]), hasL_false fun r hr => q r (by simp [hr])⟩
theorem OInv.start {a b : List Rc} {kp : Bool → Bool → Bool} {xs ys : List Int} (h : Axes a b xs ys) (hk : kp false false = false) : OInv a b kp ys xs 0 [] none := by
  refine ⟨Wk.nil, by simp, by simp, fun y0 h0 y hy x => ?_, by simp, by simp⟩
  obtain ⟨q1, q2⟩ := has_low h (y := y) (.inl fun z hz => by have := inc_first h.yi h0 hz; omega) x
  rw [q1, q2, hk]; rfl
theorem row_same {a b : List Rc} {xs ys : List Int} (h : Axes a b xs ys) {kp : Bool → Bool → Bool} {i : Nat} {y0 y1 y : Int} (h0 : ys[i]? = some y0) (h1 : ys[i + 1]? = some y1) (hl : y0 ≤ y) (hr : y < y1) (x : Int) : kp (hasL a x y) (hasL b x y) = kp (hasL a x y0) (hasL b x y0) := by
  have q : ∀ r ∈ a ++ b, hasB r.a r.b r.c r.d x y = hasB r.a r.b r.c r.d x y0 := fun r hr' => by
    by_cases he : emptyB r.a r.b r.c r.d = true
    · unfold emptyB at he; unfold hasB; simp at *; rw [Bool.eq_iff_iff]; simp; omega
    · simp only [Bool.not_eq_true] at he
      have n1 := fun hl' => inc_next h.yi h0 h1 ((h.ym r.b).2 ⟨r, hr', he, .inl rfl⟩) hl'
      have n2 := fun hl' => inc_next h.yi h0 h1 ((h.ym r.d).2 ⟨r, hr', he, .inr rfl⟩) hl'
      unfold hasB
      rw [decide_eq_decide]
      constructor
      · rintro ⟨g1, g2, g3, g4⟩
        refine ⟨g1, g2, ?_, by omega⟩
        rcases Int.lt_or_le y0 r.b with g | g
        · have := n1 g; omega
        · exact g
      · rintro ⟨g1, g2, g3, g4⟩
        refine ⟨g1, g2, by omega, ?_⟩
        have := n2 g4; omega
  rw [hasL_same (L := a) fun r hr => q r (by simp [hr]), hasL_same (L := b) fun r hr => q r (by simp [hr])]
/-- One more row: it goes on the last one, or stands below it, or is none. -/
theorem OInv.step {a b : List Rc} {kp : Bool → Bool → Bool} {xs ys : List Int} {i : Nat} {Bs : List Bn} {t : Option Bn} (h : OInv a b kp ys xs i Bs t) (hx : Axes a b xs ys) {y0 y1 : Int} (h0 : ys[i]? = some y0) (h1 : ys[i + 1]? = some y1)
    {E : List Int} (hE : Inc E ∧ E.length % 2 = 0) (hs : ∀ e ∈ E, e ∈ xs) (hp : ∀ x, inE E x = kp (hasL a x y0) (hasL b x y0)) :
    (∀ c, t = some c → c.E = E → OInv a b kp ys xs (i + 1) Bs (some ⟨c.y0, y1, c.E⟩)) ∧
    ((∀ c, t = some c → c.E ≠ E) → OInv a b kp ys xs (i + 1) (Bs ++ t.toList) (if E = [] then none else some ⟨y0, y1, E⟩)) := by
  have hlt := inc_lt hx.yi h0 h1
  have ok : (⟨y0, y1, E⟩ : Bn).ok := ⟨hlt, hE⟩
  obtain ⟨a1, a2, a3, _, _⟩ := addL_wk h.wk ok (h.top y0 h0)
  have tops : ∀ c ∈ Bs ++ t.toList, c.y1 ≤ y1 := fun c hc => by have := h.top y0 h0 c hc; omega
  have parE : ∀ (O : List Bn), (∀ y, rowE O y = if y0 ≤ y ∧ y < y1 then E else rowE (Bs ++ t.toList) y) → ∀ y, y < y1 → ∀ x, inE (rowE O y) x = kp (hasL a x y) (hasL b x y) := by
    intro O hO y hy x
    rw [hO]
    by_cases h2 : y0 ≤ y
    · rw [if_pos ⟨h2, hy⟩, hp]; exact (row_same hx h0 h1 h2 hy x).symm
    · rw [if_neg (by omega)]; exact h.par y0 h0 y (by omega) x
  constructor
  · intro c hc hcE
    subst hc
    have hl := h.last c rfl
    rw [h0] at hl
    have hy1 : c.y1 = y0 := by have := hl.2; injection this with this; exact this.symm
    have hadd : addL (Bs ++ [c]) ⟨y0, y1, E⟩ = Bs ++ [⟨c.y0, y1, c.E⟩] := by
      rw [addL_snoc, if_pos (by simp [goesB, hy1, hcE])]
    simp only [Option.toList_some] at a1 a2 a3 parE ⊢
    rw [hadd] at a1 a2 a3
    refine ⟨a1, fun z hz d hd => ?_, fun d hd => ?_, fun z hz => ?_, fun d hd => ?_, by simp⟩
    · rw [h1] at hz; injection hz with hz; subst hz; exact a3 d hd
    · injection hd with hd; subst hd; exact ⟨hl.1, h1⟩
    · rw [h1] at hz; injection hz with hz; subst hz
      exact parE _ a2
    · simp only [Option.toList_some] at hd
      rw [List.mem_append, List.mem_singleton] at hd
      rcases hd with hd | rfl
      · exact h.ed d (by simp [hd])
      · obtain ⟨q1, q2, q3⟩ := h.ed c (by simp)
        exact ⟨q1, q2, get_mem h1⟩
  · intro hne
    by_cases hE0 : E = []
    · subst hE0
      rw [if_pos rfl]
      refine ⟨?_, ?_, by simp, ?_, ?_, ?_⟩
      · simpa using h.wk
      · intro z hz d hd
        rw [h1] at hz; injection hz with hz; subst hz
        exact tops d (by simpa using hd)
      · intro z hz
        rw [h1] at hz; injection hz with hz; subst hz
        simp only [Option.toList_none, List.append_nil]
        refine parE _ fun y => ?_
        by_cases h2 : y0 ≤ y ∧ y < y1
        · rw [if_pos h2]; exact rowE_none fun c hc => by have := h.top y0 h0 c hc; right; omega
        · rw [if_neg h2]
      · intro d hd; exact h.ed d (by simpa using hd)
      · intro _ z hz c hc
        rw [h1] at hz; injection hz with hz; subst hz
        have := h.top y0 h0 c hc; omega
    · rw [if_neg hE0]
      have hadd : addL (Bs ++ t.toList) ⟨y0, y1, E⟩ = Bs ++ t.toList ++ [⟨y0, y1, E⟩] := by
        cases t with
        | some c =>
          rw [Option.toList_some, addL_snoc, if_neg]
          simp only [goesB, decide_eq_true_eq]
          exact fun hh => hne c rfl hh.2
        | none =>
          rw [Option.toList_none, List.append_nil]
          rcases List.eq_nil_or_concat Bs with hB | ⟨l, c, hB⟩
          · rw [hB]; rfl
          · rw [List.concat_eq_append] at hB
            rw [hB, addL_snoc, if_neg]
            simp only [goesB, decide_eq_true_eq]
            rintro ⟨g1, _⟩
            have := h.gap rfl y0 h0 c (by rw [hB]; simp)
            omega
      rw [hadd] at a1 a2 a3
      refine ⟨a1, fun z hz d hd => ?_, fun d hd => ?_, fun z hz => ?_, fun d hd => ?_, by simp⟩
      · rw [h1] at hz; injection hz with hz; subst hz; exact a3 d hd
      · injection hd with hd; subst hd; exact ⟨hE0, h1⟩
      · rw [h1] at hz; injection hz with hz; subst hz
        exact parE _ a2
      · simp only [Option.toList_some] at hd
        rw [List.mem_append, List.mem_singleton] at hd
        rcases hd with hd | rfl
        · exact h.ed d hd
        · exact ⟨hs, get_mem h0, get_mem h1⟩
theorem OInv.done {a b : List Rc} {kp : Bool → Bool → Bool} {xs ys : List Int} {i : Nat} {Bs : List Bn} {t : Option Bn} (h : OInv a b kp ys xs i Bs t) (hx : Axes a b xs ys) (hk : kp false false = false) (hi : i + 1 = ys.length ∨ ys = []) :
    ∀ x y, hasL (rectsL (Bs ++ t.toList)) x y = kp (hasL a x y) (hasL b x y) := by
  intro x y
  rw [rects_hasL h.wk]
  rcases hi with hi | hi
  · obtain ⟨y0, h0⟩ := list_at (show i < ys.length by omega)
    by_cases hy : y < y0
    · exact h.par y0 h0 y hy x
    · rw [rowE_none fun c hc => by have := h.top y0 h0 c hc; right; omega]
      obtain ⟨q1, q2⟩ := has_low hx (y := y) (.inr fun z hz => by have := inc_last hx.yi h0 hi hz; omega) x
      rw [q1, q2, hk]; rfl
  · have hn : Bs ++ t.toList = [] := by
      cases hB : Bs ++ t.toList with
      | nil => rfl
      | cons c l =>
        have := (h.ed c (by rw [hB]; simp)).2.1
        rw [hi] at this; simp at this
    rw [hn]
    obtain ⟨q1, q2⟩ := has_low hx (y := y) (.inl (by rw [hi]; simp)) x
    rw [q1, q2, hk]; rfl

end Go.Proofs.YtablogiielclaaaGreat
namespace Go.Proofs.YtablogiielclaaaGreat
open Go.RowKit Go.Sort

attribute [local go_sem] cell?_grow frozen?_grow nlt_r
attribute [local go_sem ↓] run_min2 run_max2

set_option maxHeartbeats 2000000 in
theorem small1 (a b c d : Int) (w : World) (ha : I64 a) (hb : I64 b) (hc : I64 c) (hd : I64 d) :
    Calls Tryz.prog 65 #[.agg #[.int .i64 a, .int .i64 b, .int .i64 c, .int .i64 d]] w
      (Rt w (.agg #[.int .i64 (smallR a b c d).a, .int .i64 (smallR a b c d).b, .int .i64 (smallR a b c d).c, .int .i64 (smallR a b c d).d])) := by
  have A0 := around_bd a 24 (by omega)
  have B0 := around_bd b 24 (by omega)
  have C0 := around_bd c 13 (by omega)
  have D0 := around_bd d 13 (by omega)
  obtain ⟨A1, A2⟩ := A0
  obtain ⟨B1, B2⟩ := B0
  obtain ⟨C1, C2⟩ := C0
  obtain ⟨D1, D2⟩ := D0
  go_enter Tryz.func65, Tryz.ntmps65
  go_wp2_with fail
  refine (around1 _ _ _ ha (by omega)).mono ?_
  rintro e w' ⟨rfl, rfl⟩
  go_wp2_with fail
  refine (around1 _ _ _ hb (by omega)).mono ?_
  rintro e w' ⟨rfl, rfl⟩
  go_wp2_with fail
  go_region_held3 (fun w' => w'.cell? ⟨w.heap.size, 2, none⟩ = some (.int .i64 c) ∧ w'.cell? ⟨w.heap.size, 3, none⟩ = some (.int .i64 d)) (go_keep)
    (first | (go_at_call_of 47 (Value.int IntKind.i64 c); refine (around1 _ _ _ hc (by omega)).mono ?_; rintro e w' ⟨rfl, rfl⟩) | (go_at_call_of 47 (Value.int IntKind.i64 d); refine (around1 _ _ _ hd (by omega)).mono ?_; rintro e w' ⟨rfl, rfl⟩))
  all_goals go_wp2
  all_goals
    go_returns
    refine Rt.rect (by unfold smallR; refine ⟨rfl, rfl, ?_, ?_⟩ <;> simp only [] <;> first | rfl | exact (IntWalk.i64_in _ (by omega)).symm) ?_
    repeat (first | with_reducible exact Gr.refl _ | with_reducible apply Gr.drew | with_reducible apply Gr.drewN | with_reducible apply Gr.grow | with_reducible apply Gr.alloc | (with_reducible refine Gr.setCell ?_ ?_ _; rotate_left; (simp; try omega)))

end Go.Proofs.YtablogiielclaaaGreat
