/-
  What is proved: what the merge of two rows of edges hands back.
-/
import Derived.Test.YtafceieenhogpaaE
import Derived.Test.YtafceieenhogpaaQ
import Derived.IntWalk
namespace Go.Proofs.Ytafceieenhogpaa
open Go.RowKit Go.Sort

/-- A function of two bools, that answers kp and turns nothing. -/
def Kc (g : FuncId) : Prop := ∀ (args : Array Value) (w : World), Sem.run Try.prog (callFunc g args) w = Result.ok (Next.enter g args) w
def Kp (g : FuncId) (kp : Bool → Bool → Bool) : Prop := ∀ (x y : Bool) (w : World), Calls Try.prog g #[.bool x, .bool y] w (fun e w' => e = .returned (.bool (kp x y)) ∧ w = w')
theorem Kp.at_ {g : FuncId} {kp : Bool → Bool → Bool} (h : Kp g kp) {x y z : Bool} (hz : kp x y = z) (w : World) : Calls Try.prog g #[.bool x, .bool y] w (fun e w' => e = .returned (.bool z) ∧ w = w') := by
  subst hz; exact h x y w

theorem kcOr : Kc 104 := fun _ _ => by kernel_rfl
theorem kpOr : Kp 104 (fun a b => a || b) := by
  intro x y w
  cases x <;> cases y
  all_goals
    go_enter Try.func104, Try.ntmps104
    go_wp2
    go_ret
    exact ⟨rfl, rfl⟩
attribute [local go_sem ↓] run_min2 run_max2

theorem par_nat (i : Nat) : decide (i % 2 = 1) = ((i : Int) % 2 == 1) := by rw [Bool.eq_iff_iff]; simp; omega
theorem par_succ (i : Nat) : decide ((i + 1) % 2 = 1) = (((i : Int) + 1) % 2 == 1) := by rw [Bool.eq_iff_iff]; simp; omega

def I64s (E : List Int) : Prop := ∀ x ∈ E, I64 x

set_option maxRecDepth 100000 in
set_option maxHeartbeats 8000000 in
theorem mergeEdges1 (A B : Option Addr) (c d : Nat) (a b : List Int) (g : FuncId) (kp : Bool → Bool → Bool) (w : World) (hA : Is w A a) (hB : Is w B b) (ha : Inc a) (hb : Inc b) (hae : a.length % 2 = 0) (hbe : b.length % 2 = 0)
    (hla : a.length ≤ 1000000) (hlb : b.length ≤ 1000000) (ia : I64s a) (ib : I64s b) (hc : Kc g) (hg : Kp g kp) (hk : kp false false = false) :
    Calls Try.prog 116 #[.slice A a.length c, .slice B b.length d, .func (.func g) #[] #[]] w (RN w (Mrg a b kp)) := by
  unfold Kc at hc
  go_enter Try.func116, Try.ntmps116
  go_wp2
  go_loopw [7, 8, 9] (fun v p q wr => ∃ (i j : Nat) (A' : Option Addr) (c' : Nat) (O : List Int), v = .slice A' O.length c' ∧ p = .int .i64 i ∧ q = .int .i64 j ∧ InvM a b kp i j O ∧ OwI wr w.heap.size A' c' O ∧ Bl w wr) (fun _ p q _ => (a.length - (intOf p).toNat) + (b.length - (intOf q).toNat))
  case atStart => exact ⟨0, 0, none, 0, [], rfl, rfl, rfl, InvM.start hk, OwI.nil _ _, Bl.refl _⟩
  case round =>
    obtain ⟨i, j, A', c', O, rfl, rfl, rfl, inv, own, G⟩ := hrel
    have i1 := inv.ia
    have j1 := inv.jb
    have l1 := inv.len
    by_cases hi : i < a.length
    · obtain ⟨x, hx⟩ := list_at hi
      obtain ⟨b1, o1, rfl, r1⟩ := hA.opened (by omega)
      have e1 := (r1.bl G) i x hx
      have x1 := (ia x (get_mem hx)).2
      by_cases hj : j < b.length
      · obtain ⟨y, hy⟩ := list_at hj
        obtain ⟨b2, o2, rfl, r2⟩ := hB.opened (by omega)
        have e2 := (r2.bl G) j y hy
        have y1 := (ib y (get_mem hy)).2
        have da := inc_head_le ha hx
        have db := inc_head_le hb hy
        replace da := Lib.hid da
        replace db := Lib.hid db
        have Hx := Lib.hid hx
        have Hy := Lib.hid hy
        clear hx hy
        rcases Int.lt_trichotomy x y with hl | hl | hl
        · have hm : min x y = x := by omega
          have hq : (y == x) = false := by simp; omega
          have stp := fun O' => inv.step ha hb (i' := i + 1) (j' := j) (x := x) (O' := O') (.inr ⟨rfl, Hx.out⟩) (.inl ⟨rfl, fun o ho => by have := db.out o ho; omega⟩) (.inl Hx.out) (by omega)
          replace stp := Lib.hid stp
          rcases Nat.mod_two_eq_zero_or_one O.length with ho | ho
          · have hz1 : (((O.length : Nat) : Int) % 2 == 1) = false := by rw [Bool.eq_iff_iff]; simp; omega
            replace ho := Lib.hid ho
            go_wp2_with fail
            refine (hg _ _ _).mono ?_
            rintro e w' ⟨rfl, rfl⟩
            generalize hz : kp _ _ = z
            replace hz := Lib.hid hz
            cases z
            · go_wp2
              go_roundw
              case rel => exact ⟨i + 1, j, A', c', O, rfl, by go_num, by go_num, stp.out _ (.inr ⟨rfl, by rw [par_succ i, par_nat j, ho.out]; exact hz.out⟩), own, G⟩
              case measure => simp [intOf]; omega
            · have sz := G.size
              have ow2 := own.bl ((Bl.refl wr).alloc (.cells #[.int .i64 x] 3))
              go_wp2_with (at_builtin; refine wp_app_i rfl (.tmp 80) (.tmp 82) rfl A' c' O rfl w.heap.size ow2 wr.heap.size x 1 rfl (At.new _ _ _) (by omega) (by simp; omega) ?_; intro A2 c2 w2 own2 ap2)
              go_roundw
              case rel => exact ⟨i + 1, j, A2, c2, O ++ [x], by simp, by go_num, by go_num, stp.out _ (.inl ⟨rfl, fun h3 => by rw [par_succ i, par_nat j, ho.out, hz.out] at h3; simp at h3⟩), own2, ap2.bl (G.alloc _) ow2.lies (Nat.le_refl _)⟩
              case measure => simp [intOf]; omega
          · have hz1 : (((O.length : Nat) : Int) % 2 == 1) = true := by rw [Bool.eq_iff_iff]; simp; omega
            replace ho := Lib.hid ho
            go_wp2_with fail
            refine (hg _ _ _).mono ?_
            rintro e w' ⟨rfl, rfl⟩
            generalize hz : kp _ _ = z
            replace hz := Lib.hid hz
            cases z
            · have sz := G.size
              have ow2 := own.bl ((Bl.refl wr).alloc (.cells #[.int .i64 x] 3))
              go_wp2_with (at_builtin; refine wp_app_i rfl (.tmp 80) (.tmp 82) rfl A' c' O rfl w.heap.size ow2 wr.heap.size x 1 rfl (At.new _ _ _) (by omega) (by simp; omega) ?_; intro A2 c2 w2 own2 ap2)
              go_roundw
              case rel => exact ⟨i + 1, j, A2, c2, O ++ [x], by simp, by go_num, by go_num, stp.out _ (.inl ⟨rfl, fun h3 => by rw [par_succ i, par_nat j, ho.out, hz.out] at h3; simp at h3⟩), own2, ap2.bl (G.alloc _) ow2.lies (Nat.le_refl _)⟩
              case measure => simp [intOf]; omega
            · go_wp2
              go_roundw
              case rel => exact ⟨i + 1, j, A', c', O, rfl, by go_num, by go_num, stp.out _ (.inr ⟨rfl, by rw [par_succ i, par_nat j, ho.out]; exact hz.out⟩), own, G⟩
              case measure => simp [intOf]; omega
        · subst hl
          have hm : min x x = x := by omega
          have stp := fun O' => inv.step ha hb (i' := i + 1) (j' := j + 1) (x := x) (O' := O') (.inr ⟨rfl, Hx.out⟩) (.inr ⟨rfl, Hy.out⟩) (.inl Hx.out) (by omega)
          replace stp := Lib.hid stp
          rcases Nat.mod_two_eq_zero_or_one O.length with ho | ho
          · have hz1 : (((O.length : Nat) : Int) % 2 == 1) = false := by rw [Bool.eq_iff_iff]; simp; omega
            replace ho := Lib.hid ho
            go_wp2_with fail
            refine (hg _ _ _).mono ?_
            rintro e w' ⟨rfl, rfl⟩
            generalize hz : kp _ _ = z
            replace hz := Lib.hid hz
            cases z
            · go_wp2
              go_roundw
              case rel => exact ⟨i + 1, j + 1, A', c', O, rfl, by go_num, by go_num, stp.out _ (.inr ⟨rfl, by rw [par_succ i, par_succ j, ho.out]; exact hz.out⟩), own, G⟩
              case measure => simp [intOf]; omega
            · have sz := G.size
              have ow2 := own.bl ((Bl.refl wr).alloc (.cells #[.int .i64 x] 3))
              go_wp2_with (at_builtin; refine wp_app_i rfl (.tmp 80) (.tmp 82) rfl A' c' O rfl w.heap.size ow2 wr.heap.size x 1 rfl (At.new _ _ _) (by omega) (by simp; omega) ?_; intro A2 c2 w2 own2 ap2)
              go_roundw
              case rel => exact ⟨i + 1, j + 1, A2, c2, O ++ [x], by simp, by go_num, by go_num, stp.out _ (.inl ⟨rfl, fun h3 => by rw [par_succ i, par_succ j, ho.out, hz.out] at h3; simp at h3⟩), own2, ap2.bl (G.alloc _) ow2.lies (Nat.le_refl _)⟩
              case measure => simp [intOf]; omega
          · have hz1 : (((O.length : Nat) : Int) % 2 == 1) = true := by rw [Bool.eq_iff_iff]; simp; omega
            replace ho := Lib.hid ho
            go_wp2_with fail
            refine (hg _ _ _).mono ?_
            rintro e w' ⟨rfl, rfl⟩
            generalize hz : kp _ _ = z
            replace hz := Lib.hid hz
            cases z
            · have sz := G.size
              have ow2 := own.bl ((Bl.refl wr).alloc (.cells #[.int .i64 x] 3))
              go_wp2_with (at_builtin; refine wp_app_i rfl (.tmp 80) (.tmp 82) rfl A' c' O rfl w.heap.size ow2 wr.heap.size x 1 rfl (At.new _ _ _) (by omega) (by simp; omega) ?_; intro A2 c2 w2 own2 ap2)
              go_roundw
              case rel => exact ⟨i + 1, j + 1, A2, c2, O ++ [x], by simp, by go_num, by go_num, stp.out _ (.inl ⟨rfl, fun h3 => by rw [par_succ i, par_succ j, ho.out, hz.out] at h3; simp at h3⟩), own2, ap2.bl (G.alloc _) ow2.lies (Nat.le_refl _)⟩
              case measure => simp [intOf]; omega
            · go_wp2
              go_roundw
              case rel => exact ⟨i + 1, j + 1, A', c', O, rfl, by go_num, by go_num, stp.out _ (.inr ⟨rfl, by rw [par_succ i, par_succ j, ho.out]; exact hz.out⟩), own, G⟩
              case measure => simp [intOf]; omega
        · have hm : min x y = y := by omega
          have hq : (x == y) = false := by simp; omega
          have stp := fun O' => inv.step ha hb (i' := i) (j' := j + 1) (x := y) (O' := O') (.inl ⟨rfl, fun o ho => by have := da.out o ho; omega⟩) (.inr ⟨rfl, Hy.out⟩) (.inr Hy.out) (by omega)
          replace stp := Lib.hid stp
          rcases Nat.mod_two_eq_zero_or_one O.length with ho | ho
          · have hz1 : (((O.length : Nat) : Int) % 2 == 1) = false := by rw [Bool.eq_iff_iff]; simp; omega
            replace ho := Lib.hid ho
            go_wp2_with fail
            refine (hg _ _ _).mono ?_
            rintro e w' ⟨rfl, rfl⟩
            generalize hz : kp _ _ = z
            replace hz := Lib.hid hz
            cases z
            · go_wp2
              go_roundw
              case rel => exact ⟨i, j + 1, A', c', O, rfl, by go_num, by go_num, stp.out _ (.inr ⟨rfl, by rw [par_nat i, par_succ j, ho.out]; exact hz.out⟩), own, G⟩
              case measure => simp [intOf]; omega
            · have sz := G.size
              have ow2 := own.bl ((Bl.refl wr).alloc (.cells #[.int .i64 y] 3))
              go_wp2_with (at_builtin; refine wp_app_i rfl (.tmp 80) (.tmp 82) rfl A' c' O rfl w.heap.size ow2 wr.heap.size y 1 rfl (At.new _ _ _) (by omega) (by simp; omega) ?_; intro A2 c2 w2 own2 ap2)
              go_roundw
              case rel => exact ⟨i, j + 1, A2, c2, O ++ [y], by simp, by go_num, by go_num, stp.out _ (.inl ⟨rfl, fun h3 => by rw [par_nat i, par_succ j, ho.out, hz.out] at h3; simp at h3⟩), own2, ap2.bl (G.alloc _) ow2.lies (Nat.le_refl _)⟩
              case measure => simp [intOf]; omega
          · have hz1 : (((O.length : Nat) : Int) % 2 == 1) = true := by rw [Bool.eq_iff_iff]; simp; omega
            replace ho := Lib.hid ho
            go_wp2_with fail
            refine (hg _ _ _).mono ?_
            rintro e w' ⟨rfl, rfl⟩
            generalize hz : kp _ _ = z
            replace hz := Lib.hid hz
            cases z
            · have sz := G.size
              have ow2 := own.bl ((Bl.refl wr).alloc (.cells #[.int .i64 y] 3))
              go_wp2_with (at_builtin; refine wp_app_i rfl (.tmp 80) (.tmp 82) rfl A' c' O rfl w.heap.size ow2 wr.heap.size y 1 rfl (At.new _ _ _) (by omega) (by simp; omega) ?_; intro A2 c2 w2 own2 ap2)
              go_roundw
              case rel => exact ⟨i, j + 1, A2, c2, O ++ [y], by simp, by go_num, by go_num, stp.out _ (.inl ⟨rfl, fun h3 => by rw [par_nat i, par_succ j, ho.out, hz.out] at h3; simp at h3⟩), own2, ap2.bl (G.alloc _) ow2.lies (Nat.le_refl _)⟩
              case measure => simp [intOf]; omega
            · go_wp2
              go_roundw
              case rel => exact ⟨i, j + 1, A', c', O, rfl, by go_num, by go_num, stp.out _ (.inr ⟨rfl, by rw [par_nat i, par_succ j, ho.out]; exact hz.out⟩), own, G⟩
              case measure => simp [intOf]; omega
      · have hj2 : j = b.length := by omega
        have db : b.drop j = [] := List.drop_eq_nil_of_le (by omega)
        replace db := Lib.hid db
        have Hx := Lib.hid hx
        clear hx hj2
        have stp := fun O' => inv.step ha hb (i' := i + 1) (j' := j) (x := x) (O' := O') (.inr ⟨rfl, Hx.out⟩) (.inl ⟨rfl, fun o ho => by rw [db.out] at ho; simp at ho⟩) (.inl Hx.out) (by omega)
        replace stp := Lib.hid stp
        rcases Nat.mod_two_eq_zero_or_one O.length with ho | ho
        · have hz1 : (((O.length : Nat) : Int) % 2 == 1) = false := by rw [Bool.eq_iff_iff]; simp; omega
          replace ho := Lib.hid ho
          go_wp2_with fail
          refine (hg _ _ _).mono ?_
          rintro e w' ⟨rfl, rfl⟩
          generalize hz : kp _ _ = z
          replace hz := Lib.hid hz
          cases z
          · go_wp2
            go_roundw
            case rel => exact ⟨i + 1, j, A', c', O, rfl, by go_num, by go_num, stp.out _ (.inr ⟨rfl, by rw [par_succ i, par_nat j, ho.out]; exact hz.out⟩), own, G⟩
            case measure => simp [intOf]; omega
          · have sz := G.size
            have ow2 := own.bl ((Bl.refl wr).alloc (.cells #[.int .i64 x] 3))
            go_wp2_with (at_builtin; refine wp_app_i rfl (.tmp 80) (.tmp 82) rfl A' c' O rfl w.heap.size ow2 wr.heap.size x 1 rfl (At.new _ _ _) (by omega) (by simp; omega) ?_; intro A2 c2 w2 own2 ap2)
            go_roundw
            case rel => exact ⟨i + 1, j, A2, c2, O ++ [x], by simp, by go_num, by go_num, stp.out _ (.inl ⟨rfl, fun h3 => by rw [par_succ i, par_nat j, ho.out, hz.out] at h3; simp at h3⟩), own2, ap2.bl (G.alloc _) ow2.lies (Nat.le_refl _)⟩
            case measure => simp [intOf]; omega
        · have hz1 : (((O.length : Nat) : Int) % 2 == 1) = true := by rw [Bool.eq_iff_iff]; simp; omega
          replace ho := Lib.hid ho
          go_wp2_with fail
          refine (hg _ _ _).mono ?_
          rintro e w' ⟨rfl, rfl⟩
          generalize hz : kp _ _ = z
          replace hz := Lib.hid hz
          cases z
          · have sz := G.size
            have ow2 := own.bl ((Bl.refl wr).alloc (.cells #[.int .i64 x] 3))
            go_wp2_with (at_builtin; refine wp_app_i rfl (.tmp 80) (.tmp 82) rfl A' c' O rfl w.heap.size ow2 wr.heap.size x 1 rfl (At.new _ _ _) (by omega) (by simp; omega) ?_; intro A2 c2 w2 own2 ap2)
            go_roundw
            case rel => exact ⟨i + 1, j, A2, c2, O ++ [x], by simp, by go_num, by go_num, stp.out _ (.inl ⟨rfl, fun h3 => by rw [par_succ i, par_nat j, ho.out, hz.out] at h3; simp at h3⟩), own2, ap2.bl (G.alloc _) ow2.lies (Nat.le_refl _)⟩
            case measure => simp [intOf]; omega
          · go_wp2
            go_roundw
            case rel => exact ⟨i + 1, j, A', c', O, rfl, by go_num, by go_num, stp.out _ (.inr ⟨rfl, by rw [par_succ i, par_nat j, ho.out]; exact hz.out⟩), own, G⟩
            case measure => simp [intOf]; omega
    · by_cases hj : j < b.length
      · obtain ⟨y, hy⟩ := list_at hj
        obtain ⟨b2, o2, rfl, r2⟩ := hB.opened (by omega)
        have e2 := (r2.bl G) j y hy
        have y1 := (ib y (get_mem hy)).2
        have hm : min 9223372036854775807 y = y := by omega
        have da : a.drop i = [] := List.drop_eq_nil_of_le (by omega)
        replace da := Lib.hid da
        have Hy := Lib.hid hy
        clear hy
        have stp := fun O' => inv.step ha hb (i' := i) (j' := j + 1) (x := y) (O' := O') (.inl ⟨rfl, fun o ho => by rw [da.out] at ho; simp at ho⟩) (.inr ⟨rfl, Hy.out⟩) (.inr Hy.out) (by omega)
        replace stp := Lib.hid stp
        rcases Nat.mod_two_eq_zero_or_one O.length with ho | ho
        · have hz1 : (((O.length : Nat) : Int) % 2 == 1) = false := by rw [Bool.eq_iff_iff]; simp; omega
          replace ho := Lib.hid ho
          go_wp2_with fail
          refine (hg _ _ _).mono ?_
          rintro e w' ⟨rfl, rfl⟩
          generalize hz : kp _ _ = z
          replace hz := Lib.hid hz
          cases z
          · go_wp2
            go_roundw
            case rel => exact ⟨i, j + 1, A', c', O, rfl, by go_num, by go_num, stp.out _ (.inr ⟨rfl, by rw [par_nat i, par_succ j, ho.out]; exact hz.out⟩), own, G⟩
            case measure => simp [intOf]; omega
          · have sz := G.size
            have ow2 := own.bl ((Bl.refl wr).alloc (.cells #[.int .i64 y] 3))
            go_wp2_with (at_builtin; refine wp_app_i rfl (.tmp 80) (.tmp 82) rfl A' c' O rfl w.heap.size ow2 wr.heap.size y 1 rfl (At.new _ _ _) (by omega) (by simp; omega) ?_; intro A2 c2 w2 own2 ap2)
            go_roundw
            case rel => exact ⟨i, j + 1, A2, c2, O ++ [y], by simp, by go_num, by go_num, stp.out _ (.inl ⟨rfl, fun h3 => by rw [par_nat i, par_succ j, ho.out, hz.out] at h3; simp at h3⟩), own2, ap2.bl (G.alloc _) ow2.lies (Nat.le_refl _)⟩
            case measure => simp [intOf]; omega
        · have hz1 : (((O.length : Nat) : Int) % 2 == 1) = true := by rw [Bool.eq_iff_iff]; simp; omega
          replace ho := Lib.hid ho
          go_wp2_with fail
          refine (hg _ _ _).mono ?_
          rintro e w' ⟨rfl, rfl⟩
          generalize hz : kp _ _ = z
          replace hz := Lib.hid hz
          cases z
          · have sz := G.size
            have ow2 := own.bl ((Bl.refl wr).alloc (.cells #[.int .i64 y] 3))
            go_wp2_with (at_builtin; refine wp_app_i rfl (.tmp 80) (.tmp 82) rfl A' c' O rfl w.heap.size ow2 wr.heap.size y 1 rfl (At.new _ _ _) (by omega) (by simp; omega) ?_; intro A2 c2 w2 own2 ap2)
            go_roundw
            case rel => exact ⟨i, j + 1, A2, c2, O ++ [y], by simp, by go_num, by go_num, stp.out _ (.inl ⟨rfl, fun h3 => by rw [par_nat i, par_succ j, ho.out, hz.out] at h3; simp at h3⟩), own2, ap2.bl (G.alloc _) ow2.lies (Nat.le_refl _)⟩
            case measure => simp [intOf]; omega
          · go_wp2
            go_roundw
            case rel => exact ⟨i, j + 1, A', c', O, rfl, by go_num, by go_num, stp.out _ (.inr ⟨rfl, by rw [par_nat i, par_succ j, ho.out]; exact hz.out⟩), own, G⟩
            case measure => simp [intOf]; omega
      · have : i = a.length := by omega
        subst this
        have : j = b.length := by omega
        subst this
        go_wp2
        go_ret
        exact ⟨A', c', O, rfl, own, inv.done hk hae hbe, G⟩

end Go.Proofs.Ytafceieenhogpaa
