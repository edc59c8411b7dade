/-
  What is proved: what small calls of the document's answers for regions hand back: whether a list has a point; whether two lists are the same; rectangles near 0.
-/
import Derived.Test.YtafceieenhogpaaG
import Derived.Test.YtafceieenhogpaaA4
import Derived.Test.YtafceieenhogpaaM6
import Derived.StillTailTactics
import Derived.Deep.QuietTactic
import Derived.BigQuiet
namespace Go.Proofs.Ytafceieenhogpaa
open Go.RowKit Go.Sort

theorem hasL_no {L : List Rc} {x y : Int} (h : ∀ (j : Nat) (r : Rc), L[j]? = some r → hasB r.a r.b r.c r.d x y = false) : hasL L x y = false := by
  rw [Bool.eq_false_iff]; intro hh
  unfold hasL at hh
  rw [List.any_eq_true] at hh
  obtain ⟨r, h1, h2⟩ := hh
  obtain ⟨j, hj⟩ := List.getElem?_of_mem h1
  have := h j r hj
  rw [h2] at this; cases this
theorem hasL_yes {L : List Rc} {x y : Int} {j : Nat} {r : Rc} (h : L[j]? = some r) (h2 : hasB r.a r.b r.c r.d x y = true) : hasL L x y = true := by
  unfold hasL; rw [List.any_eq_true]; exact ⟨r, List.mem_of_getElem? h, h2⟩

set_option maxHeartbeats 4000000 in
theorem refHas1 (A : Option Addr) (c : Nat) (L : List Rc) (x y : Int) (w : World) (h : Rs w A L) (hl : L.length ≤ 9000000000000000000) :
    Calls Try.prog 79 #[.slice A L.length c, .int .i64 x, .int .i64 y] w (Rt w (.bool (hasL L x y))) := by
  go_enter Try.func79, Try.ntmps79
  go_wp2
  go_loopw [7] (fun i wr => ∃ k : Nat, k ≤ L.length ∧ i = .int .i64 k ∧ Gr w wr ∧ Hid (∀ (j : Nat) (r : Rc), j < k → L[j]? = some r → hasB r.a r.b r.c r.d x y = false)) (fun i _ => L.length - (intOf i).toNat)
  case atStart => exact ⟨0, Nat.zero_le _, rfl, Gr.refl w, Lib.hid (by intro j r hj; omega)⟩
  case round =>
    obtain ⟨k, hk, rfl, G, hno⟩ := hrel
    by_cases hlt : k < L.length
    · obtain ⟨⟨ra, rb, rc, rd⟩, hr⟩ := list_at hlt
      obtain ⟨b, off, rfl, hrow⟩ := h.opened (by omega)
      obtain ⟨e1, e2, e3, e4⟩ := (hrow.bl G.bl) k _ hr
      dsimp only at e1 e2 e3 e4
      have c1 := refhas1 ra rb rc rd x y
      by_cases hb : hasB ra rb rc rd x y = true
      · have hy := Lib.hid (hasL_yes (x := x) (y := y) hr hb)
        rw [hb] at c1
        clear hb hr
        go_wp2_with fail
        refine (c1 _).mono ?_
        rintro e W1 ⟨rfl, g1⟩
        go_wp2
        go_ret
        exact ⟨by rw [hy.out]; rfl, G.trans g1⟩
      · simp only [Bool.not_eq_true] at hb
        rw [hb] at c1
        have hn : Hid (∀ (j : Nat) (r : Rc), j < k + 1 → L[j]? = some r → hasB r.a r.b r.c r.d x y = false) := Lib.hid (by
          intro j r hj hr'
          by_cases hjk : j = k
          · subst hjk; rw [hr] at hr'; injection hr' with hr'; subst hr'; exact hb
          · exact hno.out j r (by omega) hr')
        clear hb hr
        go_wp2_with fail
        refine (c1 _).mono ?_
        rintro e W1 ⟨rfl, g1⟩
        go_wp2
        go_roundw
        case rel => exact ⟨k + 1, by omega, by go_num, G.trans g1, hn⟩
        case measure => simp [intOf]; omega
    · obtain rfl : k = L.length := by omega
      have hn := Lib.hid (hasL_no (L := L) (x := x) (y := y) fun j r hr => hno.out j r (get_lt hr) hr)
      go_wp2
      go_ret
      exact ⟨by rw [hn.out]; rfl, G⟩

/-- The kinds of keeping, by number. -/
def kpN (how : Int) : Bool → Bool → Bool := fun a b => if how = 0 then a || b else if how = 1 then a && b else if how = 2 then a && !b else a != b
set_option maxHeartbeats 1000000 in
theorem refkeep1 (a b : Bool) (how : Int) (w : World) (h : how = 0 ∨ how = 1 ∨ how = 2 ∨ how = 3) :
    Calls Try.prog 102 #[.bool a, .bool b, .int .i64 how] w fun e w' => e = .returned (.bool (kpN how a b)) ∧ w = w' := by
  rcases h with rfl | rfl | rfl | rfl <;> cases a <;> cases b
  all_goals
    go_enter Try.func102, Try.ntmps102
    go_wp2
    go_ret
    exact ⟨rfl, rfl⟩

instance : DecidableEq Rc := fun a b => by
  cases a; cases b; simp only [Rc.mk.injEq]; exact inferInstance

set_option maxHeartbeats 4000000 in
theorem refSame1 (A B : Option Addr) (c d : Nat) (L M : List Rc) (w : World) (hA : Rs w A L) (hB : Rs w B M) (hl : L.length ≤ 9000000000000000000) (hm : M.length ≤ 9000000000000000000) :
    Calls Try.prog 53 #[.slice A L.length c, .slice B M.length d] w (Rt w (.bool (decide (L = M)))) := by
  by_cases hlen : L.length = M.length
  · have hlq : ((L.length : Int) == (M.length : Int)) = true := by simp [hlen]
    obtain ⟨n, hn⟩ : ∃ n, n = L.length := ⟨_, rfl⟩
    rw [← hlen, ← hn]
    have hn2 : n = M.length := by omega
    have hnl : n ≤ 9000000000000000000 := by omega
    clear hlq
    go_enter Try.func53, Try.ntmps53
    replace hn := Lib.hid hn
    replace hn2 := Lib.hid hn2
    replace hlen := Lib.hid hlen
    go_wp2
    go_loopw [5] (fun i wr => ∃ k : Nat, k ≤ n ∧ i = .int .i64 k ∧ Gr w wr ∧ Hid (∀ j : Nat, j < k → L[j]? = M[j]?)) (fun i _ => n - (intOf i).toNat)
    case atStart => exact ⟨0, Nat.zero_le _, rfl, Gr.refl w, Lib.hid (by intro j hj; omega)⟩
    case round =>
      obtain ⟨k, hk, rfl, G, hno⟩ := hrel
      by_cases hlt : k < n
      · have hkL : k < L.length := by have := hn.out; omega
        have hkM : k < M.length := by have := hn2.out; omega
        obtain ⟨⟨ra, rb, rc, rd⟩, hr⟩ := list_at hkL
        obtain ⟨⟨sa, sb, sc, sd⟩, hs⟩ := list_at hkM
        obtain ⟨b1, o1, rfl, row1⟩ := hA.opened (by omega)
        obtain ⟨b2, o2, rfl, row2⟩ := hB.opened (by omega)
        have E := fun n os => (row1.bl ((G.bl.drewN n).grow os)) k _ hr
        have F := fun n os => (row2.bl ((G.bl.drewN n).grow os)) k _ hs
        have E1 := fun n os => (E n os).1
        have E2 := fun n os => (E n os).2.1
        have E3 := fun n os => (E n os).2.2.1
        have E4 := fun n os => (E n os).2.2.2
        have F1 := fun n os => (F n os).1
        have F2 := fun n os => (F n os).2.1
        have F3 := fun n os => (F n os).2.2.1
        have F4 := fun n os => (F n os).2.2.2
        clear E F
        dsimp only at E1 E2 E3 E4 F1 F2 F3 F4
        by_cases heq : ra = sa ∧ rb = sb ∧ rc = sc ∧ rd = sd
        · obtain ⟨rfl, rfl, rfl, rfl⟩ := heq
          have hn' : Hid (∀ j : Nat, j < k + 1 → L[j]? = M[j]?) := Lib.hid (by
            intro j hj
            by_cases hjk : j = k
            · subst hjk; rw [hr, hs]
            · exact hno.out j (by omega))
          clear hr hs row1 row2
          go_wp2
          refine wp_region_quiet_grown (by kernel_rfl) (by kernel_rfl) ?_
          repeat (first | go_big_quiet_step (fail) | quiet_step (fail))
          refine wpQuiet_nil ?_
          intro W2 g8
          replace g8 : Gr _ W2 := g8
          clear E1 E2 E3 E4 F1 F2 F3 F4
          go_wp2
          go_roundw
          case rel => exact ⟨k + 1, by omega, by go_num, G.trans g8, hn'⟩
          case measure => simp [intOf]; omega
        · have hne : ¬ L = M := fun h => heq (by rw [h, hs] at hr; injection hr with hr; injection hr with h1 h2 h3 h4; exact ⟨h1.symm, h2.symm, h3.symm, h4.symm⟩)
          have hne := Lib.hid hne
          have ways : ra ≠ sa ∨ (ra = sa ∧ rb ≠ sb) ∨ (ra = sa ∧ rb = sb ∧ rc ≠ sc) ∨ (ra = sa ∧ rb = sb ∧ rc = sc ∧ rd ≠ sd) := by omega
          clear hr hs row1 row2 heq
          rcases ways with hd | ⟨rfl, hd⟩ | ⟨rfl, rfl, hd⟩ | ⟨rfl, rfl, rfl, hd⟩
          all_goals
            have hq := beq_false_of_ne hd
            go_wp2
            refine wp_region_quiet_grown (by kernel_rfl) (by kernel_rfl) ?_
            repeat (first | go_big_quiet_step (fail) | quiet_step (fail))
            refine wpQuiet_nil ?_
            intro W2 g8
            replace g8 : Gr _ W2 := g8
            clear E1 E2 E3 E4 F1 F2 F3 F4
            go_wp2
            go_ret
            exact ⟨by rw [decide_eq_false hne.out]; rfl, G.trans g8⟩
      · have hkn : k = n := by omega
        subst hkn
        have hend : L = M := List.ext_getElem? fun j => by
          rcases Nat.lt_or_ge j k with h1 | h1
          · exact hno.out j h1
          · rw [List.getElem?_eq_none (by have := hn.out; omega), List.getElem?_eq_none (by have := hn2.out; omega)]
        have hend := Lib.hid hend
        go_wp2
        go_ret
        exact ⟨by rw [decide_eq_true hend.out]; rfl, G⟩
  · have hne : ¬ L = M := fun h => hlen (by rw [h])
    have hd : decide (L = M) = false := by simpa using hne
    rw [hd]
    clear hd hne
    have h1 : ((L.length : Int) == (M.length : Int)) = false := by simp; omega
    have h2 : ((L.length : Int) != (M.length : Int)) = true := by simp; omega
    go_enter Try.func53, Try.ntmps53
    go_wp2
    go_ret
    exact ⟨rfl, Gr.refl w⟩

end Go.Proofs.Ytafceieenhogpaa
