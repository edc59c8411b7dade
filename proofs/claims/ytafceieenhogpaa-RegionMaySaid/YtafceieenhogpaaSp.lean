/-
  What is proved: what the comparisons of rows of rectangles hand back.
-/
import Derived.Test.YtafceieenhogpaaRd
namespace Go.Proofs.Ytafceieenhogpaa
open Go.RowKit Go.Sort

def spanO : Option Rc → Option (Int × Int) := Option.map fun r => (r.a, r.c)
theorem spans_no {L M : List Rc} {k : Nat} {ra rb rc rd sa sb sc sd : Int} (hr : L[k]? = some ⟨ra, rb, rc, rd⟩) (hs : M[k]? = some ⟨sa, sb, sc, sd⟩) (h : ¬ (ra = sa ∧ rc = sc)) : spansB L M = false := by
  unfold spansB; rw [decide_eq_false_iff_not]; intro hh
  have := congrArg (fun l => l[k]?) hh
  simp only [List.getElem?_map, hr, hs, Option.map_some] at this
  injection this with this
  injection this with h1 h2
  exact h ⟨h1, h2⟩
theorem spans_yes {L M : List Rc} (h : ∀ j : Nat, spanO L[j]? = spanO M[j]?) : spansB L M = true := by
  unfold spansB; rw [decide_eq_true_eq]
  apply List.ext_getElem?
  intro j
  rw [List.getElem?_map, List.getElem?_map]
  exact h j
theorem bne_true {a b : Int} (h : a ≠ b) : (a != b) = true := by simpa using h

set_option maxHeartbeats 4000000 in
theorem refspans1 (A B : Option Addr) (c d : Nat) (L M : List Rc) (w : World) (hA : Rs w A L) (hB : Rs w B M) (hl : L.length ≤ 9000000000000000000) (hm : M.length ≤ 9000000000000000000) :
    Calls Try.prog 51 #[.slice A L.length c, .slice B M.length d] w (Rt w (.bool (spansB L M))) := by
  by_cases hlen : L.length = M.length
  · have hlq : ((L.length : Int) == (M.length : Int)) = true := by simp [hlen]
    obtain ⟨n, hn⟩ : ∃ n, n = L.length := ⟨_, rfl⟩
    rw [← hlen, ← hn]
    have hn2 : n = M.length := by omega
    have hnl : n ≤ 9000000000000000000 := by omega
    clear hlq
    go_enter Try.func51, Try.ntmps51
    replace hn := Lib.hid hn
    replace hn2 := Lib.hid hn2
    replace hlen := Lib.hid hlen
    go_wp2
    go_loopw [5] (fun i wr => ∃ k : Nat, k ≤ n ∧ i = .int .i64 k ∧ Gr w wr ∧ Hid (∀ j : Nat, j < k → spanO L[j]? = spanO M[j]?)) (fun i _ => n - (intOf i).toNat)
    case atStart => exact ⟨0, Nat.zero_le _, rfl, Gr.refl w, Lib.hid (by intro j hj; omega)⟩
    case round =>
      obtain ⟨k, hk, rfl, G, hno⟩ := hrel
      by_cases hlt : k < n
      · have hkL : k < L.length := by have := hn.out; omega
        have hkM : k < M.length := by have := hn2.out; omega
        obtain ⟨⟨ra, rb, rc, rd⟩, hr⟩ := list_at hkL
        obtain ⟨⟨sa, sb, sc, sd⟩, hs⟩ := list_at hkM
        obtain ⟨b1, o1, rfl, row1⟩ := hA.opened (by omega)
        obtain ⟨b2, o2, rfl, row2⟩ := hB.opened (by omega)
        have E := fun n os => (row1.bl ((G.bl.drewN n).grow os)) k _ hr
        have F := fun n os => (row2.bl ((G.bl.drewN n).grow os)) k _ hs
        have E1 := fun n os => (E n os).1
        have E2 := fun n os => (E n os).2.1
        have E3 := fun n os => (E n os).2.2.1
        have E4 := fun n os => (E n os).2.2.2
        have F1 := fun n os => (F n os).1
        have F2 := fun n os => (F n os).2.1
        have F3 := fun n os => (F n os).2.2.1
        have F4 := fun n os => (F n os).2.2.2
        clear E F
        dsimp only at E1 E2 E3 E4 F1 F2 F3 F4
        by_cases heq : ra = sa ∧ rc = sc
        · obtain ⟨rfl, rfl⟩ := heq
          have hn' : Hid (∀ j : Nat, j < k + 1 → spanO L[j]? = spanO M[j]?) := Lib.hid (by
            intro j hj
            by_cases hjk : j = k
            · subst hjk; rw [hr, hs]; rfl
            · exact hno.out j (by omega))
          clear hr hs row1 row2
          go_wp2
          refine wp_region_quiet_grown (by kernel_rfl) (by kernel_rfl) ?_
          repeat (first | go_big_quiet_step (fail) | quiet_step (fail))
          refine wpQuiet_nil ?_
          intro W2 g8
          replace g8 : Gr _ W2 := g8
          clear E1 E2 E3 E4 F1 F2 F3 F4
          go_wp2
          go_roundw
          case rel => exact ⟨k + 1, by omega, by go_num, G.trans g8, hn'⟩
          case measure => simp [intOf]; omega
        · have hne : spansB L M = false := spans_no hr hs heq
          have hne := Lib.hid hne
          have ways : ra ≠ sa ∨ (ra = sa ∧ rc ≠ sc) := by omega
          clear hr hs row1 row2 heq
          rcases ways with hd | ⟨rfl, hd⟩
          all_goals
            have hq := beq_false_of_ne hd
            have hq2 := bne_true hd
            go_wp2
            refine wp_region_quiet_grown (by kernel_rfl) (by kernel_rfl) ?_
            repeat (first | go_big_quiet_step (fail) | quiet_step (fail))
            refine wpQuiet_nil ?_
            intro W2 g8
            replace g8 : Gr _ W2 := g8
            clear E1 E2 E3 E4 F1 F2 F3 F4
            go_wp2
            go_ret
            exact ⟨by rw [hne.out]; rfl, G.trans g8⟩
      · have hkn : k = n := by omega
        subst hkn
        have hend : spansB L M = true := spans_yes fun j => by
          rcases Nat.lt_or_ge j k with h1 | h1
          · exact hno.out j h1
          · rw [List.getElem?_eq_none (by have := hn.out; omega), List.getElem?_eq_none (by have := hn2.out; omega)]
        have hend := Lib.hid hend
        go_wp2
        go_ret
        exact ⟨by rw [hend.out]; rfl, G⟩
  · have hd : spansB L M = false := by
      unfold spansB; rw [decide_eq_false_iff_not]; intro hh
      have := congrArg List.length hh; simp at this; exact hlen this
    rw [hd]
    clear hd
    have h1 : ((L.length : Int) == (M.length : Int)) = false := by simp; omega
    have h2 : ((L.length : Int) != (M.length : Int)) = true := by simp; omega
    go_enter Try.func51, Try.ntmps51
    go_wp2
    go_ret
    exact ⟨rfl, Gr.refl w⟩

end Go.Proofs.Ytafceieenhogpaa
