/-
  What is proved: what Write of package event hands back of any row of events. One condition: the table of shapes reads as its initialiser lays it.
-/
import Derived.Test.YthkbenhlhldglaaDoorDe
namespace Go.Proofs.YthkbenhlhldglaaDoor
open Go.RowKit Go.Sort

/-- The bytes of events, if all may be. -/
def wrB (l : List Ev) : List Int × Int := if ∀ e ∈ l, okE e then (bytesE l, 0) else ([], 1)
theorem wrB_ok {l : List Ev} (h : ∀ e ∈ l, okE e) : wrB l = (bytesE l, 0) := by unfold wrB; rw [if_pos h]
theorem wrB_no {l : List Ev} {k : Nat} {e : Ev} (hk : l[k]? = some e) (h : ¬ okE e) : wrB l = ([], 1) := by
  unfold wrB; rw [if_neg]
  exact fun h' => h (h' e (List.mem_of_getElem? hk))
set_option maxRecDepth 100000 in
set_option maxHeartbeats 2000000 in
theorem evWrite1 (A0 : Option Addr) (c0 : Nat) (l : List Ev) (w : World) (hS : Sh w) (h0 : Es w A0 l) (hl : l.length ≤ 1000000) : Calls Tryd.prog 31 #[.slice A0 l.length c0] w (PackQ w (wrB l)) := by
  have c1 := fun e V g => encE1 e V (hS.bl g)
  have hno : ∀ k e, l[k]? = some e → ¬ okE e → ∀ V, Bl w V → PackQ w (wrB l) (.returned (.tuple #[.slice none 0 0, .int .i64 1])) V := fun k e hk h V g => by
    rw [wrB_no hk h]; exact PackQ.none g
  have hok : (∀ e ∈ l, okE e) → wrB l = (bytesE l, 0) := wrB_ok
  generalize hn : l.length = n at *
  generalize hW : PackQ w (wrB l) = Z at *
  replace hW := Lib.hid hW
  replace hok := Lib.hid hok
  replace hno := Lib.hid hno
  replace hn := Lib.hid hn
  go_enter Tryd.func31, Tryd.ntmps31
  go_wp2
  go_loopw [4, 11] (fun o i wr => ∃ (k : Nat) (A : Option Addr) (c : Nat) (L : List Int), k ≤ n ∧ o = .slice A L.length c ∧ i = .int .i64 ((k : Nat) : Int) ∧ OwB wr w.heap.size A c L ∧ Bl w wr ∧ Hid (L = bytesE (l.take k)) ∧ Hid (∀ e ∈ l.take k, okE e)) (fun _ i _ => n - (intOf i).toNat)
  case atStart => exact ⟨0, none, 0, [], Nat.zero_le _, rfl, rfl, OwB.nil _ _, Bl.refl _, Lib.hid rfl, Lib.hid (by intro e he; simp at he)⟩
  case round =>
    obtain ⟨k, A, c, L, hk, rfl, rfl, own, G, hL, hall⟩ := hrel
    have hLl : L.length ≤ 15 * 1000000 := by
      have := bytesE_len (l.take k)
      rw [← hL.out, List.length_take] at this
      have := hn.out
      omega
    by_cases hlt : k < n
    · have q1 : (k : Int) < n := by omega
      obtain ⟨b, off, e, rfl, he, hc⟩ := (h0.bl G).at (k := k) (by rw [hn.out]; exact hlt)
      have F0 := hc.h0
      have F1 := hc.h1
      have F2 := hc.h2
      have F3 := hc.h3
      have ce := c1 e
      have heb := Lib.hid (hno.out k e he)
      have htk := Lib.hid (take_snocE he)
      have hlen1 := (encE_len e).1
      unfold EncEQ encB at ce
      unfold vE at ce
      obtain ⟨ek, eid, ea, eb⟩ := e
      dsimp only at *
      clear hc
      by_cases hoe : okE ⟨ek, eid, ea, eb⟩
      · rw [if_pos hoe] at ce
        dsimp only at ce
        have hall1 : ∀ e ∈ l.take (k + 1), okE e := by
          rw [htk.out]
          intro e he
          rcases List.mem_append.1 he with he | he
          · exact hall.out e he
          · rw [List.mem_singleton] at he; rw [he]; exact hoe
        have hL1 : L ++ encM (msE ⟨ek, eid, ea, eb⟩) = bytesE (l.take (k + 1)) := by rw [htk.out, bytesE_snoc, hL.out]
        replace hall1 := Lib.hid hall1
        replace hL1 := Lib.hid hL1
        replace hoe := Lib.hid hoe
        generalize encM (msE ⟨ek, eid, ea, eb⟩) = E at *
        clear he htk
        go_wp2_with fail
        refine (ce _ (G.alloc _)).mono ?_
        rintro e w1 ⟨A1, c1', rfl, s1, g1⟩
        have G1 := (G.alloc _).trans g1
        have own1 := (own.bl ((Bl.refl wr).alloc (.cells #[.int .i64 ek, .int .i64 eid, .int .i64 ea, .int .i64 eb] 65))).bl g1
        obtain ⟨A', c', e0, e1, e2, e3, e4⟩ := s1
        injection e0 with i1 i2 i3
        subst i1 i3
        clear ce i2
        go_wp2_with (at_builtin; refine wp_app_b rfl (.tmp 22) (.tmp 23) rfl A c L rfl w.heap.size own1 A1 E c1' rfl e1 e4 (by omega) G1.size ?_; intro A2 c2 w4 own2 by2 _; have G4 := app_bl by2 G1 own1.lies (Nat.le_refl _))
        go_roundw
        case rel => exact ⟨k + 1, A2, c2, L ++ E, by omega, by simp, by go_num, own2, G4, hL1, hall1⟩
        case measure => simp [intOf]; omega
      · rw [if_neg hoe] at ce
        have ex := Lib.hid (heb.out hoe)
        clear heb htk he hoe
        go_wp2_with fail
        refine (ce _ (G.alloc _)).mono ?_
        rintro e w1 ⟨A1, c1', rfl, s1, g1⟩
        go_wp2
        exact ex.out _ ((G.alloc _).trans g1)
    · obtain rfl : k = n := by omega
      have q1 : ¬ (k : Int) < k := by omega
      have e1 : l.take k = l := List.take_of_length_le (by rw [hn.out]; omega)
      rw [e1] at hL hall
      have ex : Z (.returned (.tuple #[.slice A L.length c, .int .i64 0])) wr := by
        rw [← hW.out, hok.out hall.out, ← hL.out]
        exact ⟨A, c, rfl, own.sv, G⟩
      replace ex := Lib.hid ex
      go_wp2
      exact ex.out

end Go.Proofs.YthkbenhlhldglaaDoor
