/-
  What is proved: the walk of the statement IdsApart. No conditions.
-/
import Derived.Test.YtdbkklhnoflbpaaWi
namespace Go.Proofs.Ytdbkklhnoflbpaa
open Go.ChangeShapes Go.WideShapes Go.ChangeAt Go.RowKit Go.Joins Go.Sort Go.Deep Go.Maps

theorem apart_add {L : List Ik} (_hok : OkT 32 L) (hl : L.length ≤ 10) (x : Int) (h1 : 1 ≤ x) (h2 : x ≤ 40) : (addE 32 L x 1 = 0 ∨ addE 32 L x 1 = 6) ∧ (addL 32 L x 1).length ≤ L.length + 1 := by
  have h : addE 32 L x 1 = 0 ∨ addE 32 L x 1 = 6 := by
    rw [addE_ok (by omega)]
    cases hasL L x
    · simp; omega
    · simp
  refine ⟨h, ?_⟩
  unfold addL
  split
  · rw [insL_len]; omega
  · omega

section
attribute [local go_sem ↓] run_min2 run_max2
set_option maxRecDepth 100000 in
set_option maxHeartbeats 2000000 in
theorem apart_core (A : Option Addr) (c : Nat) (L : List Int) (w : World) (hL : shI.Rd w A L) : Calls Try.prog 7 #[.slice A L.length c] w fun e w' => e = .returned (.bool true) ∧ Bl w w' := by
  have cn := fun V => idNew1 32 V
  rw [show mostN 32 = 32 from rfl] at cn
  have cl := fun V => idlives1 V
  go_enter Try.func7, Try.ntmps7
  go_wp2_with fail
  refine (cn _).mono ?_
  rintro e w1 ⟨pa, pb, rfl, ha, hb, t1, g1⟩
  go_wp2_with fail
  refine (cn _).mono ?_
  rintro e w2 ⟨pc, pd, rfl, hc, hd, s2, g2⟩
  have t2 := t1.bl g2
  have la := t1.hd.lt
  have lb := t1.mp.lt
  have n1 : pc ≠ pb := by omega
  have n2 : pd ≠ pb := by omega
  have n3 : pa ≠ pd := by omega
  have n4 : pb ≠ pd := by omega
  have G2 := g1.trans g2
  have hb' : w.heap.size ≤ pb := hb
  have hd' : w.heap.size ≤ pd := by have := g1.size; omega
  clear cn ha hb hc hd t1 la lb g1 g2
  replace hb' := Lib.hid hb'
  replace hd' := Lib.hid hd'
  replace n1 := Lib.hid n1
  replace n2 := Lib.hid n2
  replace n3 := Lib.hid n3
  replace n4 := Lib.hid n4
  go_wp2
  go_loopw [5, 6, 7] (fun iv _ _ wr => ∃ (j : Nat) (M : List Ik), j ≤ L.length ∧ j ≤ 10 ∧ iv = .int .i64 (j : Int) ∧ Tb wr pa pb 32 M ∧ Tb wr pc pd 32 [] ∧ M.length ≤ j ∧ Bl w wr) (fun iv _ _ _ => L.length - (intOf iv).toNat)
  case atStart => exact ⟨0, [], by omega, by omega, rfl, t2, s2, by simp, G2⟩
  case round =>
    clear t2 s2 G2
    obtain ⟨j, M, hj, hj2, rfl, t, s, hM, g⟩ := hrel
    by_cases hlt : j < L.length ∧ j < 10
    · obtain ⟨hlt, hlt2⟩ := hlt
      obtain ⟨n, hn⟩ := list_at hlt
      obtain ⟨b, off, rfl, hrow⟩ := hL.opened (by omega)
      have e1 := fun dq os => int_at (hrow.bl ((g.drewN dq).grow os)) hn
      obtain ⟨x, hx0, hx1, hx2⟩ := modabs n 40 (by omega) (by omega)
      obtain ⟨ae, al⟩ := apart_add t.ok (by omega) x hx1 hx2
      have ix : I64 x := by unfold I64; omega
      have i1 : I64 1 := by unfold I64; omega
      have ca := fun (V : World) (t : Tb V pa pb 32 M) => idAdd1 t x 1 ix i1
      have cb1 := fun (V : World) (t : Tb V pc pd 32 []) => idKind1 t x ix
      have cb2 := fun (V : World) (t : Tb V pc pd 32 []) => idFind1 t x 1 ix
      have cb3 := fun (V : World) (t : Tb V pc pd 32 []) => idDrop1 t x ix
      rw [show kindL [] x = 0 from rfl] at cb1
      rw [show findE [] x 1 = 5 from rfl] at cb2
      rw [show hasL [] x = false from rfl, show dropL [] x = [] from rfl] at cb3
      generalize addE 32 M x 1 = E at *
      generalize addL 32 M x 1 = M2 at *
      replace ca := Lib.hid ca
      replace cb1 := Lib.hid cb1
      replace cb2 := Lib.hid cb2
      replace cb3 := Lib.hid cb3
      replace hn := Lib.hid hn
      replace al := Lib.hid al
      clear ix i1 hx1 hx2
      go_wp2
      refine wp_region_quiet_grown (by kernel_rfl) (by kernel_rfl) ?_
      repeat (first | go_big_quiet_step (fail) | quiet_step (fail))
      refine wpQuiet_nil ?_
      intro w3 g3
      replace g3 : Gr _ w3 := g3
      rw [hx0]
      clear hx0
      have t3 := t.bl g3.bl
      have s3 := s.bl g3.bl
      have G3 := g.gr g3
      have nb := Lib.hid (fun k (hk : some pb = some k) => (show w.heap.size ≤ k by cases hk; exact hb'.out))
      have nd := Lib.hid (fun k (hk : some pd = some k) => (show w.heap.size ≤ k by cases hk; exact hd'.out))
      replace ca := Lib.hid (ca.out w3 t3)
      clear t s g g3
      rcases ae with rfl | rfl
      all_goals
        go_wp2_with fail
        refine ca.out.mono ?_
        rintro e w4 ⟨rfl, t4, k4⟩
        have s4 := s3.by k4 (by simpa using n1.out) (by simpa using n2.out)
        have G4 := G3.grown k4 nb.out
        go_wp2_with fail
        refine (cb1.out _ s4).mono ?_
        rintro e w5 ⟨rfl, k5⟩
        have t5 := t4.bl k5.bl
        have s5 := s4.bl k5.bl
        have G5 := G4.gr k5
        go_wp2_with fail
        refine (cb2.out _ s5).mono ?_
        rintro e w6 ⟨rfl, k6⟩
        have t6 := t5.bl k6.bl
        have s6 := s5.bl k6.bl
        have G6 := G5.gr k6
        go_wp2_with fail
        refine (cb3.out _ s6).mono ?_
        rintro e w7 ⟨rfl, s7, k7⟩
        have t7 := t6.by k7 (by simpa using n3.out) (by simpa using n4.out)
        have G7 := G6.grown k7 nd.out
        go_wp2
        go_roundw
        case rel => exact ⟨j + 1, M2, by omega, by omega, by go_num, t7, s7, by have := al.out; omega, G7⟩
        case measure => simp [intOf]; omega
    · have cle := idLen1 s
      rw [show (([] : List Ik).length : Int) = 0 from rfl] at cle
      have hor : j = L.length ∨ (j < L.length ∧ 10 ≤ j) := by omega
      clear hlt
      rcases hor with h | ⟨h, h'⟩
      · have q1 : ¬ (j : Int) < (L.length : Int) := by omega
        have q2 : decide ((j : Int) < (L.length : Int)) = false := by simp; omega
        replace h := Lib.hid h
        replace hj := Lib.hid hj
        go_wp2_with fail
        refine cle.mono ?_
        rintro e w2 ⟨rfl, k2⟩
        go_wp2_with fail
        refine (cl _).mono ?_
        rintro e w3 ⟨rfl, k3⟩
        go_wp2
        go_ret
        exact ⟨rfl, (g.gr k2).trans k3⟩
      · have q2 : decide ((j : Int) < 10) = false := by simp; omega
        have q3 : decide ((j : Int) < (L.length : Int)) = true := by simp; omega
        replace h' := Lib.hid h'
        replace hj := Lib.hid hj
        go_wp2_with fail
        refine cle.mono ?_
        rintro e w2 ⟨rfl, k2⟩
        go_wp2_with fail
        refine (cl _).mono ?_
        rintro e w3 ⟨rfl, k3⟩
        go_wp2
        go_ret
        exact ⟨rfl, (g.gr k2).trans k3⟩
end

end Go.Proofs.Ytdbkklhnoflbpaa
