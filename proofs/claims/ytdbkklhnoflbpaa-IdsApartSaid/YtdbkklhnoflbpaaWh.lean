/-
  What is proved: the walk of the statement IdsBack. No conditions.
-/
import Derived.Test.YtdbkklhnoflbpaaWf
import Derived.Test.YtdbkklhnoflbpaaWg
namespace Go.Proofs.Ytdbkklhnoflbpaa
open Go.ChangeShapes Go.WideShapes Go.ChangeAt Go.RowKit Go.Joins Go.Sort Go.Deep Go.Maps

theorem modabs (n K : Int) (h1 : 1 ≤ K) (h2 : K ≤ 4294967295) : ∃ x, wrap64 (1 + max (n.tmod K) (wrap64 (-n.tmod K))) = x ∧ 1 ≤ x ∧ x ≤ K := by
  have b1 := Int.tmod_lt_of_pos n (show 0 < K by omega)
  have b2 : -K < n.tmod K := by
    have h3 := Int.tmod_lt_of_pos (-n) (show 0 < K by omega)
    rw [Int.neg_tmod] at h3; omega
  generalize n.tmod K = r at *
  refine ⟨1 + max r (-r), ?_, by omega, by omega⟩
  rw [← IntWalk.i64_left, ← IntWalk.i64_left, IntWalk.i64_in (-r) (by omega), IntWalk.i64_in _ (by omega)]
theorem add_new (m x k : Int) (hm : 1 ≤ m) (hx : 1 ≤ x ∧ x ≤ 4294967295) (hk : 1 ≤ k ∧ k ≤ 8) : addE m [] x k = 0 ∧ addL m [] x k = [(x, k)] := by
  have h : addE m [] x k = 0 := by
    rw [addE_ok (by omega)]
    simp [hasL]; omega
  exact ⟨h, by unfold addL; rw [if_pos h]; rfl⟩
theorem add_old (m x p k : Int) (hx : 1 ≤ x ∧ x ≤ 4294967295) (hk : 1 ≤ k ∧ k ≤ 8) : addE m [(x, p)] x k = 6 ∧ addL m [(x, p)] x k = [(x, p)] := by
  have h : addE m [(x, p)] x k = 6 := by
    rw [addE_ok (by omega)]
    simp [hasL]
  exact ⟨h, by unfold addL; rw [h]; rfl⟩
theorem kind_one (x p : Int) : kindL [(x, p)] x = p := by simp [kindL]
theorem drop_one (x p : Int) : dropL [(x, p)] x = [] ∧ hasL [(x, p)] x = true := by simp [dropL, hasL]

section
attribute [local go_sem ↓] run_min2 run_max2
set_option maxRecDepth 100000 in
set_option maxHeartbeats 2000000 in
theorem back_core (n a b : Int) (w : World) : Calls Try.prog 6 #[.int .i64 n, .int .i64 a, .int .i64 b] w fun e w' => e = .returned (.bool true) ∧ Bl w w' := by
  obtain ⟨x, hx0, hx1, hx2⟩ := modabs n 4294967295 (by omega) (by omega)
  obtain ⟨p, hp0, hp1, hp2⟩ := modabs a 8 (by omega) (by omega)
  obtain ⟨q, hq0, hq1, hq2⟩ := modabs b 8 (by omega) (by omega)
  have ix : I64 x := by unfold I64; omega
  have ip : I64 p := by unfold I64; omega
  have iq : I64 q := by unfold I64; omega
  obtain ⟨ae, al⟩ := add_new 1 x p (by omega) ⟨hx1, hx2⟩ ⟨hp1, hp2⟩
  obtain ⟨ae2, al2⟩ := add_old 1 x p q ⟨hx1, hx2⟩ ⟨hq1, hq2⟩
  obtain ⟨ae3, al3⟩ := add_new 1 x q (by omega) ⟨hx1, hx2⟩ ⟨hq1, hq2⟩
  obtain ⟨d1, d2⟩ := drop_one x p
  have c1 := fun (V : World) (a b : Nat) (t : Tb V a b 1 []) => idAdd1 t x p ix ip
  have c2 := fun (V : World) (a b : Nat) (t : Tb V a b 1 [(x, p)]) => idAdd1 t x q ix iq
  have c3 := fun (V : World) (a b : Nat) (t : Tb V a b 1 [(x, p)]) => idKind1 t x ix
  have c4 := fun (V : World) (a b : Nat) (t : Tb V a b 1 [(x, p)]) => idDrop1 t x ix
  have c5 := fun (V : World) (a b : Nat) (t : Tb V a b 1 []) => idFind1 t x p ix
  have c6 := fun (V : World) (a b : Nat) (t : Tb V a b 1 []) => idAdd1 t x q ix iq
  have c7 := fun (V : World) (a b : Nat) (t : Tb V a b 1 [(x, q)]) => idKind1 t x ix
  have c8 := fun (V : World) (a b : Nat) (t : Tb V a b 1 [(x, q)]) => idLen1 t
  have c9 := fun (V : World) (a b : Nat) (t : Tb V a b 1 [(x, q)]) => idFree1 t
  rw [ae, al] at c1
  rw [ae2, al2] at c2
  rw [kind_one] at c3
  rw [d1, d2] at c4
  rw [show findE [] x p = 5 from rfl] at c5
  rw [ae3, al3] at c6
  rw [kind_one] at c7
  simp only [List.length_cons, List.length_nil, Nat.zero_add] at c8 c9
  replace c1 := Lib.hid c1
  replace c2 := Lib.hid c2
  replace c3 := Lib.hid c3
  replace c4 := Lib.hid c4
  replace c5 := Lib.hid c5
  replace c6 := Lib.hid c6
  replace c7 := Lib.hid c7
  replace c8 := Lib.hid c8
  replace c9 := Lib.hid c9
  clear ae al ae2 al2 ae3 al3 d1 d2 ix ip iq hx1 hx2 hp1 hp2 hq1 hq2
  have cn := fun V => idNew1 1 V
  rw [show mostN 1 = 1 from rfl] at cn
  have cl := fun V => idlives1 V
  go_enter Try.func6, Try.ntmps6
  go_wp2_with fail
  refine (cn _).mono ?_
  rintro e w1 ⟨pa, pb, rfl, ha, hb, t1, g1⟩
  clear cn
  replace ha := Lib.hid ha
  replace hb := Lib.hid hb
  go_wp2_with fail
  refine (c1.out _ _ _ t1).mono ?_
  rintro e w2 ⟨rfl, t2, k2⟩
  have g2 := g1.grown k2 (fun j hj => by cases hj; exact hb.out)
  clear k2 t1 g1 c1
  go_wp2_with fail
  refine (c2.out _ _ _ t2).mono ?_
  rintro e w3 ⟨rfl, t3, k3⟩
  have g3 := g2.grown k3 (fun j hj => by cases hj; exact hb.out)
  clear k3 t2 g2 c2
  go_wp2_with fail
  refine (c3.out _ _ _ t3).mono ?_
  rintro e w4 ⟨rfl, k4⟩
  have t4 := t3.bl k4.bl
  have g4 := g3.gr k4
  clear k4 t3 g3 c3
  go_wp2_with fail
  refine (c4.out _ _ _ t4).mono ?_
  rintro e w5 ⟨rfl, t5, k5⟩
  have g5 := g4.grown k5 (fun j hj => by cases hj; exact hb.out)
  clear k5 t4 g4 c4
  go_wp2_with fail
  refine (c5.out _ _ _ t5).mono ?_
  rintro e w6 ⟨rfl, k6⟩
  have t6 := t5.bl k6.bl
  have g6 := g5.gr k6
  clear k6 t5 g5 c5
  go_wp2_with fail
  refine (c6.out _ _ _ t6).mono ?_
  rintro e w7 ⟨rfl, t7, k7⟩
  have g7 := g6.grown k7 (fun j hj => by cases hj; exact hb.out)
  clear k7 t6 g6 c6
  go_wp2_with fail
  refine (c7.out _ _ _ t7).mono ?_
  rintro e w8 ⟨rfl, k8⟩
  have t8 := t7.bl k8.bl
  have g8 := g7.gr k8
  clear k8 t7 g7 c7
  go_wp2_with fail
  refine (c8.out _ _ _ t8).mono ?_
  rintro e w9 ⟨rfl, k9⟩
  have t9 := t8.bl k9.bl
  have g9 := g8.gr k9
  clear k9 t8 g8 c8
  go_wp2_with fail
  refine (c9.out _ _ _ t9).mono ?_
  rintro e w10 ⟨rfl, k10⟩
  have t10 := t9.bl k10.bl
  have g10 := g9.gr k10
  clear k10 t9 g9 c9
  go_wp2_with fail
  refine (cl _).mono ?_
  rintro e w11 ⟨rfl, k11⟩
  go_wp2
  go_ret
  exact ⟨rfl, g10.trans k11⟩
end

end Go.Proofs.Ytdbkklhnoflbpaa
