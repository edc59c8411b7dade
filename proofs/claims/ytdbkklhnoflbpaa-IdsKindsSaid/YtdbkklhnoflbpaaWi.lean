/-
  What is proved: the walk of the statement IdsQuota. No conditions.
-/
import Derived.Test.YtdbkklhnoflbpaaWh
namespace Go.Proofs.Ytdbkklhnoflbpaa
open Go.ChangeShapes Go.WideShapes Go.ChangeAt Go.RowKit Go.Joins Go.Sort Go.Deep Go.Maps

def seqL (c : Nat) : List Ik := (List.range c).map fun j => (((j + 1 : Nat) : Int), 1 + ((j + 1 : Nat) : Int) % 8)
theorem seqL_len (c : Nat) : (seqL c).length = c := by simp [seqL]
theorem seqL_succ (c : Nat) : seqL (c + 1) = seqL c ++ [(((c + 1 : Nat) : Int), 1 + ((c + 1 : Nat) : Int) % 8)] := by simp [seqL, List.range_succ]
theorem mem_seqL {c : Nat} {p : Ik} (h : p ∈ seqL c) : ∃ j : Nat, 1 ≤ j ∧ j ≤ c ∧ p.1 = (j : Int) := by
  unfold seqL at h
  rw [List.mem_map] at h
  obtain ⟨j, hj, rfl⟩ := h
  rw [List.mem_range] at hj
  exact ⟨j + 1, by omega, by omega, rfl⟩
theorem seqL_no {c : Nat} {i : Int} (h : (c : Int) < i ∨ i < 1) : hasL (seqL c) i = false := by
  unfold hasL
  rw [List.any_eq_false]
  intro p hp
  obtain ⟨j, h1, h2, h3⟩ := mem_seqL hp
  rw [h3]; simp; omega
theorem insL_end {x : Ik} : ∀ {L : List Ik}, (∀ p ∈ L, ¬ x.1 < p.1) → insL x L = L ++ [x]
  | [], _ => rfl
  | y :: r, h => by
    unfold insL
    rw [if_neg (h y (by simp)), insL_end (fun p hp => h p (by simp [hp]))]
    rfl
theorem drop_len {i : Int} : ∀ {L : List Ik}, Asc L → hasL L i = true → (dropL L i).length + 1 = L.length
  | [], _, h => by simp [hasL] at h
  | y :: r, ha, h => by
    obtain ⟨h1, h2⟩ := List.pairwise_cons.1 ha
    unfold dropL
    rw [List.filter_cons]
    by_cases hy : y.1 = i
    · have : hasL r i = false := by
        unfold hasL
        rw [List.any_eq_false]
        intro p hp
        have := h1 p hp
        simp; omega
      have h3 := dropL_no this
      unfold dropL at h3
      simp [hy, h3]
    · have hr : hasL r i = true := by
        unfold hasL at h ⊢
        rw [List.any_cons, Bool.or_eq_true] at h
        rcases h with h | h
        · simp at h; exact absurd h hy
        · exact h
      have := drop_len h2 hr
      unfold dropL at this
      simp [hy]; omega
theorem seqL_add {m c j : Nat} (hc : c = min j m) (_hm : 1 ≤ m) (_hm2 : m ≤ 32) (hj : j ≤ 40) : addE (m : Int) (seqL c) ((j : Int) + 1) (1 + ((j : Int) + 1) % 8) = (if j < m then 0 else 10) ∧ addL (m : Int) (seqL c) ((j : Int) + 1) (1 + ((j : Int) + 1) % 8) = seqL (min (j + 1) m) := by
  have h : addE (m : Int) (seqL c) ((j : Int) + 1) (1 + ((j : Int) + 1) % 8) = (if j < m then 0 else 10) := by
    rw [addE_ok (by omega), seqL_no (.inl (by omega)), seqL_len]
    simp only [Bool.false_eq_true, if_false]
    by_cases h : j < m
    · rw [if_pos h, if_neg (by omega)]
    · rw [if_neg h, if_pos (by omega)]
  refine ⟨h, ?_⟩
  unfold addL
  rw [h]
  by_cases h' : j < m
  · obtain rfl : c = j := by omega
    rw [if_pos h', if_pos rfl, insL_end (fun p hp => by
      obtain ⟨q, h1, h2, h3⟩ := mem_seqL hp
      rw [h3]; show ¬ (c : Int) + 1 < _; omega), show min (c + 1) m = c + 1 from by omega, seqL_succ]; rfl
  · rw [if_neg h', if_neg (by decide), hc]
    congr 1; omega
/-- What is told behind the loop of a table that is full. -/
structure Full (m : Nat) (L D : List Ik) : Prop where
  len1 : D.length + 1 = m
  has1 : hasL L 1 = true
  no1 : hasL D 1 = false
  a99 : addE m D 99 8 = 0
  f99 : findE (addL m D 99 8) 99 8 = 0
  a98 : addE m (addL m D 99 8) 98 1 = 10
theorem full_seq {m : Nat} (hok : OkT m (seqL m)) : Full m (seqL m) (dropL (seqL m) 1) := by
  have hm1 : 1 ≤ m := by have := hok.m1; omega
  have hm2 : m ≤ 32 := by have := hok.m32; omega
  have h1 : hasL (seqL m) 1 = true := by
    rw [hasL_iff]
    refine ⟨(((0 + 1 : Nat) : Int), 1 + ((0 + 1 : Nat) : Int) % 8), ?_, rfl⟩
    unfold seqL
    exact List.mem_map.2 ⟨0, by simp; omega, rfl⟩
  have hl := drop_len hok.asc h1
  rw [seqL_len] at hl
  have hd := hok.drop 1
  have hle : ∀ p ∈ dropL (seqL m) 1, p.1 ≤ 32 := fun p hp => by
    obtain ⟨j, q1, q2, q3⟩ := mem_seqL (List.mem_filter.1 hp).1
    omega
  have hno : hasL (dropL (seqL m) 1) 1 = false := by
    unfold hasL
    rw [List.any_eq_false]
    intro p hp
    have := (List.mem_filter.1 hp).2
    simpa using this
  have hn : ∀ i : Int, 32 < i → hasL (dropL (seqL m) 1) i = false := fun i hi => by
    unfold hasL
    rw [List.any_eq_false]
    intro p hp
    have := hle p hp
    simp; omega
  generalize dropL (seqL m) 1 = D at *
  have ha : addE m D 99 8 = 0 := by
    rw [addE_ok (by omega), hn 99 (by omega)]
    simp only [Bool.false_eq_true, if_false]
    rw [if_neg (by omega)]
  have hL : addL m D 99 8 = insL (99, 8) D := if_pos ha
  have hL2 : insL (99, 8) D = D ++ [(99, 8)] := insL_end (fun p hp => by have := hle p hp; show ¬ (99 : Int) < p.1; omega)
  have hfull := hd.add 99 8
  refine ⟨hl, h1, hno, ha, ?_, ?_⟩
  · rw [hL, hL2] at *
    have hm : (99, 8) ∈ D ++ [((99, 8) : Ik)] := by simp
    have hh : hasL (D ++ [((99, 8) : Ik)]) 99 = true := (hasL_iff _ _).2 ⟨_, hm, rfl⟩
    unfold findE
    rw [hh, if_pos rfl, if_pos ((mem_kind hfull.asc 99 hh 8).1 hm)]
  · rw [hL, hL2, addE_ok (by omega)]
    have : hasL (D ++ [((99, 8) : Ik)]) 98 = false := by
      have := hn 98 (by omega)
      unfold hasL at *
      rw [List.any_append, this]; rfl
    rw [this]
    simp only [Bool.false_eq_true, if_false, List.length_append, List.length_cons, List.length_nil]
    rw [if_pos (by omega)]

section
attribute [local go_sem ↓] run_min2 run_max2
set_option maxRecDepth 100000 in
set_option maxHeartbeats 2000000 in
theorem quota_core (n0 n1 : Int) (w : World) : Calls Try.prog 4 #[.int .i64 n0, .int .i64 n1] w fun e w' => e = .returned (.bool true) ∧ Bl w w' := by
  obtain ⟨m, hm, hm1, hm2⟩ : ∃ m : Nat, min (max n0 1) 32 = (m : Int) ∧ 1 ≤ m ∧ m ≤ 32 := ⟨(min (max n0 1) 32).toNat, by omega, by omega, by omega⟩
  obtain ⟨N, hN, hN2⟩ : ∃ N : Nat, min (max n1 0) 40 = (N : Int) ∧ N ≤ 40 := ⟨(min (max n1 0) 40).toNat, by omega, by omega⟩
  have cn := fun V => idNew1 n0 V
  rw [show mostN n0 = (m : Int) from hm] at cn
  have cl := fun V => idlives1 V
  go_enter Try.func4, Try.ntmps4
  go_wp2_with fail
  refine (cn _).mono ?_
  rintro e w1 ⟨pa, pb, rfl, ha, hb, t1, g1⟩
  clear cn
  replace ha := Lib.hid ha
  replace hb := Lib.hid hb
  go_wp2
  clear hm hN
  go_loopw [7, 8] (fun iv ev wr => ∃ j : Nat, j ≤ N ∧ iv = .int .i64 ((j : Int) + 1) ∧ Tb wr pa pb (m : Int) (seqL (min j m)) ∧ Bl w wr) (fun iv _ _ => N + 1 - (intOf iv).toNat)
  case atStart => exact ⟨0, by omega, rfl, by rw [show seqL (min 0 m) = [] from by simp [seqL]]; exact t1, g1⟩
  case round =>
    clear t1 g1
    obtain ⟨j, hj, rfl, t, g⟩ := hrel
    by_cases hlt : j < N
    · obtain ⟨ae, al⟩ := seqL_add (m := m) (c := min j m) (j := j) rfl hm1 hm2 (by omega)
      have ca := idAdd1 t ((j : Int) + 1) (1 + ((j : Int) + 1) % 8) (by unfold I64; omega) (by unfold I64; omega)
      rw [ae, al] at ca
      clear ae al
      replace ca := Lib.hid ca
      have hb2 := hb.out
      have q1 : ((j : Int) + 1 ≤ (m : Int)) = (j < m) := by simp; omega
      by_cases hjm : j < m
      · rw [if_pos hjm] at ca
        have q2 : decide ((j : Int) + 1 ≤ (m : Int)) = true := by simp; omega
        have q3 : (j : Int) + 1 ≤ (m : Int) := by omega
        clear q1
        go_wp2_with fail
        refine ca.out.mono ?_
        rintro e w2 ⟨rfl, t2, k2⟩
        go_wp2
        go_roundw
        case rel => exact ⟨j + 1, by omega, by go_num, t2, g.grown k2 (fun k hk => by cases hk; exact hb2)⟩
        case measure => simp [intOf]; omega
      · rw [if_neg hjm] at ca
        have q2 : decide ((j : Int) + 1 ≤ (m : Int)) = false := by simp; omega
        have q3 : ¬ (j : Int) + 1 ≤ (m : Int) := by omega
        clear q1
        go_wp2_with fail
        refine ca.out.mono ?_
        rintro e w2 ⟨rfl, t2, k2⟩
        go_wp2
        go_roundw
        case rel => exact ⟨j + 1, by omega, by go_num, t2, g.grown k2 (fun k hk => by cases hk; exact hb2)⟩
        case measure => simp [intOf]; omega
    · obtain rfl : j = N := by omega
      have hb2 := hb.out
      by_cases hjm : j < m
      · rw [show min j m = j from by omega] at t
        have cle := idLen1 t
        rw [seqL_len] at cle
        have q2 : decide ((j : Int) < (m : Int)) = true := by simp; omega
        have q3 : (j : Int) < (m : Int) := by omega
        replace hj := Lib.hid hj
        go_wp2_with fail
        refine cle.mono ?_
        rintro e w2 ⟨rfl, k2⟩
        go_wp2_with fail
        refine (cl _).mono ?_
        rintro e w3 ⟨rfl, k3⟩
        go_wp2
        go_ret
        exact ⟨rfl, (g.gr k2).trans k3⟩
      · rw [show min j m = m from by omega] at t
        obtain ⟨f1, f2, f3, f4, f5, f6⟩ := full_seq t.ok
        have q2 : decide ((j : Int) < (m : Int)) = false := by simp; omega
        have q3 : ¬ (j : Int) < (m : Int) := by omega
        have i1 : I64 1 := by unfold I64; omega
        have i99 : I64 99 := by unfold I64; omega
        have i8 : I64 8 := by unfold I64; omega
        have i98 : I64 98 := by unfold I64; omega
        have x1 := fun (V : World) (t : Tb V pa pb (m : Int) (seqL m)) => idFree1 t
        have x2 := fun (V : World) (t : Tb V pa pb (m : Int) (seqL m)) => idDrop1 t 1 i1
        have x3 := fun (V : World) (t : Tb V pa pb (m : Int) (dropL (seqL m) 1)) => idFree1 t
        have x4 := fun (V : World) (t : Tb V pa pb (m : Int) (dropL (seqL m) 1)) => idDrop1 t 1 i1
        have x5 := fun (V : World) (t : Tb V pa pb (m : Int) (dropL (seqL m) 1)) => idAdd1 t 99 8 i99 i8
        have x6 := fun (V : World) (t : Tb V pa pb (m : Int) (addL m (dropL (seqL m) 1) 99 8)) => idFind1 t 99 8 i99
        have x7 := fun (V : World) (t : Tb V pa pb (m : Int) (addL m (dropL (seqL m) 1) 99 8)) => idAdd1 t 98 1 i98 i1
        rw [dropL_no f3] at x4
        rw [f2] at x2
        rw [f3] at x4
        rw [f4] at x5
        rw [f5] at x6
        rw [f6] at x7
        rw [seqL_len, show (m : Int) - (m : Int) = 0 from by omega] at x1
        rw [show (m : Int) - ((dropL (seqL m) 1).length : Int) = 1 from by omega] at x3
        generalize addL m (addL m (dropL (seqL m) 1) 99 8) 98 1 = L3 at *
        generalize addL m (dropL (seqL m) 1) 99 8 = L2 at *
        generalize dropL (seqL m) 1 = L1 at *
        generalize seqL m = L0 at *
        replace hj := Lib.hid hj
        replace x1 := Lib.hid x1
        replace x2 := Lib.hid x2
        replace x3 := Lib.hid x3
        replace x4 := Lib.hid x4
        replace x5 := Lib.hid x5
        replace x6 := Lib.hid x6
        replace x7 := Lib.hid x7
        clear f1 f2 f3 f4 f5 f6
        go_wp2_with fail
        refine (x1.out _ t).mono ?_
        rintro e w2 ⟨rfl, k2⟩
        have t2 := t.bl k2.bl
        have g2 := g.gr k2
        go_wp2_with fail
        refine (x2.out _ t2).mono ?_
        rintro e w3 ⟨rfl, t3, k3⟩
        have g3 := g2.grown k3 (fun j hj => by cases hj; exact hb2)
        go_wp2_with fail
        refine (x3.out _ t3).mono ?_
        rintro e w4 ⟨rfl, k4⟩
        have t4 := t3.bl k4.bl
        have g4 := g3.gr k4
        go_wp2_with fail
        refine (x4.out _ t4).mono ?_
        rintro e w5 ⟨rfl, t5, k5⟩
        have g5 := g4.grown k5 (fun j hj => by cases hj; exact hb2)
        go_wp2_with fail
        refine (x5.out _ t5).mono ?_
        rintro e w6 ⟨rfl, t6, k6⟩
        have g6 := g5.grown k6 (fun j hj => by cases hj; exact hb2)
        go_wp2_with fail
        refine (x6.out _ t6).mono ?_
        rintro e w7 ⟨rfl, k7⟩
        have t7 := t6.bl k7.bl
        have g7 := g6.gr k7
        go_wp2_with fail
        refine (x7.out _ t7).mono ?_
        rintro e w8 ⟨rfl, t8, k8⟩
        have g8 := g7.grown k8 (fun j hj => by cases hj; exact hb2)
        go_wp2_with fail
        refine (cl _).mono ?_
        rintro e w9 ⟨rfl, k9⟩
        go_wp2
        go_ret
        exact ⟨rfl, g8.trans k9⟩
end

end Go.Proofs.Ytdbkklhnoflbpaa
