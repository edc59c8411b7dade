/-
  What is proved: what the statements' own example comes to; a pool over a law's whole walk. No conditions.
-/
import Derived.Test.YtkaaagggbclofaaPlf
namespace Go.Proofs.Ytkaaagggbclofaa
open Go.ChangeShapes Go.WideShapes Go.ChangeAt Go.RowKit Go.Joins Go.Sort Go.Deep Go.Maps

/-- A pool that was made behind w0: nothing that was there has turned. -/
structure PlL (w0 w : World) (pp nb bb : Nat) (Q : List Pq) (S : List Bf) (n : Nat) : Prop where
  r : PlR w pp nb bb Q S n
  g : Bl w0 w
  x : ∀ k, PlX pp nb bb Q k → w0.heap.size ≤ k
section
variable {w0 w w' : World} {pp nb bb n m : Nat} {Q : List Pq} {S S' : List Bf} {v : Value} {e : Ending}
theorem PlL.bl (h : PlL w0 w pp nb bb Q S n) (g : Bl w w') : PlL w0 w' pp nb bb Q S n := ⟨h.r.bl g, h.g.trans g, h.x⟩
theorem PlL.step (h : PlL w0 w pp nb bb Q S n) (k : PlQ w pp nb bb Q S' m v e w') : e = .returned v ∧ PlL w0 w' pp nb bb Q S' m := ⟨k.1, k.2.1, k.2.2.under h.x h.g, h.x⟩
theorem PlL.stepM (h : PlL w0 w pp nb bb Q S n) (k : PmQ w pp nb bb Q S' m v e w') : ∃ Q', e = .returned v ∧ PlL w0 w' pp nb bb Q' S' m := by
  obtain ⟨Q', h1, h2, h3, h4⟩ := k
  exact ⟨Q', h1, h2, h3.under h.x h.g, fun j hj => by
    rcases h4 j hj with h' | h'
    · exact h.x j h'
    · exact Nat.le_trans h.g.size h'⟩
end
theorem plNewL (w0 w : World) (g : Bl w0 w) : Calls Try.prog 7 #[] w fun e w' => ∃ pp nb bb, e = .returned (.pointer (some ⟨pp, 0, none⟩)) ∧ PlL w0 w' pp nb bb [] [] 0 :=
  (plNew1 w).mono fun _ _ ⟨pp, nb, bb, h1, h2, h3, h4⟩ => ⟨pp, nb, bb, h1, h2, g.trans h3, fun k hk => Nat.le_trans g.size (h4 k hk)⟩

set_option maxRecDepth 100000 in
set_option maxHeartbeats 1000000 in
theorem plives1 (w : World) : Calls Try.prog 10 #[] w (fun e w' => e = .returned (.bool true) ∧ Bl w w') := by
  have z0 : I64 0 := by unfold I64; omega
  have z5 : I64 5 := by unfold I64; omega
  obtain ⟨s0, hs0⟩ : ∃ s, s = newB 5 2 2 := ⟨_, rfl⟩
  have a1 : mkS [] 5 2 2 = [s0] := by rw [hs0]; simp [mkS, plF, badW]
  have a2 : mkN [] 5 2 2 = 0 := by simp [mkN, plF, badW]
  have a3 : mkE [] 5 2 2 = 0 := by simp [mkE, plF, badW]
  have b1 : hoS [s0] 0 = [{ s0 with hd := 1 }] := by rw [hs0]; simp [hoS, atS, newB, Bf.th]
  have b2 : hoE [s0] 0 = 0 := by rw [hs0]; simp [hoE, atS, newB, Bf.th]
  have c1 : ∀ (p r s t : Int) (bs : List Int), wrS12 [{ s0 with hd := 1 }] 5 p r s t bs = [{ s0 with hd := 1 }] := fun p r s t bs => by rw [hs0]; simp [wrS12, plF, newB]
  have c2 : ∀ (p r s t : Int) (bs : List Int), wrE12 [{ s0 with hd := 1 }] 5 p r s t bs = 8 := fun p r s t bs => by rw [hs0]; simp [wrE12, plF, newB]
  have d1 : leI [{ s0 with hd := 1 }] 0 = 5 := by rw [hs0]; simp [leI, atS, newB, Bf.th]
  have d2 : leB [{ s0 with hd := 1 }] 0 = true := by rw [hs0]; simp [leB, atS, newB, Bf.th]
  have cM := fun V pp nb bb Q n (h : PlR V pp nb bb Q [] n) (hn : n ≤ 1000) => plMake1 h hn 5 2 2 z5
  have cH := fun V pp nb bb Q n (h : PlR V pp nb bb Q [s0] n) (hn : n ≤ 1000) => plHold1 h hn 0 z0
  have cW := fun V pp nb bb Q n (h : PlR V pp nb bb Q [{ s0 with hd := 1 }] n) (hn : n ≤ 1000) b (hb : At V b #[.int .u8 0, .int .u8 0, .int .u8 0, .int .u8 0] 5) => plWrite1 h hn 5 z5 0 0 1 1 (some ⟨b, 0, none⟩) [0, 0, 0, 0] 4 (.inr ⟨b, 0, rfl, fun i x hi => by
    rw [Nat.zero_add, hb.cell]
    match i, hi with
    | 0, hi => simp at hi; subst hi; rfl
    | 1, hi => simp at hi; subst hi; rfl
    | 2, hi => simp at hi; subst hi; rfl
    | 3, hi => simp at hi; subst hi; rfl⟩) (by simp [U8]) (by simp) (by unfold maxLen; omega)
  have cL := fun V pp nb bb Q n (h : PlR V pp nb bb Q [{ s0 with hd := 1 }] n) (hn : n ≤ 1000) => plLet1 h hn 0 z0
  simp only [a1, a2, a3] at cM
  simp only [b1, b2] at cH
  simp only [c1, c2] at cW
  simp only [d1, d2] at cL
  have cM' := Lib.hid cM
  have cH' := Lib.hid cH
  have cW' := Lib.hid cW
  have cL' := Lib.hid cL
  clear cM cH cW cL a1 a2 a3 b1 b2 c1 c2 d1 d2 z0 z5
  replace hs0 := Lib.hid hs0
  generalize ({ s0 with hd := 1 } : Bf) = s1 at *
  go_enter Try.func10, Try.ntmps10
  go_wp2_with fail
  refine (plNewL w w (Bl.refl w)).mono ?_
  rintro e w1 ⟨pp, nb, bb, rfl, L1⟩
  go_wp2_with fail
  refine (cM'.out _ _ _ _ _ _ L1.r (by omega)).mono ?_
  rintro e w2 k2
  obtain ⟨Q, rfl, L2⟩ := L1.stepM k2
  clear k2 L1
  go_wp2_with fail
  refine (cH'.out _ _ _ _ _ _ L2.r (by omega)).mono ?_
  rintro e w3 k3
  obtain ⟨rfl, L3⟩ := L2.step k3
  clear k3 L2
  have L4 := L3.bl ((Bl.refl w3).alloc (.cells #[.int .u8 0, .int .u8 0, .int .u8 0, .int .u8 0] 5))
  have B4 := At.new w3 #[.int .u8 0, .int .u8 0, .int .u8 0, .int .u8 0] 5
  go_wp2_with fail
  refine (cW'.out _ _ _ _ _ _ L4.r (by omega) _ B4).mono ?_
  rintro e w5 k5
  obtain ⟨rfl, L5⟩ := L4.step k5
  clear k5 L4 L3 B4
  go_wp2_with fail
  refine (cL'.out _ _ _ _ _ _ L5.r (by omega)).mono ?_
  rintro e w6 k6
  obtain ⟨rfl, L6⟩ := L5.step k6
  clear k6 L5
  go_wp2
  go_ret
  exact ⟨rfl, L6.g⟩

end Go.Proofs.Ytkaaagggbclofaa
