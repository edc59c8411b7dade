/-
  What is proved: the statement RequestNames walked: the operations' names and forms are the document's. No conditions but bounds.
-/
import Derived.Test.YteljpabhcmihoaaDoorZka
namespace Go.Proofs.YteljpabhcmihoaaDoor
open Go.RowKit Go.Sort
attribute [local go_sem] run_store_nf run_store_fn

set_option maxRecDepth 100000 in
set_option maxHeartbeats 2000000 in
theorem name0 (op : Int) (h : ¬ (0 ≤ op ∧ op ≤ 18)) (w : World) : Calls Tryd.prog 22 #[.int .i64 op] w (Bt w (.string ⟨#[]⟩)) := by
  have c1 := fun V => find0 op h V
  go_enter Tryd.func22, Tryd.ntmps22
  go_wp2_with fail
  refine (c1 _).mono ?_
  rintro e w1 ⟨rfl, g1⟩
  go_wp2
  go_returns
  exact ⟨rfl, (g1.alloc _).bl⟩
set_option maxRecDepth 100000 in
set_option maxHeartbeats 2000000 in
theorem name1 (n : Nat) (h : n < 19) (w : World) : Calls Tryd.prog 22 #[.int .i64 n] w (Bt w (.string (nmS n))) := by
  have c1 := fun V => find1 n h V
  generalize nmS n = M at *
  generalize fmS n = F at *
  generalize mayF n = g at *
  go_enter Tryd.func22, Tryd.ntmps22
  go_wp2_with fail
  refine (c1 _).mono ?_
  rintro e w1 ⟨rfl, g1⟩
  go_wp2
  go_returns
  exact ⟨rfl, (g1.alloc _).bl⟩
set_option maxRecDepth 100000 in
set_option maxHeartbeats 2000000 in
theorem form0 (op : Int) (h : ¬ (0 ≤ op ∧ op ≤ 18)) (w : World) : Calls Tryd.prog 21 #[.int .i64 op] w (Bt w (.tuple #[.string ⟨#[]⟩, .bool false])) := by
  have c1 := fun V => find0 op h V
  go_enter Tryd.func21, Tryd.ntmps21
  go_wp2_with fail
  refine (c1 _).mono ?_
  rintro e w1 ⟨rfl, g1⟩
  go_wp2
  go_returns
  exact ⟨rfl, (g1.alloc _).bl⟩
set_option maxRecDepth 100000 in
set_option maxHeartbeats 2000000 in
theorem form1 (n : Nat) (h : n < 19) (w : World) : Calls Tryd.prog 21 #[.int .i64 n] w (Bt w (.tuple #[.string (fmS n), .bool true])) := by
  have c1 := fun V => find1 n h V
  generalize nmS n = M at *
  generalize fmS n = F at *
  generalize mayF n = g at *
  go_enter Tryd.func21, Tryd.ntmps21
  go_wp2_with fail
  refine (c1 _).mono ?_
  rintro e w1 ⟨rfl, g1⟩
  go_wp2
  go_returns
  exact ⟨rfl, (g1.alloc _).bl⟩
set_option maxRecDepth 100000 in
set_option maxHeartbeats 2000000 in
theorem names_core (op : Int) (w : World) : Calls Tryd.prog 5 #[.int .i64 op] w (Bt w (.bool true)) := by
  go_enter Tryd.func5, Tryd.ntmps5
  go_wp2
  go_loopw [3] (fun i wr => ∃ z : Int, -2 ≤ z ∧ z ≤ 20 ∧ i = .int .i64 z ∧ Bl w wr) (fun i _ => (20 - intOf i).toNat)
  case atStart => exact ⟨-2, by omega, by omega, rfl, Bl.refl _⟩
  case round =>
    obtain ⟨z, hz1, hz2, rfl, G⟩ := hrel
    have hzw : IntKind.i64.wrap (z + 1) = z + 1 := IntWalk.i64_in _ (by omega)
    by_cases hlt : z < 20
    · by_cases hz : z = -2
      · subst hz
        by_cases hr : 0 ≤ op ∧ op ≤ 18
        · obtain ⟨N, rfl⟩ : ∃ N : Nat, op = N := ⟨op.toNat, by omega⟩
          have hN : N < 19 := by omega
          have q0 : ¬ (N : Int) < 0 := by omega
          have q18 : ¬ 18 < (N : Int) := by omega
          have q19 : (N : Int) < 19 := by omega
          have cF := form1 N hN
          have cN := name1 N hN
          have cf := fun V => (forms1 V).mono (R' := fun e w' => e = .returned (.slice (some ⟨V.heap.size, 0, none⟩) 19 19) ∧ w'.cell? ⟨V.heap.size, N, none⟩ = some (.string (fmS N)) ∧ Gr V w') (fun e w' h => ⟨h.1, (h.2.1.cell N).trans (formsC_at N hN), h.2.2⟩)
          have cn := fun V => (names1 V).mono (R' := fun e w' => e = .returned (.slice (some ⟨V.heap.size, 0, none⟩) 19 19) ∧ w'.cell? ⟨V.heap.size, N, none⟩ = some (.string (nmS N)) ∧ Gr V w') (fun e w' h => ⟨h.1, (h.2.1.cell N).trans (namesC_at N hN), h.2.2⟩)
          generalize fmS N = F at *
          generalize nmS N = M at *
          go_wp2_with fail
          refine (cF _).mono ?_
          rintro e w2 ⟨rfl, g2⟩
          have G2 := G.trans g2
          go_wp2_with fail
          refine (cf _).mono ?_
          rintro e w3 ⟨rfl, k3, g3⟩
          have G3 := G2.gr g3
          go_wp2_with fail
          refine (cN _).mono ?_
          rintro e w4 ⟨rfl, g4⟩
          have G4 := G3.trans g4
          go_wp2_with fail
          refine (cn _).mono ?_
          rintro e w5 ⟨rfl, k5, g5⟩
          have G5 := G4.gr g5
          go_wp2
          go_roundw
          case rel => exact ⟨-2 + 1, by omega, by omega, by go_num, by repeat (first | with_reducible assumption | with_reducible apply Bl.drew)⟩
          case measure => (simp [intOf]; try omega)
        · have hr2 : op < 0 ∨ ¬ op < 0 ∧ 18 < op := by omega
          rcases hr2 with q0 | ⟨q0, q18⟩
          · skip
            have cF := form0 (op) hr
            have cN := name0 (op) hr
            go_wp2_with fail
            refine (cF _).mono ?_
            rintro e w2 ⟨rfl, g2⟩
            have G2 := G.trans g2
            have G3 := G2
            go_wp2_with fail
            refine (cN _).mono ?_
            rintro e w4 ⟨rfl, g4⟩
            have G4 := G3.trans g4
            have G5 := G4
            go_wp2
            go_roundw
            case rel => exact ⟨-2 + 1, by omega, by omega, by go_num, by repeat (first | with_reducible assumption | with_reducible apply Bl.drew)⟩
            case measure => (simp [intOf]; try omega)
          · skip
            have cF := form0 (op) hr
            have cN := name0 (op) hr
            go_wp2_with fail
            refine (cF _).mono ?_
            rintro e w2 ⟨rfl, g2⟩
            have G2 := G.trans g2
            have G3 := G2
            go_wp2_with fail
            refine (cN _).mono ?_
            rintro e w4 ⟨rfl, g4⟩
            have G4 := G3.trans g4
            have G5 := G4
            go_wp2
            go_roundw
            case rel => exact ⟨-2 + 1, by omega, by omega, by go_num, by repeat (first | with_reducible assumption | with_reducible apply Bl.drew)⟩
            case measure => (simp [intOf]; try omega)
      · have hzne : (z == -2) = false := by simpa using hz
        by_cases hr : 0 ≤ z ∧ z ≤ 18
        · obtain ⟨N, rfl⟩ : ∃ N : Nat, z = N := ⟨z.toNat, by omega⟩
          have hN : N < 19 := by omega
          have q0 : ¬ (N : Int) < 0 := by omega
          have q18 : ¬ 18 < (N : Int) := by omega
          have q19 : (N : Int) < 19 := by omega
          have cF := form1 N hN
          have cN := name1 N hN
          have cf := fun V => (forms1 V).mono (R' := fun e w' => e = .returned (.slice (some ⟨V.heap.size, 0, none⟩) 19 19) ∧ w'.cell? ⟨V.heap.size, N, none⟩ = some (.string (fmS N)) ∧ Gr V w') (fun e w' h => ⟨h.1, (h.2.1.cell N).trans (formsC_at N hN), h.2.2⟩)
          have cn := fun V => (names1 V).mono (R' := fun e w' => e = .returned (.slice (some ⟨V.heap.size, 0, none⟩) 19 19) ∧ w'.cell? ⟨V.heap.size, N, none⟩ = some (.string (nmS N)) ∧ Gr V w') (fun e w' h => ⟨h.1, (h.2.1.cell N).trans (namesC_at N hN), h.2.2⟩)
          generalize fmS N = F at *
          generalize nmS N = M at *
          go_wp2_with fail
          refine (cF _).mono ?_
          rintro e w2 ⟨rfl, g2⟩
          have G2 := G.trans g2
          go_wp2_with fail
          refine (cf _).mono ?_
          rintro e w3 ⟨rfl, k3, g3⟩
          have G3 := G2.gr g3
          go_wp2_with fail
          refine (cN _).mono ?_
          rintro e w4 ⟨rfl, g4⟩
          have G4 := G3.trans g4
          go_wp2_with fail
          refine (cn _).mono ?_
          rintro e w5 ⟨rfl, k5, g5⟩
          have G5 := G4.gr g5
          go_wp2
          go_roundw
          case rel => exact ⟨(N : Int) + 1, by omega, by omega, by go_num, by repeat (first | with_reducible assumption | with_reducible apply Bl.drew)⟩
          case measure => (simp [intOf]; try omega)
        · have hr2 : z < 0 ∨ ¬ z < 0 ∧ 18 < z := by omega
          rcases hr2 with q0 | ⟨q0, q18⟩
          · skip
            have cF := form0 (z) hr
            have cN := name0 (z) hr
            go_wp2_with fail
            refine (cF _).mono ?_
            rintro e w2 ⟨rfl, g2⟩
            have G2 := G.trans g2
            have G3 := G2
            go_wp2_with fail
            refine (cN _).mono ?_
            rintro e w4 ⟨rfl, g4⟩
            have G4 := G3.trans g4
            have G5 := G4
            go_wp2
            go_roundw
            case rel => exact ⟨z + 1, by omega, by omega, by go_num, by repeat (first | with_reducible assumption | with_reducible apply Bl.drew)⟩
            case measure => (simp [intOf]; try omega)
          · skip
            have cF := form0 (z) hr
            have cN := name0 (z) hr
            go_wp2_with fail
            refine (cF _).mono ?_
            rintro e w2 ⟨rfl, g2⟩
            have G2 := G.trans g2
            have G3 := G2
            go_wp2_with fail
            refine (cN _).mono ?_
            rintro e w4 ⟨rfl, g4⟩
            have G4 := G3.trans g4
            have G5 := G4
            go_wp2
            go_roundw
            case rel => exact ⟨z + 1, by omega, by omega, by go_num, by repeat (first | with_reducible assumption | with_reducible apply Bl.drew)⟩
            case measure => (simp [intOf]; try omega)
    · have cl := qlives1
      go_wp2_with fail
      refine (cl _).mono ?_
      rintro e w2 ⟨rfl, g2⟩
      have G2 := G.trans g2
      go_wp2
      go_ret
      exact ⟨rfl, G2⟩

end Go.Proofs.YteljpabhcmihoaaDoor
