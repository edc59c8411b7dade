/-
  What is proved: the statement RequestBounds walked (all other Ops); and both ways joined. No conditions but bounds.
-/
import Derived.Test.YthkbenhlhldglaaDoorZs1
namespace Go.Proofs.YthkbenhlhldglaaDoor
open Go.RowKit Go.Sort

set_option maxRecDepth 100000 in
set_option maxHeartbeats 2000000 in
theorem bounds_wO (O op a b : Int) (w : World) (hO : ¬ O = 18) (ca : ∀ V, Calls Tryd.prog 15 #[.int .i64 op, .int .i64 19] V fun e w' => e = .returned (.int .i64 O) ∧ V = w') : Calls Tryd.prog 6 #[.int .i64 op, .int .i64 a, .int .i64 b] w (Bt w (.bool true)) := by
  have hOe : (O == 18) = false := by simpa using hO
  have cas := fun V => qas1 ⟨O, 1, a, b, 0, 0, 0, 0, ⟨#[]⟩, []⟩ none 0 0 V
  have cen := fun V => enc1 ⟨O, 1, a, b, 0, 0, 0, 0, ⟨#[]⟩, []⟩ (.slice none 0 0) V (Sv.nil _) ByL.nil
  have crn := fun V => renc1 ⟨O, 1, a, b, 0, 0, 0, 0, ⟨#[]⟩, []⟩ (.slice none 0 0) V (Sv.nil _) ByL.nil
  generalize encR ⟨O, 1, a, b, 0, 0, 0, 0, ⟨#[]⟩, []⟩ = pe at *
  obtain ⟨me, ev⟩ := pe
  unfold vQ at *
  dsimp only [List.length_nil] at *
  have cl := qlives1
  have X0 := At.new w #[.int .i64 O, .int .i64 1, .int .i64 a, .int .i64 b, .int .i64 0, .int .i64 0, .int .i64 0, .int .i64 0, .string ⟨#[]⟩, .slice none 0 0] 28
  go_enter Tryd.func6, Tryd.ntmps6
  go_wp2_with fail
  refine (ca _).mono ?_
  rintro e w1 ⟨rfl, rfl⟩
  go_wp2_with fail
  refine (cas _).mono ?_
  rintro e w2 ⟨rfl, g2⟩
  go_wp2_with fail
  refine (cen _).mono ?_
  rintro e w3 ⟨d1, rfl, s1, g3⟩
  obtain ⟨A1, c1, rfl, _⟩ := s1
  dsimp only
  generalize me.body.length = n1 at *
  have G3 : Bl w w3 := (((Bl.refl w).alloc _).gr g2).trans g3
  have X3 := ((X0.gr g2).bl g3).alloc (.cells #[.int .i64 me.op, .int .i64 me.id, .slice A1 n1 c1] 24)
  clear cas cen X0 g2 g3 ca
  have zk0 : ((w3.alloc (.cells #[.int .i64 me.op, .int .i64 me.id, .slice A1 n1 c1] 24))).cell? ⟨w.heap.size, 0, none⟩ = some (.int .i64 O) := (X3.cell 0).trans rfl
  have zk1 : ((w3.alloc (.cells #[.int .i64 me.op, .int .i64 me.id, .slice A1 n1 c1] 24))).cell? ⟨w.heap.size, 1, none⟩ = some (.int .i64 1) := (X3.cell 1).trans rfl
  have zk2 : ((w3.alloc (.cells #[.int .i64 me.op, .int .i64 me.id, .slice A1 n1 c1] 24))).cell? ⟨w.heap.size, 2, none⟩ = some (.int .i64 a) := (X3.cell 2).trans rfl
  have zk3 : ((w3.alloc (.cells #[.int .i64 me.op, .int .i64 me.id, .slice A1 n1 c1] 24))).cell? ⟨w.heap.size, 3, none⟩ = some (.int .i64 b) := (X3.cell 3).trans rfl
  have zk4 : ((w3.alloc (.cells #[.int .i64 me.op, .int .i64 me.id, .slice A1 n1 c1] 24))).cell? ⟨w.heap.size, 4, none⟩ = some (.int .i64 0) := (X3.cell 4).trans rfl
  have zk5 : ((w3.alloc (.cells #[.int .i64 me.op, .int .i64 me.id, .slice A1 n1 c1] 24))).cell? ⟨w.heap.size, 5, none⟩ = some (.int .i64 0) := (X3.cell 5).trans rfl
  have zk6 : ((w3.alloc (.cells #[.int .i64 me.op, .int .i64 me.id, .slice A1 n1 c1] 24))).cell? ⟨w.heap.size, 6, none⟩ = some (.int .i64 0) := (X3.cell 6).trans rfl
  have zk7 : ((w3.alloc (.cells #[.int .i64 me.op, .int .i64 me.id, .slice A1 n1 c1] 24))).cell? ⟨w.heap.size, 7, none⟩ = some (.int .i64 0) := (X3.cell 7).trans rfl
  have zk8 : ((w3.alloc (.cells #[.int .i64 me.op, .int .i64 me.id, .slice A1 n1 c1] 24))).cell? ⟨w.heap.size, 8, none⟩ = some (.string ⟨#[]⟩) := (X3.cell 8).trans rfl
  have zk9 : ((w3.alloc (.cells #[.int .i64 me.op, .int .i64 me.id, .slice A1 n1 c1] 24))).cell? ⟨w.heap.size, 9, none⟩ = some (.slice none 0 0) := (X3.cell 9).trans rfl
  go_wp2_with fail
  refine (crn _).mono ?_
  rintro e w4 ⟨d2, rfl, s2, g4⟩
  obtain ⟨A2, c2, rfl, _⟩ := s2
  dsimp only
  generalize me.body.length = n2 at *
  have G4 : Bl w w4 := (G3.alloc _).trans g4
  clear zk0 zk1 zk2 zk3 zk4 zk5 zk6 zk7 zk8 zk9 X3 crn g4
  have X12 := ((At.newAt (w := w4.alloc (.cells #[.int .i64 me.op, .int .i64 me.id, .slice A2 n2 c2] 24)) (n := w4.heap.size + 1) (by simp) #[.int .i64 0, .int .i64 7, .int .i64 10, .int .i64 13, .int .i64 17] 3).alloc (.cells #[.int .i64 1, .int .i64 (-1048576), .int .i64 1, .int .i64 0, .int .i64 (-1048576)] 3)).alloc (.cells #[.int .i64 256, .int .i64 1048576, .int .i64 8, .int .i64 255, .int .i64 1048576] 3)
  have X13 := (At.newAt (w := (w4.alloc (.cells #[.int .i64 me.op, .int .i64 me.id, .slice A2 n2 c2] 24)).alloc (.cells #[.int .i64 0, .int .i64 7, .int .i64 10, .int .i64 13, .int .i64 17] 3)) (n := w4.heap.size + 1 + 1) (by simp) #[.int .i64 1, .int .i64 (-1048576), .int .i64 1, .int .i64 0, .int .i64 (-1048576)] 3).alloc (.cells #[.int .i64 256, .int .i64 1048576, .int .i64 8, .int .i64 255, .int .i64 1048576] 3)
  have X14 := At.newAt (w := ((w4.alloc (.cells #[.int .i64 me.op, .int .i64 me.id, .slice A2 n2 c2] 24)).alloc (.cells #[.int .i64 0, .int .i64 7, .int .i64 10, .int .i64 13, .int .i64 17] 3)).alloc (.cells #[.int .i64 1, .int .i64 (-1048576), .int .i64 1, .int .i64 0, .int .i64 (-1048576)] 3)) (n := w4.heap.size + 1 + 1 + 1) (by simp) #[.int .i64 256, .int .i64 1048576, .int .i64 8, .int .i64 255, .int .i64 1048576] 3
  have G5 := (((G4.alloc (.cells #[.int .i64 me.op, .int .i64 me.id, .slice A2 n2 c2] 24)).alloc (.cells #[.int .i64 0, .int .i64 7, .int .i64 10, .int .i64 13, .int .i64 17] 3)).alloc (.cells #[.int .i64 1, .int .i64 (-1048576), .int .i64 1, .int .i64 0, .int .i64 (-1048576)] 3)).alloc (.cells #[.int .i64 256, .int .i64 1048576, .int .i64 8, .int .i64 255, .int .i64 1048576] 3)
  go_wp2
  generalize (((w4.alloc (.cells #[.int .i64 me.op, .int .i64 me.id, .slice A2 n2 c2] 24)).alloc (.cells #[.int .i64 0, .int .i64 7, .int .i64 10, .int .i64 13, .int .i64 17] 3)).alloc (.cells #[.int .i64 1, .int .i64 (-1048576), .int .i64 1, .int .i64 0, .int .i64 (-1048576)] 3)).alloc (.cells #[.int .i64 256, .int .i64 1048576, .int .i64 8, .int .i64 255, .int .i64 1048576] 3) = w5 at *
  generalize w4.heap.size + 1 + 1 + 1 = b14 at *
  generalize w4.heap.size + 1 + 1 = b13 at *
  generalize w4.heap.size + 1 = b12 at *
  go_loopw [15] (fun i wr => ∃ k : Nat, k ≤ 5 ∧ i = .int .i64 ((k : Nat) : Int) ∧ Bl w5 wr) (fun i _ => 5 - (intOf i).toNat)
  case atStart => exact ⟨0, by omega, rfl, Bl.refl _⟩
  case round =>
    obtain ⟨k, hk, rfl, G⟩ := hrel
    have hbq := G.size
    have hc : k = 0 ∨ k = 1 ∨ k = 2 ∨ k = 3 ∨ k = 4 ∨ k = 5 := by omega
    clear hk
    rcases hc with rfl | rfl | rfl | rfl | rfl | rfl
    · skip
      have Y12 := X12.bl G
      have Y13 := X13.bl G
      have Y14 := X14.bl G
      have SK : ∀ V, Bl wr V → V.cell? ⟨b12, 0, none⟩ = some (.int .i64 0) ∧ V.cell? ⟨b13, 0, none⟩ = some (.int .i64 1) ∧ Bl wr V := fun V g => ⟨((Y12.bl g).cell 0).trans rfl, ((Y13.bl g).cell 0).trans rfl, g⟩
      replace SK := Lib.hid SK
      go_wp2
      go_region_held3 (fun V => V.cell? ⟨b12, 0, none⟩ = some (.int .i64 0) ∧ V.cell? ⟨b13, 0, none⟩ = some (.int .i64 1) ∧ Bl wr V) ((refine SK.out _ ?_; repeat (first | with_reducible assumption | with_reducible exact Bl.refl _ | with_reducible exact (And.right (And.right (by assumption))) | with_reducible apply Bl.drew | with_reducible apply Bl.alloc))) ((fail))
      have XQ := (At.new wr #[.int .i64 0, .int .i64 1, .int .i64 1, .int .i64 1, .int .i64 0, .int .i64 0, .int .i64 0, .int .i64 0, .string ⟨#[]⟩, .slice none 0 0] 28).drew
      have GA : Bl w5 ((wr.alloc (.cells #[.int .i64 0, .int .i64 1, .int .i64 1, .int .i64 1, .int .i64 0, .int .i64 0, .int .i64 0, .int .i64 0, .string ⟨#[]⟩, .slice none 0 0] 28)).drew) := (G.alloc _).drew
      generalize (wr.alloc (.cells #[.int .i64 0, .int .i64 1, .int .i64 1, .int .i64 1, .int .i64 0, .int .i64 0, .int .i64 0, .int .i64 0, .string ⟨#[]⟩, .slice none 0 0] 28)).drew = WA at *
      generalize wr.heap.size = bq at *
      have qk0 : (WA).cell? ⟨bq, 0, none⟩ = some (.int .i64 0) := (XQ.cell 0).trans rfl
      have qk1 : (WA).cell? ⟨bq, 1, none⟩ = some (.int .i64 1) := (XQ.cell 1).trans rfl
      have qk2 : (WA).cell? ⟨bq, 2, none⟩ = some (.int .i64 1) := (XQ.cell 2).trans rfl
      have qk3 : (WA).cell? ⟨bq, 3, none⟩ = some (.int .i64 1) := (XQ.cell 3).trans rfl
      have qk4 : (WA).cell? ⟨bq, 4, none⟩ = some (.int .i64 0) := (XQ.cell 4).trans rfl
      have qk5 : (WA).cell? ⟨bq, 5, none⟩ = some (.int .i64 0) := (XQ.cell 5).trans rfl
      have qk6 : (WA).cell? ⟨bq, 6, none⟩ = some (.int .i64 0) := (XQ.cell 6).trans rfl
      have qk7 : (WA).cell? ⟨bq, 7, none⟩ = some (.int .i64 0) := (XQ.cell 7).trans rfl
      have qk8 : (WA).cell? ⟨bq, 8, none⟩ = some (.string ⟨#[]⟩) := (XQ.cell 8).trans rfl
      have qk9 : (WA).cell? ⟨bq, 9, none⟩ = some (.slice none 0 0) := (XQ.cell 9).trans rfl
      have t14a : (WA.alloc (.cells #[.int .i64 0, .int .i64 1, .int .i64 1, .int .i64 1, .int .i64 0, .int .i64 0, .int .i64 0, .int .i64 0, .string ⟨#[]⟩, .slice none 0 0] 28)).cell? ⟨b14, 0, none⟩ = some (.int .i64 256) := (((X14.bl GA).alloc _).cell 0).trans rfl
      have rk0 : ((WA.alloc (.cells #[.int .i64 0, .int .i64 1, .int .i64 256, .int .i64 1, .int .i64 0, .int .i64 0, .int .i64 0, .int .i64 0, .string ⟨#[]⟩, .slice none 0 0] 28))).cell? ⟨bq, 0, none⟩ = some (.int .i64 0) := ((XQ.alloc (.cells #[.int .i64 0, .int .i64 1, .int .i64 256, .int .i64 1, .int .i64 0, .int .i64 0, .int .i64 0, .int .i64 0, .string ⟨#[]⟩, .slice none 0 0] 28)).cell 0).trans rfl
      have rk1 : ((WA.alloc (.cells #[.int .i64 0, .int .i64 1, .int .i64 256, .int .i64 1, .int .i64 0, .int .i64 0, .int .i64 0, .int .i64 0, .string ⟨#[]⟩, .slice none 0 0] 28))).cell? ⟨bq, 1, none⟩ = some (.int .i64 1) := ((XQ.alloc (.cells #[.int .i64 0, .int .i64 1, .int .i64 256, .int .i64 1, .int .i64 0, .int .i64 0, .int .i64 0, .int .i64 0, .string ⟨#[]⟩, .slice none 0 0] 28)).cell 1).trans rfl
      have rk2 : ((WA.alloc (.cells #[.int .i64 0, .int .i64 1, .int .i64 256, .int .i64 1, .int .i64 0, .int .i64 0, .int .i64 0, .int .i64 0, .string ⟨#[]⟩, .slice none 0 0] 28))).cell? ⟨bq, 2, none⟩ = some (.int .i64 1) := ((XQ.alloc (.cells #[.int .i64 0, .int .i64 1, .int .i64 256, .int .i64 1, .int .i64 0, .int .i64 0, .int .i64 0, .int .i64 0, .string ⟨#[]⟩, .slice none 0 0] 28)).cell 2).trans rfl
      have rk3 : ((WA.alloc (.cells #[.int .i64 0, .int .i64 1, .int .i64 256, .int .i64 1, .int .i64 0, .int .i64 0, .int .i64 0, .int .i64 0, .string ⟨#[]⟩, .slice none 0 0] 28))).cell? ⟨bq, 3, none⟩ = some (.int .i64 1) := ((XQ.alloc (.cells #[.int .i64 0, .int .i64 1, .int .i64 256, .int .i64 1, .int .i64 0, .int .i64 0, .int .i64 0, .int .i64 0, .string ⟨#[]⟩, .slice none 0 0] 28)).cell 3).trans rfl
      have rk4 : ((WA.alloc (.cells #[.int .i64 0, .int .i64 1, .int .i64 256, .int .i64 1, .int .i64 0, .int .i64 0, .int .i64 0, .int .i64 0, .string ⟨#[]⟩, .slice none 0 0] 28))).cell? ⟨bq, 4, none⟩ = some (.int .i64 0) := ((XQ.alloc (.cells #[.int .i64 0, .int .i64 1, .int .i64 256, .int .i64 1, .int .i64 0, .int .i64 0, .int .i64 0, .int .i64 0, .string ⟨#[]⟩, .slice none 0 0] 28)).cell 4).trans rfl
      have rk5 : ((WA.alloc (.cells #[.int .i64 0, .int .i64 1, .int .i64 256, .int .i64 1, .int .i64 0, .int .i64 0, .int .i64 0, .int .i64 0, .string ⟨#[]⟩, .slice none 0 0] 28))).cell? ⟨bq, 5, none⟩ = some (.int .i64 0) := ((XQ.alloc (.cells #[.int .i64 0, .int .i64 1, .int .i64 256, .int .i64 1, .int .i64 0, .int .i64 0, .int .i64 0, .int .i64 0, .string ⟨#[]⟩, .slice none 0 0] 28)).cell 5).trans rfl
      have rk6 : ((WA.alloc (.cells #[.int .i64 0, .int .i64 1, .int .i64 256, .int .i64 1, .int .i64 0, .int .i64 0, .int .i64 0, .int .i64 0, .string ⟨#[]⟩, .slice none 0 0] 28))).cell? ⟨bq, 6, none⟩ = some (.int .i64 0) := ((XQ.alloc (.cells #[.int .i64 0, .int .i64 1, .int .i64 256, .int .i64 1, .int .i64 0, .int .i64 0, .int .i64 0, .int .i64 0, .string ⟨#[]⟩, .slice none 0 0] 28)).cell 6).trans rfl
      have rk7 : ((WA.alloc (.cells #[.int .i64 0, .int .i64 1, .int .i64 256, .int .i64 1, .int .i64 0, .int .i64 0, .int .i64 0, .int .i64 0, .string ⟨#[]⟩, .slice none 0 0] 28))).cell? ⟨bq, 7, none⟩ = some (.int .i64 0) := ((XQ.alloc (.cells #[.int .i64 0, .int .i64 1, .int .i64 256, .int .i64 1, .int .i64 0, .int .i64 0, .int .i64 0, .int .i64 0, .string ⟨#[]⟩, .slice none 0 0] 28)).cell 7).trans rfl
      have rk8 : ((WA.alloc (.cells #[.int .i64 0, .int .i64 1, .int .i64 256, .int .i64 1, .int .i64 0, .int .i64 0, .int .i64 0, .int .i64 0, .string ⟨#[]⟩, .slice none 0 0] 28))).cell? ⟨bq, 8, none⟩ = some (.string ⟨#[]⟩) := ((XQ.alloc (.cells #[.int .i64 0, .int .i64 1, .int .i64 256, .int .i64 1, .int .i64 0, .int .i64 0, .int .i64 0, .int .i64 0, .string ⟨#[]⟩, .slice none 0 0] 28)).cell 8).trans rfl
      have rk9 : ((WA.alloc (.cells #[.int .i64 0, .int .i64 1, .int .i64 256, .int .i64 1, .int .i64 0, .int .i64 0, .int .i64 0, .int .i64 0, .string ⟨#[]⟩, .slice none 0 0] 28))).cell? ⟨bq, 9, none⟩ = some (.slice none 0 0) := ((XQ.alloc (.cells #[.int .i64 0, .int .i64 1, .int .i64 256, .int .i64 1, .int .i64 0, .int .i64 0, .int .i64 0, .int .i64 0, .string ⟨#[]⟩, .slice none 0 0] 28)).cell 9).trans rfl
      have t14b : ((WA.alloc (.cells #[.int .i64 0, .int .i64 1, .int .i64 256, .int .i64 1, .int .i64 0, .int .i64 0, .int .i64 0, .int .i64 0, .string ⟨#[]⟩, .slice none 0 0] 28)).alloc (.cells #[.int .i64 0, .int .i64 1, .int .i64 1, .int .i64 1, .int .i64 0, .int .i64 0, .int .i64 0, .int .i64 0, .string ⟨#[]⟩, .slice none 0 0] 28)).cell? ⟨b14, 0, none⟩ = some (.int .i64 256) := ((((X14.bl GA).alloc _).alloc _).cell 0).trans rfl
      have sk0 : (((WA.alloc (.cells #[.int .i64 0, .int .i64 1, .int .i64 256, .int .i64 1, .int .i64 0, .int .i64 0, .int .i64 0, .int .i64 0, .string ⟨#[]⟩, .slice none 0 0] 28)).alloc (.cells #[.int .i64 0, .int .i64 1, .int .i64 257, .int .i64 1, .int .i64 0, .int .i64 0, .int .i64 0, .int .i64 0, .string ⟨#[]⟩, .slice none 0 0] 28))).cell? ⟨bq, 0, none⟩ = some (.int .i64 0) := (((XQ.alloc (.cells #[.int .i64 0, .int .i64 1, .int .i64 256, .int .i64 1, .int .i64 0, .int .i64 0, .int .i64 0, .int .i64 0, .string ⟨#[]⟩, .slice none 0 0] 28)).alloc (.cells #[.int .i64 0, .int .i64 1, .int .i64 257, .int .i64 1, .int .i64 0, .int .i64 0, .int .i64 0, .int .i64 0, .string ⟨#[]⟩, .slice none 0 0] 28)).cell 0).trans rfl
      have sk1 : (((WA.alloc (.cells #[.int .i64 0, .int .i64 1, .int .i64 256, .int .i64 1, .int .i64 0, .int .i64 0, .int .i64 0, .int .i64 0, .string ⟨#[]⟩, .slice none 0 0] 28)).alloc (.cells #[.int .i64 0, .int .i64 1, .int .i64 257, .int .i64 1, .int .i64 0, .int .i64 0, .int .i64 0, .int .i64 0, .string ⟨#[]⟩, .slice none 0 0] 28))).cell? ⟨bq, 1, none⟩ = some (.int .i64 1) := (((XQ.alloc (.cells #[.int .i64 0, .int .i64 1, .int .i64 256, .int .i64 1, .int .i64 0, .int .i64 0, .int .i64 0, .int .i64 0, .string ⟨#[]⟩, .slice none 0 0] 28)).alloc (.cells #[.int .i64 0, .int .i64 1, .int .i64 257, .int .i64 1, .int .i64 0, .int .i64 0, .int .i64 0, .int .i64 0, .string ⟨#[]⟩, .slice none 0 0] 28)).cell 1).trans rfl
      have sk2 : (((WA.alloc (.cells #[.int .i64 0, .int .i64 1, .int .i64 256, .int .i64 1, .int .i64 0, .int .i64 0, .int .i64 0, .int .i64 0, .string ⟨#[]⟩, .slice none 0 0] 28)).alloc (.cells #[.int .i64 0, .int .i64 1, .int .i64 257, .int .i64 1, .int .i64 0, .int .i64 0, .int .i64 0, .int .i64 0, .string ⟨#[]⟩, .slice none 0 0] 28))).cell? ⟨bq, 2, none⟩ = some (.int .i64 1) := (((XQ.alloc (.cells #[.int .i64 0, .int .i64 1, .int .i64 256, .int .i64 1, .int .i64 0, .int .i64 0, .int .i64 0, .int .i64 0, .string ⟨#[]⟩, .slice none 0 0] 28)).alloc (.cells #[.int .i64 0, .int .i64 1, .int .i64 257, .int .i64 1, .int .i64 0, .int .i64 0, .int .i64 0, .int .i64 0, .string ⟨#[]⟩, .slice none 0 0] 28)).cell 2).trans rfl
      have sk3 : (((WA.alloc (.cells #[.int .i64 0, .int .i64 1, .int .i64 256, .int .i64 1, .int .i64 0, .int .i64 0, .int .i64 0, .int .i64 0, .string ⟨#[]⟩, .slice none 0 0] 28)).alloc (.cells #[.int .i64 0, .int .i64 1, .int .i64 257, .int .i64 1, .int .i64 0, .int .i64 0, .int .i64 0, .int .i64 0, .string ⟨#[]⟩, .slice none 0 0] 28))).cell? ⟨bq, 3, none⟩ = some (.int .i64 1) := (((XQ.alloc (.cells #[.int .i64 0, .int .i64 1, .int .i64 256, .int .i64 1, .int .i64 0, .int .i64 0, .int .i64 0, .int .i64 0, .string ⟨#[]⟩, .slice none 0 0] 28)).alloc (.cells #[.int .i64 0, .int .i64 1, .int .i64 257, .int .i64 1, .int .i64 0, .int .i64 0, .int .i64 0, .int .i64 0, .string ⟨#[]⟩, .slice none 0 0] 28)).cell 3).trans rfl
      have sk4 : (((WA.alloc (.cells #[.int .i64 0, .int .i64 1, .int .i64 256, .int .i64 1, .int .i64 0, .int .i64 0, .int .i64 0, .int .i64 0, .string ⟨#[]⟩, .slice none 0 0] 28)).alloc (.cells #[.int .i64 0, .int .i64 1, .int .i64 257, .int .i64 1, .int .i64 0, .int .i64 0, .int .i64 0, .int .i64 0, .string ⟨#[]⟩, .slice none 0 0] 28))).cell? ⟨bq, 4, none⟩ = some (.int .i64 0) := (((XQ.alloc (.cells #[.int .i64 0, .int .i64 1, .int .i64 256, .int .i64 1, .int .i64 0, .int .i64 0, .int .i64 0, .int .i64 0, .string ⟨#[]⟩, .slice none 0 0] 28)).alloc (.cells #[.int .i64 0, .int .i64 1, .int .i64 257, .int .i64 1, .int .i64 0, .int .i64 0, .int .i64 0, .int .i64 0, .string ⟨#[]⟩, .slice none 0 0] 28)).cell 4).trans rfl
      have sk5 : (((WA.alloc (.cells #[.int .i64 0, .int .i64 1, .int .i64 256, .int .i64 1, .int .i64 0, .int .i64 0, .int .i64 0, .int .i64 0, .string ⟨#[]⟩, .slice none 0 0] 28)).alloc (.cells #[.int .i64 0, .int .i64 1, .int .i64 257, .int .i64 1, .int .i64 0, .int .i64 0, .int .i64 0, .int .i64 0, .string ⟨#[]⟩, .slice none 0 0] 28))).cell? ⟨bq, 5, none⟩ = some (.int .i64 0) := (((XQ.alloc (.cells #[.int .i64 0, .int .i64 1, .int .i64 256, .int .i64 1, .int .i64 0, .int .i64 0, .int .i64 0, .int .i64 0, .string ⟨#[]⟩, .slice none 0 0] 28)).alloc (.cells #[.int .i64 0, .int .i64 1, .int .i64 257, .int .i64 1, .int .i64 0, .int .i64 0, .int .i64 0, .int .i64 0, .string ⟨#[]⟩, .slice none 0 0] 28)).cell 5).trans rfl
      have sk6 : (((WA.alloc (.cells #[.int .i64 0, .int .i64 1, .int .i64 256, .int .i64 1, .int .i64 0, .int .i64 0, .int .i64 0, .int .i64 0, .string ⟨#[]⟩, .slice none 0 0] 28)).alloc (.cells #[.int .i64 0, .int .i64 1, .int .i64 257, .int .i64 1, .int .i64 0, .int .i64 0, .int .i64 0, .int .i64 0, .string ⟨#[]⟩, .slice none 0 0] 28))).cell? ⟨bq, 6, none⟩ = some (.int .i64 0) := (((XQ.alloc (.cells #[.int .i64 0, .int .i64 1, .int .i64 256, .int .i64 1, .int .i64 0, .int .i64 0, .int .i64 0, .int .i64 0, .string ⟨#[]⟩, .slice none 0 0] 28)).alloc (.cells #[.int .i64 0, .int .i64 1, .int .i64 257, .int .i64 1, .int .i64 0, .int .i64 0, .int .i64 0, .int .i64 0, .string ⟨#[]⟩, .slice none 0 0] 28)).cell 6).trans rfl
      have sk7 : (((WA.alloc (.cells #[.int .i64 0, .int .i64 1, .int .i64 256, .int .i64 1, .int .i64 0, .int .i64 0, .int .i64 0, .int .i64 0, .string ⟨#[]⟩, .slice none 0 0] 28)).alloc (.cells #[.int .i64 0, .int .i64 1, .int .i64 257, .int .i64 1, .int .i64 0, .int .i64 0, .int .i64 0, .int .i64 0, .string ⟨#[]⟩, .slice none 0 0] 28))).cell? ⟨bq, 7, none⟩ = some (.int .i64 0) := (((XQ.alloc (.cells #[.int .i64 0, .int .i64 1, .int .i64 256, .int .i64 1, .int .i64 0, .int .i64 0, .int .i64 0, .int .i64 0, .string ⟨#[]⟩, .slice none 0 0] 28)).alloc (.cells #[.int .i64 0, .int .i64 1, .int .i64 257, .int .i64 1, .int .i64 0, .int .i64 0, .int .i64 0, .int .i64 0, .string ⟨#[]⟩, .slice none 0 0] 28)).cell 7).trans rfl
      have sk8 : (((WA.alloc (.cells #[.int .i64 0, .int .i64 1, .int .i64 256, .int .i64 1, .int .i64 0, .int .i64 0, .int .i64 0, .int .i64 0, .string ⟨#[]⟩, .slice none 0 0] 28)).alloc (.cells #[.int .i64 0, .int .i64 1, .int .i64 257, .int .i64 1, .int .i64 0, .int .i64 0, .int .i64 0, .int .i64 0, .string ⟨#[]⟩, .slice none 0 0] 28))).cell? ⟨bq, 8, none⟩ = some (.string ⟨#[]⟩) := (((XQ.alloc (.cells #[.int .i64 0, .int .i64 1, .int .i64 256, .int .i64 1, .int .i64 0, .int .i64 0, .int .i64 0, .int .i64 0, .string ⟨#[]⟩, .slice none 0 0] 28)).alloc (.cells #[.int .i64 0, .int .i64 1, .int .i64 257, .int .i64 1, .int .i64 0, .int .i64 0, .int .i64 0, .int .i64 0, .string ⟨#[]⟩, .slice none 0 0] 28)).cell 8).trans rfl
      have sk9 : (((WA.alloc (.cells #[.int .i64 0, .int .i64 1, .int .i64 256, .int .i64 1, .int .i64 0, .int .i64 0, .int .i64 0, .int .i64 0, .string ⟨#[]⟩, .slice none 0 0] 28)).alloc (.cells #[.int .i64 0, .int .i64 1, .int .i64 257, .int .i64 1, .int .i64 0, .int .i64 0, .int .i64 0, .int .i64 0, .string ⟨#[]⟩, .slice none 0 0] 28))).cell? ⟨bq, 9, none⟩ = some (.slice none 0 0) := (((XQ.alloc (.cells #[.int .i64 0, .int .i64 1, .int .i64 256, .int .i64 1, .int .i64 0, .int .i64 0, .int .i64 0, .int .i64 0, .string ⟨#[]⟩, .slice none 0 0] 28)).alloc (.cells #[.int .i64 0, .int .i64 1, .int .i64 257, .int .i64 1, .int .i64 0, .int .i64 0, .int .i64 0, .int .i64 0, .string ⟨#[]⟩, .slice none 0 0] 28)).cell 9).trans rfl
      have cas0 := fun V => qas1 ⟨0, 1, 1, 1, 0, 0, 0, 0, ⟨#[]⟩, []⟩ none 0 0 V
      have cen0 := fun V => enc1 ⟨0, 1, 1, 1, 0, 0, 0, 0, ⟨#[]⟩, []⟩ (.slice none 0 0) V (Sv.nil _) ByL.nil
      have ee0 := enc_lo0
      generalize encR ⟨0, 1, 1, 1, 0, 0, 0, 0, ⟨#[]⟩, []⟩ = pe0 at *
      obtain ⟨m0, ev0⟩ := pe0
      dsimp only at ee0
      subst ee0
      have cas1 := fun V => qas1 ⟨0, 1, 256, 1, 0, 0, 0, 0, ⟨#[]⟩, []⟩ none 0 0 V
      have cen1 := fun V => enc1 ⟨0, 1, 256, 1, 0, 0, 0, 0, ⟨#[]⟩, []⟩ (.slice none 0 0) V (Sv.nil _) ByL.nil
      have ee1 := enc_hi0
      generalize encR ⟨0, 1, 256, 1, 0, 0, 0, 0, ⟨#[]⟩, []⟩ = pe1 at *
      obtain ⟨m1, ev1⟩ := pe1
      dsimp only at ee1
      subst ee1
      have cas2 := fun V => qas1 ⟨0, 1, 257, 1, 0, 0, 0, 0, ⟨#[]⟩, []⟩ none 0 0 V
      have cen2 := fun V => enc1 ⟨0, 1, 257, 1, 0, 0, 0, 0, ⟨#[]⟩, []⟩ (.slice none 0 0) V (Sv.nil _) ByL.nil
      have ee2 := enc_out0
      generalize encR ⟨0, 1, 257, 1, 0, 0, 0, 0, ⟨#[]⟩, []⟩ = pe2 at *
      obtain ⟨m2, ev2⟩ := pe2
      dsimp only at ee2
      subst ee2
      unfold vQ at *
      dsimp only at *
      have XP : At ((WA.alloc (.cells #[.int .i64 0, .int .i64 1, .int .i64 256, .int .i64 1, .int .i64 0, .int .i64 0, .int .i64 0, .int .i64 0, .string ⟨#[]⟩, .slice none 0 0] 28)).alloc (.cells #[.int .i64 0, .int .i64 1, .int .i64 257, .int .i64 1, .int .i64 0, .int .i64 0, .int .i64 0, .int .i64 0, .string ⟨#[]⟩, .slice none 0 0] 28)) WA.heap.size #[.int .i64 0, .int .i64 1, .int .i64 256, .int .i64 1, .int .i64 0, .int .i64 0, .int .i64 0, .int .i64 0, .string ⟨#[]⟩, .slice none 0 0] 28 := (At.newAt (w := WA) (n := WA.heap.size) (by simp) #[.int .i64 0, .int .i64 1, .int .i64 256, .int .i64 1, .int .i64 0, .int .i64 0, .int .i64 0, .int .i64 0, .string ⟨#[]⟩, .slice none 0 0] 28).alloc (.cells #[.int .i64 0, .int .i64 1, .int .i64 257, .int .i64 1, .int .i64 0, .int .i64 0, .int .i64 0, .int .i64 0, .string ⟨#[]⟩, .slice none 0 0] 28)
      have XU : At ((WA.alloc (.cells #[.int .i64 0, .int .i64 1, .int .i64 256, .int .i64 1, .int .i64 0, .int .i64 0, .int .i64 0, .int .i64 0, .string ⟨#[]⟩, .slice none 0 0] 28)).alloc (.cells #[.int .i64 0, .int .i64 1, .int .i64 257, .int .i64 1, .int .i64 0, .int .i64 0, .int .i64 0, .int .i64 0, .string ⟨#[]⟩, .slice none 0 0] 28)) (WA.heap.size + 1) #[.int .i64 0, .int .i64 1, .int .i64 257, .int .i64 1, .int .i64 0, .int .i64 0, .int .i64 0, .int .i64 0, .string ⟨#[]⟩, .slice none 0 0] 28 := At.newAt (w := (WA.alloc (.cells #[.int .i64 0, .int .i64 1, .int .i64 256, .int .i64 1, .int .i64 0, .int .i64 0, .int .i64 0, .int .i64 0, .string ⟨#[]⟩, .slice none 0 0] 28))) (n := WA.heap.size + 1) (by simp) #[.int .i64 0, .int .i64 1, .int .i64 257, .int .i64 1, .int .i64 0, .int .i64 0, .int .i64 0, .int .i64 0, .string ⟨#[]⟩, .slice none 0 0] 28
      have GW : Bl w5 ((WA.alloc (.cells #[.int .i64 0, .int .i64 1, .int .i64 256, .int .i64 1, .int .i64 0, .int .i64 0, .int .i64 0, .int .i64 0, .string ⟨#[]⟩, .slice none 0 0] 28)).alloc (.cells #[.int .i64 0, .int .i64 1, .int .i64 257, .int .i64 1, .int .i64 0, .int .i64 0, .int .i64 0, .int .i64 0, .string ⟨#[]⟩, .slice none 0 0] 28)) := (GA.alloc _).alloc _
      go_wp2_with fail
      generalize ((WA.alloc (.cells #[.int .i64 0, .int .i64 1, .int .i64 256, .int .i64 1, .int .i64 0, .int .i64 0, .int .i64 0, .int .i64 0, .string ⟨#[]⟩, .slice none 0 0] 28)).alloc (.cells #[.int .i64 0, .int .i64 1, .int .i64 257, .int .i64 1, .int .i64 0, .int .i64 0, .int .i64 0, .int .i64 0, .string ⟨#[]⟩, .slice none 0 0] 28)) = WW at *
      clear qk0 qk1 qk2 qk3 qk4 qk5 qk6 qk7 qk8 qk9 rk0 rk1 rk2 rk3 rk4 rk5 rk6 rk7 rk8 rk9 sk0 sk1 sk2 sk3 sk4 sk5 sk6 sk7 sk8 sk9 t14a t14b
      refine (cas0 _).mono ?_
      rintro e v0a ⟨rfl, ga0⟩
      go_wp2_with fail
      refine (cen0 _).mono ?_
      rintro e v0b ⟨dd0, rfl, ss0, gb0⟩
      obtain ⟨Am0, cm0, rfl, _⟩ := ss0
      dsimp only
      generalize m0.body.length = nm0 at *
      have XP1 := ((XP.gr ga0).bl gb0).alloc (.cells #[.int .i64 m0.op, .int .i64 m0.id, .slice Am0 nm0 cm0] 24)
      have XU1 := ((XU.gr ga0).bl gb0).alloc (.cells #[.int .i64 m0.op, .int .i64 m0.id, .slice Am0 nm0 cm0] 24)
      have GW1 := ((GW.gr ga0).trans gb0).alloc (.cells #[.int .i64 m0.op, .int .i64 m0.id, .slice Am0 nm0 cm0] 24)
      have pk0 : (v0b.alloc (.cells #[.int .i64 m0.op, .int .i64 m0.id, .slice Am0 nm0 cm0] 24)).cell? ⟨WA.heap.size, 0, none⟩ = some (.int .i64 0) := (XP1.cell 0).trans rfl
      have pk1 : (v0b.alloc (.cells #[.int .i64 m0.op, .int .i64 m0.id, .slice Am0 nm0 cm0] 24)).cell? ⟨WA.heap.size, 1, none⟩ = some (.int .i64 1) := (XP1.cell 1).trans rfl
      have pk2 : (v0b.alloc (.cells #[.int .i64 m0.op, .int .i64 m0.id, .slice Am0 nm0 cm0] 24)).cell? ⟨WA.heap.size, 2, none⟩ = some (.int .i64 256) := (XP1.cell 2).trans rfl
      have pk3 : (v0b.alloc (.cells #[.int .i64 m0.op, .int .i64 m0.id, .slice Am0 nm0 cm0] 24)).cell? ⟨WA.heap.size, 3, none⟩ = some (.int .i64 1) := (XP1.cell 3).trans rfl
      have pk4 : (v0b.alloc (.cells #[.int .i64 m0.op, .int .i64 m0.id, .slice Am0 nm0 cm0] 24)).cell? ⟨WA.heap.size, 4, none⟩ = some (.int .i64 0) := (XP1.cell 4).trans rfl
      have pk5 : (v0b.alloc (.cells #[.int .i64 m0.op, .int .i64 m0.id, .slice Am0 nm0 cm0] 24)).cell? ⟨WA.heap.size, 5, none⟩ = some (.int .i64 0) := (XP1.cell 5).trans rfl
      have pk6 : (v0b.alloc (.cells #[.int .i64 m0.op, .int .i64 m0.id, .slice Am0 nm0 cm0] 24)).cell? ⟨WA.heap.size, 6, none⟩ = some (.int .i64 0) := (XP1.cell 6).trans rfl
      have pk7 : (v0b.alloc (.cells #[.int .i64 m0.op, .int .i64 m0.id, .slice Am0 nm0 cm0] 24)).cell? ⟨WA.heap.size, 7, none⟩ = some (.int .i64 0) := (XP1.cell 7).trans rfl
      have pk8 : (v0b.alloc (.cells #[.int .i64 m0.op, .int .i64 m0.id, .slice Am0 nm0 cm0] 24)).cell? ⟨WA.heap.size, 8, none⟩ = some (.string ⟨#[]⟩) := (XP1.cell 8).trans rfl
      have pk9 : (v0b.alloc (.cells #[.int .i64 m0.op, .int .i64 m0.id, .slice Am0 nm0 cm0] 24)).cell? ⟨WA.heap.size, 9, none⟩ = some (.slice none 0 0) := (XP1.cell 9).trans rfl
      go_wp2_with fail
      refine (cas1 _).mono ?_
      rintro e v1a ⟨rfl, ga1⟩
      go_wp2_with fail
      refine (cen1 _).mono ?_
      rintro e v1b ⟨dd1, rfl, ss1, gb1⟩
      obtain ⟨Am1, cm1, rfl, _⟩ := ss1
      dsimp only
      generalize m1.body.length = nm1 at *
      clear pk0 pk1 pk2 pk3 pk4 pk5 pk6 pk7 pk8 pk9
      have XU2 := ((XU1.gr ga1).bl gb1).alloc (.cells #[.int .i64 m1.op, .int .i64 m1.id, .slice Am1 nm1 cm1] 24)
      have GW2 := ((GW1.gr ga1).trans gb1).alloc (.cells #[.int .i64 m1.op, .int .i64 m1.id, .slice Am1 nm1 cm1] 24)
      have uk0 : (v1b.alloc (.cells #[.int .i64 m1.op, .int .i64 m1.id, .slice Am1 nm1 cm1] 24)).cell? ⟨WA.heap.size + 1, 0, none⟩ = some (.int .i64 0) := (XU2.cell 0).trans rfl
      have uk1 : (v1b.alloc (.cells #[.int .i64 m1.op, .int .i64 m1.id, .slice Am1 nm1 cm1] 24)).cell? ⟨WA.heap.size + 1, 1, none⟩ = some (.int .i64 1) := (XU2.cell 1).trans rfl
      have uk2 : (v1b.alloc (.cells #[.int .i64 m1.op, .int .i64 m1.id, .slice Am1 nm1 cm1] 24)).cell? ⟨WA.heap.size + 1, 2, none⟩ = some (.int .i64 257) := (XU2.cell 2).trans rfl
      have uk3 : (v1b.alloc (.cells #[.int .i64 m1.op, .int .i64 m1.id, .slice Am1 nm1 cm1] 24)).cell? ⟨WA.heap.size + 1, 3, none⟩ = some (.int .i64 1) := (XU2.cell 3).trans rfl
      have uk4 : (v1b.alloc (.cells #[.int .i64 m1.op, .int .i64 m1.id, .slice Am1 nm1 cm1] 24)).cell? ⟨WA.heap.size + 1, 4, none⟩ = some (.int .i64 0) := (XU2.cell 4).trans rfl
      have uk5 : (v1b.alloc (.cells #[.int .i64 m1.op, .int .i64 m1.id, .slice Am1 nm1 cm1] 24)).cell? ⟨WA.heap.size + 1, 5, none⟩ = some (.int .i64 0) := (XU2.cell 5).trans rfl
      have uk6 : (v1b.alloc (.cells #[.int .i64 m1.op, .int .i64 m1.id, .slice Am1 nm1 cm1] 24)).cell? ⟨WA.heap.size + 1, 6, none⟩ = some (.int .i64 0) := (XU2.cell 6).trans rfl
      have uk7 : (v1b.alloc (.cells #[.int .i64 m1.op, .int .i64 m1.id, .slice Am1 nm1 cm1] 24)).cell? ⟨WA.heap.size + 1, 7, none⟩ = some (.int .i64 0) := (XU2.cell 7).trans rfl
      have uk8 : (v1b.alloc (.cells #[.int .i64 m1.op, .int .i64 m1.id, .slice Am1 nm1 cm1] 24)).cell? ⟨WA.heap.size + 1, 8, none⟩ = some (.string ⟨#[]⟩) := (XU2.cell 8).trans rfl
      have uk9 : (v1b.alloc (.cells #[.int .i64 m1.op, .int .i64 m1.id, .slice Am1 nm1 cm1] 24)).cell? ⟨WA.heap.size + 1, 9, none⟩ = some (.slice none 0 0) := (XU2.cell 9).trans rfl
      go_wp2_with fail
      refine (cas2 _).mono ?_
      rintro e v2a ⟨rfl, ga2⟩
      go_wp2_with fail
      refine (cen2 _).mono ?_
      rintro e v2b ⟨dd2, rfl, ss2, gb2⟩
      obtain ⟨Am2, cm2, rfl, _⟩ := ss2
      dsimp only
      generalize m2.body.length = nm2 at *
      clear uk0 uk1 uk2 uk3 uk4 uk5 uk6 uk7 uk8 uk9
      have GW3 := ((GW2.gr ga2).trans gb2).alloc (.cells #[.int .i64 m2.op, .int .i64 m2.id, .slice Am2 nm2 cm2] 24)
      go_wp2
      go_roundw
      case rel => exact ⟨1, by omega, by go_num, by repeat (first | with_reducible exact GW3 | with_reducible apply Bl.drew)⟩
      case measure => (simp [intOf]; try omega)
    · skip
      have Y12 := X12.bl G
      have Y13 := X13.bl G
      have Y14 := X14.bl G
      have SK : ∀ V, Bl wr V → V.cell? ⟨b12, 1, none⟩ = some (.int .i64 7) ∧ V.cell? ⟨b13, 1, none⟩ = some (.int .i64 (-1048576)) ∧ Bl wr V := fun V g => ⟨((Y12.bl g).cell 1).trans rfl, ((Y13.bl g).cell 1).trans rfl, g⟩
      replace SK := Lib.hid SK
      go_wp2
      go_region_held3 (fun V => V.cell? ⟨b12, 1, none⟩ = some (.int .i64 7) ∧ V.cell? ⟨b13, 1, none⟩ = some (.int .i64 (-1048576)) ∧ Bl wr V) ((refine SK.out _ ?_; repeat (first | with_reducible assumption | with_reducible exact Bl.refl _ | with_reducible exact (And.right (And.right (by assumption))) | with_reducible apply Bl.drew | with_reducible apply Bl.alloc))) ((fail))
      have XQ := (At.new wr #[.int .i64 7, .int .i64 1, .int .i64 (-1048576), .int .i64 (-1048576), .int .i64 0, .int .i64 0, .int .i64 0, .int .i64 0, .string ⟨#[]⟩, .slice none 0 0] 28).drew
      have GA : Bl w5 ((wr.alloc (.cells #[.int .i64 7, .int .i64 1, .int .i64 (-1048576), .int .i64 (-1048576), .int .i64 0, .int .i64 0, .int .i64 0, .int .i64 0, .string ⟨#[]⟩, .slice none 0 0] 28)).drew) := (G.alloc _).drew
      generalize (wr.alloc (.cells #[.int .i64 7, .int .i64 1, .int .i64 (-1048576), .int .i64 (-1048576), .int .i64 0, .int .i64 0, .int .i64 0, .int .i64 0, .string ⟨#[]⟩, .slice none 0 0] 28)).drew = WA at *
      generalize wr.heap.size = bq at *
      have qk0 : (WA).cell? ⟨bq, 0, none⟩ = some (.int .i64 7) := (XQ.cell 0).trans rfl
      have qk1 : (WA).cell? ⟨bq, 1, none⟩ = some (.int .i64 1) := (XQ.cell 1).trans rfl
      have qk2 : (WA).cell? ⟨bq, 2, none⟩ = some (.int .i64 (-1048576)) := (XQ.cell 2).trans rfl
      have qk3 : (WA).cell? ⟨bq, 3, none⟩ = some (.int .i64 (-1048576)) := (XQ.cell 3).trans rfl
      have qk4 : (WA).cell? ⟨bq, 4, none⟩ = some (.int .i64 0) := (XQ.cell 4).trans rfl
      have qk5 : (WA).cell? ⟨bq, 5, none⟩ = some (.int .i64 0) := (XQ.cell 5).trans rfl
      have qk6 : (WA).cell? ⟨bq, 6, none⟩ = some (.int .i64 0) := (XQ.cell 6).trans rfl
      have qk7 : (WA).cell? ⟨bq, 7, none⟩ = some (.int .i64 0) := (XQ.cell 7).trans rfl
      have qk8 : (WA).cell? ⟨bq, 8, none⟩ = some (.string ⟨#[]⟩) := (XQ.cell 8).trans rfl
      have qk9 : (WA).cell? ⟨bq, 9, none⟩ = some (.slice none 0 0) := (XQ.cell 9).trans rfl
      have t14a : (WA.alloc (.cells #[.int .i64 7, .int .i64 1, .int .i64 (-1048576), .int .i64 (-1048576), .int .i64 0, .int .i64 0, .int .i64 0, .int .i64 0, .string ⟨#[]⟩, .slice none 0 0] 28)).cell? ⟨b14, 1, none⟩ = some (.int .i64 1048576) := (((X14.bl GA).alloc _).cell 1).trans rfl
      have rk0 : ((WA.alloc (.cells #[.int .i64 7, .int .i64 1, .int .i64 1048576, .int .i64 (-1048576), .int .i64 0, .int .i64 0, .int .i64 0, .int .i64 0, .string ⟨#[]⟩, .slice none 0 0] 28))).cell? ⟨bq, 0, none⟩ = some (.int .i64 7) := ((XQ.alloc (.cells #[.int .i64 7, .int .i64 1, .int .i64 1048576, .int .i64 (-1048576), .int .i64 0, .int .i64 0, .int .i64 0, .int .i64 0, .string ⟨#[]⟩, .slice none 0 0] 28)).cell 0).trans rfl
      have rk1 : ((WA.alloc (.cells #[.int .i64 7, .int .i64 1, .int .i64 1048576, .int .i64 (-1048576), .int .i64 0, .int .i64 0, .int .i64 0, .int .i64 0, .string ⟨#[]⟩, .slice none 0 0] 28))).cell? ⟨bq, 1, none⟩ = some (.int .i64 1) := ((XQ.alloc (.cells #[.int .i64 7, .int .i64 1, .int .i64 1048576, .int .i64 (-1048576), .int .i64 0, .int .i64 0, .int .i64 0, .int .i64 0, .string ⟨#[]⟩, .slice none 0 0] 28)).cell 1).trans rfl
      have rk2 : ((WA.alloc (.cells #[.int .i64 7, .int .i64 1, .int .i64 1048576, .int .i64 (-1048576), .int .i64 0, .int .i64 0, .int .i64 0, .int .i64 0, .string ⟨#[]⟩, .slice none 0 0] 28))).cell? ⟨bq, 2, none⟩ = some (.int .i64 (-1048576)) := ((XQ.alloc (.cells #[.int .i64 7, .int .i64 1, .int .i64 1048576, .int .i64 (-1048576), .int .i64 0, .int .i64 0, .int .i64 0, .int .i64 0, .string ⟨#[]⟩, .slice none 0 0] 28)).cell 2).trans rfl
      have rk3 : ((WA.alloc (.cells #[.int .i64 7, .int .i64 1, .int .i64 1048576, .int .i64 (-1048576), .int .i64 0, .int .i64 0, .int .i64 0, .int .i64 0, .string ⟨#[]⟩, .slice none 0 0] 28))).cell? ⟨bq, 3, none⟩ = some (.int .i64 (-1048576)) := ((XQ.alloc (.cells #[.int .i64 7, .int .i64 1, .int .i64 1048576, .int .i64 (-1048576), .int .i64 0, .int .i64 0, .int .i64 0, .int .i64 0, .string ⟨#[]⟩, .slice none 0 0] 28)).cell 3).trans rfl
      have rk4 : ((WA.alloc (.cells #[.int .i64 7, .int .i64 1, .int .i64 1048576, .int .i64 (-1048576), .int .i64 0, .int .i64 0, .int .i64 0, .int .i64 0, .string ⟨#[]⟩, .slice none 0 0] 28))).cell? ⟨bq, 4, none⟩ = some (.int .i64 0) := ((XQ.alloc (.cells #[.int .i64 7, .int .i64 1, .int .i64 1048576, .int .i64 (-1048576), .int .i64 0, .int .i64 0, .int .i64 0, .int .i64 0, .string ⟨#[]⟩, .slice none 0 0] 28)).cell 4).trans rfl
      have rk5 : ((WA.alloc (.cells #[.int .i64 7, .int .i64 1, .int .i64 1048576, .int .i64 (-1048576), .int .i64 0, .int .i64 0, .int .i64 0, .int .i64 0, .string ⟨#[]⟩, .slice none 0 0] 28))).cell? ⟨bq, 5, none⟩ = some (.int .i64 0) := ((XQ.alloc (.cells #[.int .i64 7, .int .i64 1, .int .i64 1048576, .int .i64 (-1048576), .int .i64 0, .int .i64 0, .int .i64 0, .int .i64 0, .string ⟨#[]⟩, .slice none 0 0] 28)).cell 5).trans rfl
      have rk6 : ((WA.alloc (.cells #[.int .i64 7, .int .i64 1, .int .i64 1048576, .int .i64 (-1048576), .int .i64 0, .int .i64 0, .int .i64 0, .int .i64 0, .string ⟨#[]⟩, .slice none 0 0] 28))).cell? ⟨bq, 6, none⟩ = some (.int .i64 0) := ((XQ.alloc (.cells #[.int .i64 7, .int .i64 1, .int .i64 1048576, .int .i64 (-1048576), .int .i64 0, .int .i64 0, .int .i64 0, .int .i64 0, .string ⟨#[]⟩, .slice none 0 0] 28)).cell 6).trans rfl
      have rk7 : ((WA.alloc (.cells #[.int .i64 7, .int .i64 1, .int .i64 1048576, .int .i64 (-1048576), .int .i64 0, .int .i64 0, .int .i64 0, .int .i64 0, .string ⟨#[]⟩, .slice none 0 0] 28))).cell? ⟨bq, 7, none⟩ = some (.int .i64 0) := ((XQ.alloc (.cells #[.int .i64 7, .int .i64 1, .int .i64 1048576, .int .i64 (-1048576), .int .i64 0, .int .i64 0, .int .i64 0, .int .i64 0, .string ⟨#[]⟩, .slice none 0 0] 28)).cell 7).trans rfl
      have rk8 : ((WA.alloc (.cells #[.int .i64 7, .int .i64 1, .int .i64 1048576, .int .i64 (-1048576), .int .i64 0, .int .i64 0, .int .i64 0, .int .i64 0, .string ⟨#[]⟩, .slice none 0 0] 28))).cell? ⟨bq, 8, none⟩ = some (.string ⟨#[]⟩) := ((XQ.alloc (.cells #[.int .i64 7, .int .i64 1, .int .i64 1048576, .int .i64 (-1048576), .int .i64 0, .int .i64 0, .int .i64 0, .int .i64 0, .string ⟨#[]⟩, .slice none 0 0] 28)).cell 8).trans rfl
      have rk9 : ((WA.alloc (.cells #[.int .i64 7, .int .i64 1, .int .i64 1048576, .int .i64 (-1048576), .int .i64 0, .int .i64 0, .int .i64 0, .int .i64 0, .string ⟨#[]⟩, .slice none 0 0] 28))).cell? ⟨bq, 9, none⟩ = some (.slice none 0 0) := ((XQ.alloc (.cells #[.int .i64 7, .int .i64 1, .int .i64 1048576, .int .i64 (-1048576), .int .i64 0, .int .i64 0, .int .i64 0, .int .i64 0, .string ⟨#[]⟩, .slice none 0 0] 28)).cell 9).trans rfl
      have t14b : ((WA.alloc (.cells #[.int .i64 7, .int .i64 1, .int .i64 1048576, .int .i64 (-1048576), .int .i64 0, .int .i64 0, .int .i64 0, .int .i64 0, .string ⟨#[]⟩, .slice none 0 0] 28)).alloc (.cells #[.int .i64 7, .int .i64 1, .int .i64 (-1048576), .int .i64 (-1048576), .int .i64 0, .int .i64 0, .int .i64 0, .int .i64 0, .string ⟨#[]⟩, .slice none 0 0] 28)).cell? ⟨b14, 1, none⟩ = some (.int .i64 1048576) := ((((X14.bl GA).alloc _).alloc _).cell 1).trans rfl
      have sk0 : (((WA.alloc (.cells #[.int .i64 7, .int .i64 1, .int .i64 1048576, .int .i64 (-1048576), .int .i64 0, .int .i64 0, .int .i64 0, .int .i64 0, .string ⟨#[]⟩, .slice none 0 0] 28)).alloc (.cells #[.int .i64 7, .int .i64 1, .int .i64 1048577, .int .i64 (-1048576), .int .i64 0, .int .i64 0, .int .i64 0, .int .i64 0, .string ⟨#[]⟩, .slice none 0 0] 28))).cell? ⟨bq, 0, none⟩ = some (.int .i64 7) := (((XQ.alloc (.cells #[.int .i64 7, .int .i64 1, .int .i64 1048576, .int .i64 (-1048576), .int .i64 0, .int .i64 0, .int .i64 0, .int .i64 0, .string ⟨#[]⟩, .slice none 0 0] 28)).alloc (.cells #[.int .i64 7, .int .i64 1, .int .i64 1048577, .int .i64 (-1048576), .int .i64 0, .int .i64 0, .int .i64 0, .int .i64 0, .string ⟨#[]⟩, .slice none 0 0] 28)).cell 0).trans rfl
      have sk1 : (((WA.alloc (.cells #[.int .i64 7, .int .i64 1, .int .i64 1048576, .int .i64 (-1048576), .int .i64 0, .int .i64 0, .int .i64 0, .int .i64 0, .string ⟨#[]⟩, .slice none 0 0] 28)).alloc (.cells #[.int .i64 7, .int .i64 1, .int .i64 1048577, .int .i64 (-1048576), .int .i64 0, .int .i64 0, .int .i64 0, .int .i64 0, .string ⟨#[]⟩, .slice none 0 0] 28))).cell? ⟨bq, 1, none⟩ = some (.int .i64 1) := (((XQ.alloc (.cells #[.int .i64 7, .int .i64 1, .int .i64 1048576, .int .i64 (-1048576), .int .i64 0, .int .i64 0, .int .i64 0, .int .i64 0, .string ⟨#[]⟩, .slice none 0 0] 28)).alloc (.cells #[.int .i64 7, .int .i64 1, .int .i64 1048577, .int .i64 (-1048576), .int .i64 0, .int .i64 0, .int .i64 0, .int .i64 0, .string ⟨#[]⟩, .slice none 0 0] 28)).cell 1).trans rfl
      have sk2 : (((WA.alloc (.cells #[.int .i64 7, .int .i64 1, .int .i64 1048576, .int .i64 (-1048576), .int .i64 0, .int .i64 0, .int .i64 0, .int .i64 0, .string ⟨#[]⟩, .slice none 0 0] 28)).alloc (.cells #[.int .i64 7, .int .i64 1, .int .i64 1048577, .int .i64 (-1048576), .int .i64 0, .int .i64 0, .int .i64 0, .int .i64 0, .string ⟨#[]⟩, .slice none 0 0] 28))).cell? ⟨bq, 2, none⟩ = some (.int .i64 (-1048576)) := (((XQ.alloc (.cells #[.int .i64 7, .int .i64 1, .int .i64 1048576, .int .i64 (-1048576), .int .i64 0, .int .i64 0, .int .i64 0, .int .i64 0, .string ⟨#[]⟩, .slice none 0 0] 28)).alloc (.cells #[.int .i64 7, .int .i64 1, .int .i64 1048577, .int .i64 (-1048576), .int .i64 0, .int .i64 0, .int .i64 0, .int .i64 0, .string ⟨#[]⟩, .slice none 0 0] 28)).cell 2).trans rfl
      have sk3 : (((WA.alloc (.cells #[.int .i64 7, .int .i64 1, .int .i64 1048576, .int .i64 (-1048576), .int .i64 0, .int .i64 0, .int .i64 0, .int .i64 0, .string ⟨#[]⟩, .slice none 0 0] 28)).alloc (.cells #[.int .i64 7, .int .i64 1, .int .i64 1048577, .int .i64 (-1048576), .int .i64 0, .int .i64 0, .int .i64 0, .int .i64 0, .string ⟨#[]⟩, .slice none 0 0] 28))).cell? ⟨bq, 3, none⟩ = some (.int .i64 (-1048576)) := (((XQ.alloc (.cells #[.int .i64 7, .int .i64 1, .int .i64 1048576, .int .i64 (-1048576), .int .i64 0, .int .i64 0, .int .i64 0, .int .i64 0, .string ⟨#[]⟩, .slice none 0 0] 28)).alloc (.cells #[.int .i64 7, .int .i64 1, .int .i64 1048577, .int .i64 (-1048576), .int .i64 0, .int .i64 0, .int .i64 0, .int .i64 0, .string ⟨#[]⟩, .slice none 0 0] 28)).cell 3).trans rfl
      have sk4 : (((WA.alloc (.cells #[.int .i64 7, .int .i64 1, .int .i64 1048576, .int .i64 (-1048576), .int .i64 0, .int .i64 0, .int .i64 0, .int .i64 0, .string ⟨#[]⟩, .slice none 0 0] 28)).alloc (.cells #[.int .i64 7, .int .i64 1, .int .i64 1048577, .int .i64 (-1048576), .int .i64 0, .int .i64 0, .int .i64 0, .int .i64 0, .string ⟨#[]⟩, .slice none 0 0] 28))).cell? ⟨bq, 4, none⟩ = some (.int .i64 0) := (((XQ.alloc (.cells #[.int .i64 7, .int .i64 1, .int .i64 1048576, .int .i64 (-1048576), .int .i64 0, .int .i64 0, .int .i64 0, .int .i64 0, .string ⟨#[]⟩, .slice none 0 0] 28)).alloc (.cells #[.int .i64 7, .int .i64 1, .int .i64 1048577, .int .i64 (-1048576), .int .i64 0, .int .i64 0, .int .i64 0, .int .i64 0, .string ⟨#[]⟩, .slice none 0 0] 28)).cell 4).trans rfl
      have sk5 : (((WA.alloc (.cells #[.int .i64 7, .int .i64 1, .int .i64 1048576, .int .i64 (-1048576), .int .i64 0, .int .i64 0, .int .i64 0, .int .i64 0, .string ⟨#[]⟩, .slice none 0 0] 28)).alloc (.cells #[.int .i64 7, .int .i64 1, .int .i64 1048577, .int .i64 (-1048576), .int .i64 0, .int .i64 0, .int .i64 0, .int .i64 0, .string ⟨#[]⟩, .slice none 0 0] 28))).cell? ⟨bq, 5, none⟩ = some (.int .i64 0) := (((XQ.alloc (.cells #[.int .i64 7, .int .i64 1, .int .i64 1048576, .int .i64 (-1048576), .int .i64 0, .int .i64 0, .int .i64 0, .int .i64 0, .string ⟨#[]⟩, .slice none 0 0] 28)).alloc (.cells #[.int .i64 7, .int .i64 1, .int .i64 1048577, .int .i64 (-1048576), .int .i64 0, .int .i64 0, .int .i64 0, .int .i64 0, .string ⟨#[]⟩, .slice none 0 0] 28)).cell 5).trans rfl
      have sk6 : (((WA.alloc (.cells #[.int .i64 7, .int .i64 1, .int .i64 1048576, .int .i64 (-1048576), .int .i64 0, .int .i64 0, .int .i64 0, .int .i64 0, .string ⟨#[]⟩, .slice none 0 0] 28)).alloc (.cells #[.int .i64 7, .int .i64 1, .int .i64 1048577, .int .i64 (-1048576), .int .i64 0, .int .i64 0, .int .i64 0, .int .i64 0, .string ⟨#[]⟩, .slice none 0 0] 28))).cell? ⟨bq, 6, none⟩ = some (.int .i64 0) := (((XQ.alloc (.cells #[.int .i64 7, .int .i64 1, .int .i64 1048576, .int .i64 (-1048576), .int .i64 0, .int .i64 0, .int .i64 0, .int .i64 0, .string ⟨#[]⟩, .slice none 0 0] 28)).alloc (.cells #[.int .i64 7, .int .i64 1, .int .i64 1048577, .int .i64 (-1048576), .int .i64 0, .int .i64 0, .int .i64 0, .int .i64 0, .string ⟨#[]⟩, .slice none 0 0] 28)).cell 6).trans rfl
      have sk7 : (((WA.alloc (.cells #[.int .i64 7, .int .i64 1, .int .i64 1048576, .int .i64 (-1048576), .int .i64 0, .int .i64 0, .int .i64 0, .int .i64 0, .string ⟨#[]⟩, .slice none 0 0] 28)).alloc (.cells #[.int .i64 7, .int .i64 1, .int .i64 1048577, .int .i64 (-1048576), .int .i64 0, .int .i64 0, .int .i64 0, .int .i64 0, .string ⟨#[]⟩, .slice none 0 0] 28))).cell? ⟨bq, 7, none⟩ = some (.int .i64 0) := (((XQ.alloc (.cells #[.int .i64 7, .int .i64 1, .int .i64 1048576, .int .i64 (-1048576), .int .i64 0, .int .i64 0, .int .i64 0, .int .i64 0, .string ⟨#[]⟩, .slice none 0 0] 28)).alloc (.cells #[.int .i64 7, .int .i64 1, .int .i64 1048577, .int .i64 (-1048576), .int .i64 0, .int .i64 0, .int .i64 0, .int .i64 0, .string ⟨#[]⟩, .slice none 0 0] 28)).cell 7).trans rfl
      have sk8 : (((WA.alloc (.cells #[.int .i64 7, .int .i64 1, .int .i64 1048576, .int .i64 (-1048576), .int .i64 0, .int .i64 0, .int .i64 0, .int .i64 0, .string ⟨#[]⟩, .slice none 0 0] 28)).alloc (.cells #[.int .i64 7, .int .i64 1, .int .i64 1048577, .int .i64 (-1048576), .int .i64 0, .int .i64 0, .int .i64 0, .int .i64 0, .string ⟨#[]⟩, .slice none 0 0] 28))).cell? ⟨bq, 8, none⟩ = some (.string ⟨#[]⟩) := (((XQ.alloc (.cells #[.int .i64 7, .int .i64 1, .int .i64 1048576, .int .i64 (-1048576), .int .i64 0, .int .i64 0, .int .i64 0, .int .i64 0, .string ⟨#[]⟩, .slice none 0 0] 28)).alloc (.cells #[.int .i64 7, .int .i64 1, .int .i64 1048577, .int .i64 (-1048576), .int .i64 0, .int .i64 0, .int .i64 0, .int .i64 0, .string ⟨#[]⟩, .slice none 0 0] 28)).cell 8).trans rfl
      have sk9 : (((WA.alloc (.cells #[.int .i64 7, .int .i64 1, .int .i64 1048576, .int .i64 (-1048576), .int .i64 0, .int .i64 0, .int .i64 0, .int .i64 0, .string ⟨#[]⟩, .slice none 0 0] 28)).alloc (.cells #[.int .i64 7, .int .i64 1, .int .i64 1048577, .int .i64 (-1048576), .int .i64 0, .int .i64 0, .int .i64 0, .int .i64 0, .string ⟨#[]⟩, .slice none 0 0] 28))).cell? ⟨bq, 9, none⟩ = some (.slice none 0 0) := (((XQ.alloc (.cells #[.int .i64 7, .int .i64 1, .int .i64 1048576, .int .i64 (-1048576), .int .i64 0, .int .i64 0, .int .i64 0, .int .i64 0, .string ⟨#[]⟩, .slice none 0 0] 28)).alloc (.cells #[.int .i64 7, .int .i64 1, .int .i64 1048577, .int .i64 (-1048576), .int .i64 0, .int .i64 0, .int .i64 0, .int .i64 0, .string ⟨#[]⟩, .slice none 0 0] 28)).cell 9).trans rfl
      have cas0 := fun V => qas1 ⟨7, 1, (-1048576), (-1048576), 0, 0, 0, 0, ⟨#[]⟩, []⟩ none 0 0 V
      have cen0 := fun V => enc1 ⟨7, 1, (-1048576), (-1048576), 0, 0, 0, 0, ⟨#[]⟩, []⟩ (.slice none 0 0) V (Sv.nil _) ByL.nil
      have ee0 := enc_lo1
      generalize encR ⟨7, 1, (-1048576), (-1048576), 0, 0, 0, 0, ⟨#[]⟩, []⟩ = pe0 at *
      obtain ⟨m0, ev0⟩ := pe0
      dsimp only at ee0
      subst ee0
      have cas1 := fun V => qas1 ⟨7, 1, 1048576, (-1048576), 0, 0, 0, 0, ⟨#[]⟩, []⟩ none 0 0 V
      have cen1 := fun V => enc1 ⟨7, 1, 1048576, (-1048576), 0, 0, 0, 0, ⟨#[]⟩, []⟩ (.slice none 0 0) V (Sv.nil _) ByL.nil
      have ee1 := enc_hi1
      generalize encR ⟨7, 1, 1048576, (-1048576), 0, 0, 0, 0, ⟨#[]⟩, []⟩ = pe1 at *
      obtain ⟨m1, ev1⟩ := pe1
      dsimp only at ee1
      subst ee1
      have cas2 := fun V => qas1 ⟨7, 1, 1048577, (-1048576), 0, 0, 0, 0, ⟨#[]⟩, []⟩ none 0 0 V
      have cen2 := fun V => enc1 ⟨7, 1, 1048577, (-1048576), 0, 0, 0, 0, ⟨#[]⟩, []⟩ (.slice none 0 0) V (Sv.nil _) ByL.nil
      have ee2 := enc_out1
      generalize encR ⟨7, 1, 1048577, (-1048576), 0, 0, 0, 0, ⟨#[]⟩, []⟩ = pe2 at *
      obtain ⟨m2, ev2⟩ := pe2
      dsimp only at ee2
      subst ee2
      unfold vQ at *
      dsimp only at *
      have XP : At ((WA.alloc (.cells #[.int .i64 7, .int .i64 1, .int .i64 1048576, .int .i64 (-1048576), .int .i64 0, .int .i64 0, .int .i64 0, .int .i64 0, .string ⟨#[]⟩, .slice none 0 0] 28)).alloc (.cells #[.int .i64 7, .int .i64 1, .int .i64 1048577, .int .i64 (-1048576), .int .i64 0, .int .i64 0, .int .i64 0, .int .i64 0, .string ⟨#[]⟩, .slice none 0 0] 28)) WA.heap.size #[.int .i64 7, .int .i64 1, .int .i64 1048576, .int .i64 (-1048576), .int .i64 0, .int .i64 0, .int .i64 0, .int .i64 0, .string ⟨#[]⟩, .slice none 0 0] 28 := (At.newAt (w := WA) (n := WA.heap.size) (by simp) #[.int .i64 7, .int .i64 1, .int .i64 1048576, .int .i64 (-1048576), .int .i64 0, .int .i64 0, .int .i64 0, .int .i64 0, .string ⟨#[]⟩, .slice none 0 0] 28).alloc (.cells #[.int .i64 7, .int .i64 1, .int .i64 1048577, .int .i64 (-1048576), .int .i64 0, .int .i64 0, .int .i64 0, .int .i64 0, .string ⟨#[]⟩, .slice none 0 0] 28)
      have XU : At ((WA.alloc (.cells #[.int .i64 7, .int .i64 1, .int .i64 1048576, .int .i64 (-1048576), .int .i64 0, .int .i64 0, .int .i64 0, .int .i64 0, .string ⟨#[]⟩, .slice none 0 0] 28)).alloc (.cells #[.int .i64 7, .int .i64 1, .int .i64 1048577, .int .i64 (-1048576), .int .i64 0, .int .i64 0, .int .i64 0, .int .i64 0, .string ⟨#[]⟩, .slice none 0 0] 28)) (WA.heap.size + 1) #[.int .i64 7, .int .i64 1, .int .i64 1048577, .int .i64 (-1048576), .int .i64 0, .int .i64 0, .int .i64 0, .int .i64 0, .string ⟨#[]⟩, .slice none 0 0] 28 := At.newAt (w := (WA.alloc (.cells #[.int .i64 7, .int .i64 1, .int .i64 1048576, .int .i64 (-1048576), .int .i64 0, .int .i64 0, .int .i64 0, .int .i64 0, .string ⟨#[]⟩, .slice none 0 0] 28))) (n := WA.heap.size + 1) (by simp) #[.int .i64 7, .int .i64 1, .int .i64 1048577, .int .i64 (-1048576), .int .i64 0, .int .i64 0, .int .i64 0, .int .i64 0, .string ⟨#[]⟩, .slice none 0 0] 28
      have GW : Bl w5 ((WA.alloc (.cells #[.int .i64 7, .int .i64 1, .int .i64 1048576, .int .i64 (-1048576), .int .i64 0, .int .i64 0, .int .i64 0, .int .i64 0, .string ⟨#[]⟩, .slice none 0 0] 28)).alloc (.cells #[.int .i64 7, .int .i64 1, .int .i64 1048577, .int .i64 (-1048576), .int .i64 0, .int .i64 0, .int .i64 0, .int .i64 0, .string ⟨#[]⟩, .slice none 0 0] 28)) := (GA.alloc _).alloc _
      go_wp2_with fail
      generalize ((WA.alloc (.cells #[.int .i64 7, .int .i64 1, .int .i64 1048576, .int .i64 (-1048576), .int .i64 0, .int .i64 0, .int .i64 0, .int .i64 0, .string ⟨#[]⟩, .slice none 0 0] 28)).alloc (.cells #[.int .i64 7, .int .i64 1, .int .i64 1048577, .int .i64 (-1048576), .int .i64 0, .int .i64 0, .int .i64 0, .int .i64 0, .string ⟨#[]⟩, .slice none 0 0] 28)) = WW at *
      clear qk0 qk1 qk2 qk3 qk4 qk5 qk6 qk7 qk8 qk9 rk0 rk1 rk2 rk3 rk4 rk5 rk6 rk7 rk8 rk9 sk0 sk1 sk2 sk3 sk4 sk5 sk6 sk7 sk8 sk9 t14a t14b
      refine (cas0 _).mono ?_
      rintro e v0a ⟨rfl, ga0⟩
      go_wp2_with fail
      refine (cen0 _).mono ?_
      rintro e v0b ⟨dd0, rfl, ss0, gb0⟩
      obtain ⟨Am0, cm0, rfl, _⟩ := ss0
      dsimp only
      generalize m0.body.length = nm0 at *
      have XP1 := ((XP.gr ga0).bl gb0).alloc (.cells #[.int .i64 m0.op, .int .i64 m0.id, .slice Am0 nm0 cm0] 24)
      have XU1 := ((XU.gr ga0).bl gb0).alloc (.cells #[.int .i64 m0.op, .int .i64 m0.id, .slice Am0 nm0 cm0] 24)
      have GW1 := ((GW.gr ga0).trans gb0).alloc (.cells #[.int .i64 m0.op, .int .i64 m0.id, .slice Am0 nm0 cm0] 24)
      have pk0 : (v0b.alloc (.cells #[.int .i64 m0.op, .int .i64 m0.id, .slice Am0 nm0 cm0] 24)).cell? ⟨WA.heap.size, 0, none⟩ = some (.int .i64 7) := (XP1.cell 0).trans rfl
      have pk1 : (v0b.alloc (.cells #[.int .i64 m0.op, .int .i64 m0.id, .slice Am0 nm0 cm0] 24)).cell? ⟨WA.heap.size, 1, none⟩ = some (.int .i64 1) := (XP1.cell 1).trans rfl
      have pk2 : (v0b.alloc (.cells #[.int .i64 m0.op, .int .i64 m0.id, .slice Am0 nm0 cm0] 24)).cell? ⟨WA.heap.size, 2, none⟩ = some (.int .i64 1048576) := (XP1.cell 2).trans rfl
      have pk3 : (v0b.alloc (.cells #[.int .i64 m0.op, .int .i64 m0.id, .slice Am0 nm0 cm0] 24)).cell? ⟨WA.heap.size, 3, none⟩ = some (.int .i64 (-1048576)) := (XP1.cell 3).trans rfl
      have pk4 : (v0b.alloc (.cells #[.int .i64 m0.op, .int .i64 m0.id, .slice Am0 nm0 cm0] 24)).cell? ⟨WA.heap.size, 4, none⟩ = some (.int .i64 0) := (XP1.cell 4).trans rfl
      have pk5 : (v0b.alloc (.cells #[.int .i64 m0.op, .int .i64 m0.id, .slice Am0 nm0 cm0] 24)).cell? ⟨WA.heap.size, 5, none⟩ = some (.int .i64 0) := (XP1.cell 5).trans rfl
      have pk6 : (v0b.alloc (.cells #[.int .i64 m0.op, .int .i64 m0.id, .slice Am0 nm0 cm0] 24)).cell? ⟨WA.heap.size, 6, none⟩ = some (.int .i64 0) := (XP1.cell 6).trans rfl
      have pk7 : (v0b.alloc (.cells #[.int .i64 m0.op, .int .i64 m0.id, .slice Am0 nm0 cm0] 24)).cell? ⟨WA.heap.size, 7, none⟩ = some (.int .i64 0) := (XP1.cell 7).trans rfl
      have pk8 : (v0b.alloc (.cells #[.int .i64 m0.op, .int .i64 m0.id, .slice Am0 nm0 cm0] 24)).cell? ⟨WA.heap.size, 8, none⟩ = some (.string ⟨#[]⟩) := (XP1.cell 8).trans rfl
      have pk9 : (v0b.alloc (.cells #[.int .i64 m0.op, .int .i64 m0.id, .slice Am0 nm0 cm0] 24)).cell? ⟨WA.heap.size, 9, none⟩ = some (.slice none 0 0) := (XP1.cell 9).trans rfl
      go_wp2_with fail
      refine (cas1 _).mono ?_
      rintro e v1a ⟨rfl, ga1⟩
      go_wp2_with fail
      refine (cen1 _).mono ?_
      rintro e v1b ⟨dd1, rfl, ss1, gb1⟩
      obtain ⟨Am1, cm1, rfl, _⟩ := ss1
      dsimp only
      generalize m1.body.length = nm1 at *
      clear pk0 pk1 pk2 pk3 pk4 pk5 pk6 pk7 pk8 pk9
      have XU2 := ((XU1.gr ga1).bl gb1).alloc (.cells #[.int .i64 m1.op, .int .i64 m1.id, .slice Am1 nm1 cm1] 24)
      have GW2 := ((GW1.gr ga1).trans gb1).alloc (.cells #[.int .i64 m1.op, .int .i64 m1.id, .slice Am1 nm1 cm1] 24)
      have uk0 : (v1b.alloc (.cells #[.int .i64 m1.op, .int .i64 m1.id, .slice Am1 nm1 cm1] 24)).cell? ⟨WA.heap.size + 1, 0, none⟩ = some (.int .i64 7) := (XU2.cell 0).trans rfl
      have uk1 : (v1b.alloc (.cells #[.int .i64 m1.op, .int .i64 m1.id, .slice Am1 nm1 cm1] 24)).cell? ⟨WA.heap.size + 1, 1, none⟩ = some (.int .i64 1) := (XU2.cell 1).trans rfl
      have uk2 : (v1b.alloc (.cells #[.int .i64 m1.op, .int .i64 m1.id, .slice Am1 nm1 cm1] 24)).cell? ⟨WA.heap.size + 1, 2, none⟩ = some (.int .i64 1048577) := (XU2.cell 2).trans rfl
      have uk3 : (v1b.alloc (.cells #[.int .i64 m1.op, .int .i64 m1.id, .slice Am1 nm1 cm1] 24)).cell? ⟨WA.heap.size + 1, 3, none⟩ = some (.int .i64 (-1048576)) := (XU2.cell 3).trans rfl
      have uk4 : (v1b.alloc (.cells #[.int .i64 m1.op, .int .i64 m1.id, .slice Am1 nm1 cm1] 24)).cell? ⟨WA.heap.size + 1, 4, none⟩ = some (.int .i64 0) := (XU2.cell 4).trans rfl
      have uk5 : (v1b.alloc (.cells #[.int .i64 m1.op, .int .i64 m1.id, .slice Am1 nm1 cm1] 24)).cell? ⟨WA.heap.size + 1, 5, none⟩ = some (.int .i64 0) := (XU2.cell 5).trans rfl
      have uk6 : (v1b.alloc (.cells #[.int .i64 m1.op, .int .i64 m1.id, .slice Am1 nm1 cm1] 24)).cell? ⟨WA.heap.size + 1, 6, none⟩ = some (.int .i64 0) := (XU2.cell 6).trans rfl
      have uk7 : (v1b.alloc (.cells #[.int .i64 m1.op, .int .i64 m1.id, .slice Am1 nm1 cm1] 24)).cell? ⟨WA.heap.size + 1, 7, none⟩ = some (.int .i64 0) := (XU2.cell 7).trans rfl
      have uk8 : (v1b.alloc (.cells #[.int .i64 m1.op, .int .i64 m1.id, .slice Am1 nm1 cm1] 24)).cell? ⟨WA.heap.size + 1, 8, none⟩ = some (.string ⟨#[]⟩) := (XU2.cell 8).trans rfl
      have uk9 : (v1b.alloc (.cells #[.int .i64 m1.op, .int .i64 m1.id, .slice Am1 nm1 cm1] 24)).cell? ⟨WA.heap.size + 1, 9, none⟩ = some (.slice none 0 0) := (XU2.cell 9).trans rfl
      go_wp2_with fail
      refine (cas2 _).mono ?_
      rintro e v2a ⟨rfl, ga2⟩
      go_wp2_with fail
      refine (cen2 _).mono ?_
      rintro e v2b ⟨dd2, rfl, ss2, gb2⟩
      obtain ⟨Am2, cm2, rfl, _⟩ := ss2
      dsimp only
      generalize m2.body.length = nm2 at *
      clear uk0 uk1 uk2 uk3 uk4 uk5 uk6 uk7 uk8 uk9
      have GW3 := ((GW2.gr ga2).trans gb2).alloc (.cells #[.int .i64 m2.op, .int .i64 m2.id, .slice Am2 nm2 cm2] 24)
      go_wp2
      go_roundw
      case rel => exact ⟨2, by omega, by go_num, by repeat (first | with_reducible exact GW3 | with_reducible apply Bl.drew)⟩
      case measure => (simp [intOf]; try omega)
    · skip
      have Y12 := X12.bl G
      have Y13 := X13.bl G
      have Y14 := X14.bl G
      have SK : ∀ V, Bl wr V → V.cell? ⟨b12, 2, none⟩ = some (.int .i64 10) ∧ V.cell? ⟨b13, 2, none⟩ = some (.int .i64 1) ∧ Bl wr V := fun V g => ⟨((Y12.bl g).cell 2).trans rfl, ((Y13.bl g).cell 2).trans rfl, g⟩
      replace SK := Lib.hid SK
      go_wp2
      go_region_held3 (fun V => V.cell? ⟨b12, 2, none⟩ = some (.int .i64 10) ∧ V.cell? ⟨b13, 2, none⟩ = some (.int .i64 1) ∧ Bl wr V) ((refine SK.out _ ?_; repeat (first | with_reducible assumption | with_reducible exact Bl.refl _ | with_reducible exact (And.right (And.right (by assumption))) | with_reducible apply Bl.drew | with_reducible apply Bl.alloc))) ((fail))
      have XQ := (At.new wr #[.int .i64 10, .int .i64 1, .int .i64 1, .int .i64 1, .int .i64 0, .int .i64 0, .int .i64 0, .int .i64 0, .string ⟨#[]⟩, .slice none 0 0] 28).drew
      have GA : Bl w5 ((wr.alloc (.cells #[.int .i64 10, .int .i64 1, .int .i64 1, .int .i64 1, .int .i64 0, .int .i64 0, .int .i64 0, .int .i64 0, .string ⟨#[]⟩, .slice none 0 0] 28)).drew) := (G.alloc _).drew
      generalize (wr.alloc (.cells #[.int .i64 10, .int .i64 1, .int .i64 1, .int .i64 1, .int .i64 0, .int .i64 0, .int .i64 0, .int .i64 0, .string ⟨#[]⟩, .slice none 0 0] 28)).drew = WA at *
      generalize wr.heap.size = bq at *
      have s3 : WA.cell? ⟨bq, 3, none⟩ = some (.int .i64 1) := (XQ.cell 3).trans rfl
      have s3f : WA.frozen? ⟨bq, 3, none⟩ = false := XQ.free 3
      have XQs := XQ.put 3 (.int .i64 0)
      have XQ2 : At (WA.setCell ⟨bq, 3, none⟩ (.int .i64 0)) bq #[.int .i64 10, .int .i64 1, .int .i64 1, .int .i64 0, .int .i64 0, .int .i64 0, .int .i64 0, .int .i64 0, .string ⟨#[]⟩, .slice none 0 0] 28 := by simpa using XQs
      have GA2 : Bl w5 (WA.setCell ⟨bq, 3, none⟩ (.int .i64 0)) := GA.setCell (p := ⟨bq, 3, none⟩) hbq (.int .i64 0)
      have qk0 : ((WA.setCell ⟨bq, 3, none⟩ (.int .i64 0))).cell? ⟨bq, 0, none⟩ = some (.int .i64 10) := (XQ2.cell 0).trans rfl
      have qk1 : ((WA.setCell ⟨bq, 3, none⟩ (.int .i64 0))).cell? ⟨bq, 1, none⟩ = some (.int .i64 1) := (XQ2.cell 1).trans rfl
      have qk2 : ((WA.setCell ⟨bq, 3, none⟩ (.int .i64 0))).cell? ⟨bq, 2, none⟩ = some (.int .i64 1) := (XQ2.cell 2).trans rfl
      have qk3 : ((WA.setCell ⟨bq, 3, none⟩ (.int .i64 0))).cell? ⟨bq, 3, none⟩ = some (.int .i64 0) := (XQ2.cell 3).trans rfl
      have qk4 : ((WA.setCell ⟨bq, 3, none⟩ (.int .i64 0))).cell? ⟨bq, 4, none⟩ = some (.int .i64 0) := (XQ2.cell 4).trans rfl
      have qk5 : ((WA.setCell ⟨bq, 3, none⟩ (.int .i64 0))).cell? ⟨bq, 5, none⟩ = some (.int .i64 0) := (XQ2.cell 5).trans rfl
      have qk6 : ((WA.setCell ⟨bq, 3, none⟩ (.int .i64 0))).cell? ⟨bq, 6, none⟩ = some (.int .i64 0) := (XQ2.cell 6).trans rfl
      have qk7 : ((WA.setCell ⟨bq, 3, none⟩ (.int .i64 0))).cell? ⟨bq, 7, none⟩ = some (.int .i64 0) := (XQ2.cell 7).trans rfl
      have qk8 : ((WA.setCell ⟨bq, 3, none⟩ (.int .i64 0))).cell? ⟨bq, 8, none⟩ = some (.string ⟨#[]⟩) := (XQ2.cell 8).trans rfl
      have qk9 : ((WA.setCell ⟨bq, 3, none⟩ (.int .i64 0))).cell? ⟨bq, 9, none⟩ = some (.slice none 0 0) := (XQ2.cell 9).trans rfl
      have t14a : ((WA.setCell ⟨bq, 3, none⟩ (.int .i64 0)).alloc (.cells #[.int .i64 10, .int .i64 1, .int .i64 1, .int .i64 0, .int .i64 0, .int .i64 0, .int .i64 0, .int .i64 0, .string ⟨#[]⟩, .slice none 0 0] 28)).cell? ⟨b14, 2, none⟩ = some (.int .i64 8) := (((X14.bl GA2).alloc _).cell 2).trans rfl
      have rk0 : (((WA.setCell ⟨bq, 3, none⟩ (.int .i64 0)).alloc (.cells #[.int .i64 10, .int .i64 1, .int .i64 8, .int .i64 0, .int .i64 0, .int .i64 0, .int .i64 0, .int .i64 0, .string ⟨#[]⟩, .slice none 0 0] 28))).cell? ⟨bq, 0, none⟩ = some (.int .i64 10) := ((XQ2.alloc (.cells #[.int .i64 10, .int .i64 1, .int .i64 8, .int .i64 0, .int .i64 0, .int .i64 0, .int .i64 0, .int .i64 0, .string ⟨#[]⟩, .slice none 0 0] 28)).cell 0).trans rfl
      have rk1 : (((WA.setCell ⟨bq, 3, none⟩ (.int .i64 0)).alloc (.cells #[.int .i64 10, .int .i64 1, .int .i64 8, .int .i64 0, .int .i64 0, .int .i64 0, .int .i64 0, .int .i64 0, .string ⟨#[]⟩, .slice none 0 0] 28))).cell? ⟨bq, 1, none⟩ = some (.int .i64 1) := ((XQ2.alloc (.cells #[.int .i64 10, .int .i64 1, .int .i64 8, .int .i64 0, .int .i64 0, .int .i64 0, .int .i64 0, .int .i64 0, .string ⟨#[]⟩, .slice none 0 0] 28)).cell 1).trans rfl
      have rk2 : (((WA.setCell ⟨bq, 3, none⟩ (.int .i64 0)).alloc (.cells #[.int .i64 10, .int .i64 1, .int .i64 8, .int .i64 0, .int .i64 0, .int .i64 0, .int .i64 0, .int .i64 0, .string ⟨#[]⟩, .slice none 0 0] 28))).cell? ⟨bq, 2, none⟩ = some (.int .i64 1) := ((XQ2.alloc (.cells #[.int .i64 10, .int .i64 1, .int .i64 8, .int .i64 0, .int .i64 0, .int .i64 0, .int .i64 0, .int .i64 0, .string ⟨#[]⟩, .slice none 0 0] 28)).cell 2).trans rfl
      have rk3 : (((WA.setCell ⟨bq, 3, none⟩ (.int .i64 0)).alloc (.cells #[.int .i64 10, .int .i64 1, .int .i64 8, .int .i64 0, .int .i64 0, .int .i64 0, .int .i64 0, .int .i64 0, .string ⟨#[]⟩, .slice none 0 0] 28))).cell? ⟨bq, 3, none⟩ = some (.int .i64 0) := ((XQ2.alloc (.cells #[.int .i64 10, .int .i64 1, .int .i64 8, .int .i64 0, .int .i64 0, .int .i64 0, .int .i64 0, .int .i64 0, .string ⟨#[]⟩, .slice none 0 0] 28)).cell 3).trans rfl
      have rk4 : (((WA.setCell ⟨bq, 3, none⟩ (.int .i64 0)).alloc (.cells #[.int .i64 10, .int .i64 1, .int .i64 8, .int .i64 0, .int .i64 0, .int .i64 0, .int .i64 0, .int .i64 0, .string ⟨#[]⟩, .slice none 0 0] 28))).cell? ⟨bq, 4, none⟩ = some (.int .i64 0) := ((XQ2.alloc (.cells #[.int .i64 10, .int .i64 1, .int .i64 8, .int .i64 0, .int .i64 0, .int .i64 0, .int .i64 0, .int .i64 0, .string ⟨#[]⟩, .slice none 0 0] 28)).cell 4).trans rfl
      have rk5 : (((WA.setCell ⟨bq, 3, none⟩ (.int .i64 0)).alloc (.cells #[.int .i64 10, .int .i64 1, .int .i64 8, .int .i64 0, .int .i64 0, .int .i64 0, .int .i64 0, .int .i64 0, .string ⟨#[]⟩, .slice none 0 0] 28))).cell? ⟨bq, 5, none⟩ = some (.int .i64 0) := ((XQ2.alloc (.cells #[.int .i64 10, .int .i64 1, .int .i64 8, .int .i64 0, .int .i64 0, .int .i64 0, .int .i64 0, .int .i64 0, .string ⟨#[]⟩, .slice none 0 0] 28)).cell 5).trans rfl
      have rk6 : (((WA.setCell ⟨bq, 3, none⟩ (.int .i64 0)).alloc (.cells #[.int .i64 10, .int .i64 1, .int .i64 8, .int .i64 0, .int .i64 0, .int .i64 0, .int .i64 0, .int .i64 0, .string ⟨#[]⟩, .slice none 0 0] 28))).cell? ⟨bq, 6, none⟩ = some (.int .i64 0) := ((XQ2.alloc (.cells #[.int .i64 10, .int .i64 1, .int .i64 8, .int .i64 0, .int .i64 0, .int .i64 0, .int .i64 0, .int .i64 0, .string ⟨#[]⟩, .slice none 0 0] 28)).cell 6).trans rfl
      have rk7 : (((WA.setCell ⟨bq, 3, none⟩ (.int .i64 0)).alloc (.cells #[.int .i64 10, .int .i64 1, .int .i64 8, .int .i64 0, .int .i64 0, .int .i64 0, .int .i64 0, .int .i64 0, .string ⟨#[]⟩, .slice none 0 0] 28))).cell? ⟨bq, 7, none⟩ = some (.int .i64 0) := ((XQ2.alloc (.cells #[.int .i64 10, .int .i64 1, .int .i64 8, .int .i64 0, .int .i64 0, .int .i64 0, .int .i64 0, .int .i64 0, .string ⟨#[]⟩, .slice none 0 0] 28)).cell 7).trans rfl
      have rk8 : (((WA.setCell ⟨bq, 3, none⟩ (.int .i64 0)).alloc (.cells #[.int .i64 10, .int .i64 1, .int .i64 8, .int .i64 0, .int .i64 0, .int .i64 0, .int .i64 0, .int .i64 0, .string ⟨#[]⟩, .slice none 0 0] 28))).cell? ⟨bq, 8, none⟩ = some (.string ⟨#[]⟩) := ((XQ2.alloc (.cells #[.int .i64 10, .int .i64 1, .int .i64 8, .int .i64 0, .int .i64 0, .int .i64 0, .int .i64 0, .int .i64 0, .string ⟨#[]⟩, .slice none 0 0] 28)).cell 8).trans rfl
      have rk9 : (((WA.setCell ⟨bq, 3, none⟩ (.int .i64 0)).alloc (.cells #[.int .i64 10, .int .i64 1, .int .i64 8, .int .i64 0, .int .i64 0, .int .i64 0, .int .i64 0, .int .i64 0, .string ⟨#[]⟩, .slice none 0 0] 28))).cell? ⟨bq, 9, none⟩ = some (.slice none 0 0) := ((XQ2.alloc (.cells #[.int .i64 10, .int .i64 1, .int .i64 8, .int .i64 0, .int .i64 0, .int .i64 0, .int .i64 0, .int .i64 0, .string ⟨#[]⟩, .slice none 0 0] 28)).cell 9).trans rfl
      have t14b : (((WA.setCell ⟨bq, 3, none⟩ (.int .i64 0)).alloc (.cells #[.int .i64 10, .int .i64 1, .int .i64 8, .int .i64 0, .int .i64 0, .int .i64 0, .int .i64 0, .int .i64 0, .string ⟨#[]⟩, .slice none 0 0] 28)).alloc (.cells #[.int .i64 10, .int .i64 1, .int .i64 1, .int .i64 0, .int .i64 0, .int .i64 0, .int .i64 0, .int .i64 0, .string ⟨#[]⟩, .slice none 0 0] 28)).cell? ⟨b14, 2, none⟩ = some (.int .i64 8) := ((((X14.bl GA2).alloc _).alloc _).cell 2).trans rfl
      have sk0 : ((((WA.setCell ⟨bq, 3, none⟩ (.int .i64 0)).alloc (.cells #[.int .i64 10, .int .i64 1, .int .i64 8, .int .i64 0, .int .i64 0, .int .i64 0, .int .i64 0, .int .i64 0, .string ⟨#[]⟩, .slice none 0 0] 28)).alloc (.cells #[.int .i64 10, .int .i64 1, .int .i64 9, .int .i64 0, .int .i64 0, .int .i64 0, .int .i64 0, .int .i64 0, .string ⟨#[]⟩, .slice none 0 0] 28))).cell? ⟨bq, 0, none⟩ = some (.int .i64 10) := (((XQ2.alloc (.cells #[.int .i64 10, .int .i64 1, .int .i64 8, .int .i64 0, .int .i64 0, .int .i64 0, .int .i64 0, .int .i64 0, .string ⟨#[]⟩, .slice none 0 0] 28)).alloc (.cells #[.int .i64 10, .int .i64 1, .int .i64 9, .int .i64 0, .int .i64 0, .int .i64 0, .int .i64 0, .int .i64 0, .string ⟨#[]⟩, .slice none 0 0] 28)).cell 0).trans rfl
      have sk1 : ((((WA.setCell ⟨bq, 3, none⟩ (.int .i64 0)).alloc (.cells #[.int .i64 10, .int .i64 1, .int .i64 8, .int .i64 0, .int .i64 0, .int .i64 0, .int .i64 0, .int .i64 0, .string ⟨#[]⟩, .slice none 0 0] 28)).alloc (.cells #[.int .i64 10, .int .i64 1, .int .i64 9, .int .i64 0, .int .i64 0, .int .i64 0, .int .i64 0, .int .i64 0, .string ⟨#[]⟩, .slice none 0 0] 28))).cell? ⟨bq, 1, none⟩ = some (.int .i64 1) := (((XQ2.alloc (.cells #[.int .i64 10, .int .i64 1, .int .i64 8, .int .i64 0, .int .i64 0, .int .i64 0, .int .i64 0, .int .i64 0, .string ⟨#[]⟩, .slice none 0 0] 28)).alloc (.cells #[.int .i64 10, .int .i64 1, .int .i64 9, .int .i64 0, .int .i64 0, .int .i64 0, .int .i64 0, .int .i64 0, .string ⟨#[]⟩, .slice none 0 0] 28)).cell 1).trans rfl
      have sk2 : ((((WA.setCell ⟨bq, 3, none⟩ (.int .i64 0)).alloc (.cells #[.int .i64 10, .int .i64 1, .int .i64 8, .int .i64 0, .int .i64 0, .int .i64 0, .int .i64 0, .int .i64 0, .string ⟨#[]⟩, .slice none 0 0] 28)).alloc (.cells #[.int .i64 10, .int .i64 1, .int .i64 9, .int .i64 0, .int .i64 0, .int .i64 0, .int .i64 0, .int .i64 0, .string ⟨#[]⟩, .slice none 0 0] 28))).cell? ⟨bq, 2, none⟩ = some (.int .i64 1) := (((XQ2.alloc (.cells #[.int .i64 10, .int .i64 1, .int .i64 8, .int .i64 0, .int .i64 0, .int .i64 0, .int .i64 0, .int .i64 0, .string ⟨#[]⟩, .slice none 0 0] 28)).alloc (.cells #[.int .i64 10, .int .i64 1, .int .i64 9, .int .i64 0, .int .i64 0, .int .i64 0, .int .i64 0, .int .i64 0, .string ⟨#[]⟩, .slice none 0 0] 28)).cell 2).trans rfl
      have sk3 : ((((WA.setCell ⟨bq, 3, none⟩ (.int .i64 0)).alloc (.cells #[.int .i64 10, .int .i64 1, .int .i64 8, .int .i64 0, .int .i64 0, .int .i64 0, .int .i64 0, .int .i64 0, .string ⟨#[]⟩, .slice none 0 0] 28)).alloc (.cells #[.int .i64 10, .int .i64 1, .int .i64 9, .int .i64 0, .int .i64 0, .int .i64 0, .int .i64 0, .int .i64 0, .string ⟨#[]⟩, .slice none 0 0] 28))).cell? ⟨bq, 3, none⟩ = some (.int .i64 0) := (((XQ2.alloc (.cells #[.int .i64 10, .int .i64 1, .int .i64 8, .int .i64 0, .int .i64 0, .int .i64 0, .int .i64 0, .int .i64 0, .string ⟨#[]⟩, .slice none 0 0] 28)).alloc (.cells #[.int .i64 10, .int .i64 1, .int .i64 9, .int .i64 0, .int .i64 0, .int .i64 0, .int .i64 0, .int .i64 0, .string ⟨#[]⟩, .slice none 0 0] 28)).cell 3).trans rfl
      have sk4 : ((((WA.setCell ⟨bq, 3, none⟩ (.int .i64 0)).alloc (.cells #[.int .i64 10, .int .i64 1, .int .i64 8, .int .i64 0, .int .i64 0, .int .i64 0, .int .i64 0, .int .i64 0, .string ⟨#[]⟩, .slice none 0 0] 28)).alloc (.cells #[.int .i64 10, .int .i64 1, .int .i64 9, .int .i64 0, .int .i64 0, .int .i64 0, .int .i64 0, .int .i64 0, .string ⟨#[]⟩, .slice none 0 0] 28))).cell? ⟨bq, 4, none⟩ = some (.int .i64 0) := (((XQ2.alloc (.cells #[.int .i64 10, .int .i64 1, .int .i64 8, .int .i64 0, .int .i64 0, .int .i64 0, .int .i64 0, .int .i64 0, .string ⟨#[]⟩, .slice none 0 0] 28)).alloc (.cells #[.int .i64 10, .int .i64 1, .int .i64 9, .int .i64 0, .int .i64 0, .int .i64 0, .int .i64 0, .int .i64 0, .string ⟨#[]⟩, .slice none 0 0] 28)).cell 4).trans rfl
      have sk5 : ((((WA.setCell ⟨bq, 3, none⟩ (.int .i64 0)).alloc (.cells #[.int .i64 10, .int .i64 1, .int .i64 8, .int .i64 0, .int .i64 0, .int .i64 0, .int .i64 0, .int .i64 0, .string ⟨#[]⟩, .slice none 0 0] 28)).alloc (.cells #[.int .i64 10, .int .i64 1, .int .i64 9, .int .i64 0, .int .i64 0, .int .i64 0, .int .i64 0, .int .i64 0, .string ⟨#[]⟩, .slice none 0 0] 28))).cell? ⟨bq, 5, none⟩ = some (.int .i64 0) := (((XQ2.alloc (.cells #[.int .i64 10, .int .i64 1, .int .i64 8, .int .i64 0, .int .i64 0, .int .i64 0, .int .i64 0, .int .i64 0, .string ⟨#[]⟩, .slice none 0 0] 28)).alloc (.cells #[.int .i64 10, .int .i64 1, .int .i64 9, .int .i64 0, .int .i64 0, .int .i64 0, .int .i64 0, .int .i64 0, .string ⟨#[]⟩, .slice none 0 0] 28)).cell 5).trans rfl
      have sk6 : ((((WA.setCell ⟨bq, 3, none⟩ (.int .i64 0)).alloc (.cells #[.int .i64 10, .int .i64 1, .int .i64 8, .int .i64 0, .int .i64 0, .int .i64 0, .int .i64 0, .int .i64 0, .string ⟨#[]⟩, .slice none 0 0] 28)).alloc (.cells #[.int .i64 10, .int .i64 1, .int .i64 9, .int .i64 0, .int .i64 0, .int .i64 0, .int .i64 0, .int .i64 0, .string ⟨#[]⟩, .slice none 0 0] 28))).cell? ⟨bq, 6, none⟩ = some (.int .i64 0) := (((XQ2.alloc (.cells #[.int .i64 10, .int .i64 1, .int .i64 8, .int .i64 0, .int .i64 0, .int .i64 0, .int .i64 0, .int .i64 0, .string ⟨#[]⟩, .slice none 0 0] 28)).alloc (.cells #[.int .i64 10, .int .i64 1, .int .i64 9, .int .i64 0, .int .i64 0, .int .i64 0, .int .i64 0, .int .i64 0, .string ⟨#[]⟩, .slice none 0 0] 28)).cell 6).trans rfl
      have sk7 : ((((WA.setCell ⟨bq, 3, none⟩ (.int .i64 0)).alloc (.cells #[.int .i64 10, .int .i64 1, .int .i64 8, .int .i64 0, .int .i64 0, .int .i64 0, .int .i64 0, .int .i64 0, .string ⟨#[]⟩, .slice none 0 0] 28)).alloc (.cells #[.int .i64 10, .int .i64 1, .int .i64 9, .int .i64 0, .int .i64 0, .int .i64 0, .int .i64 0, .int .i64 0, .string ⟨#[]⟩, .slice none 0 0] 28))).cell? ⟨bq, 7, none⟩ = some (.int .i64 0) := (((XQ2.alloc (.cells #[.int .i64 10, .int .i64 1, .int .i64 8, .int .i64 0, .int .i64 0, .int .i64 0, .int .i64 0, .int .i64 0, .string ⟨#[]⟩, .slice none 0 0] 28)).alloc (.cells #[.int .i64 10, .int .i64 1, .int .i64 9, .int .i64 0, .int .i64 0, .int .i64 0, .int .i64 0, .int .i64 0, .string ⟨#[]⟩, .slice none 0 0] 28)).cell 7).trans rfl
      have sk8 : ((((WA.setCell ⟨bq, 3, none⟩ (.int .i64 0)).alloc (.cells #[.int .i64 10, .int .i64 1, .int .i64 8, .int .i64 0, .int .i64 0, .int .i64 0, .int .i64 0, .int .i64 0, .string ⟨#[]⟩, .slice none 0 0] 28)).alloc (.cells #[.int .i64 10, .int .i64 1, .int .i64 9, .int .i64 0, .int .i64 0, .int .i64 0, .int .i64 0, .int .i64 0, .string ⟨#[]⟩, .slice none 0 0] 28))).cell? ⟨bq, 8, none⟩ = some (.string ⟨#[]⟩) := (((XQ2.alloc (.cells #[.int .i64 10, .int .i64 1, .int .i64 8, .int .i64 0, .int .i64 0, .int .i64 0, .int .i64 0, .int .i64 0, .string ⟨#[]⟩, .slice none 0 0] 28)).alloc (.cells #[.int .i64 10, .int .i64 1, .int .i64 9, .int .i64 0, .int .i64 0, .int .i64 0, .int .i64 0, .int .i64 0, .string ⟨#[]⟩, .slice none 0 0] 28)).cell 8).trans rfl
      have sk9 : ((((WA.setCell ⟨bq, 3, none⟩ (.int .i64 0)).alloc (.cells #[.int .i64 10, .int .i64 1, .int .i64 8, .int .i64 0, .int .i64 0, .int .i64 0, .int .i64 0, .int .i64 0, .string ⟨#[]⟩, .slice none 0 0] 28)).alloc (.cells #[.int .i64 10, .int .i64 1, .int .i64 9, .int .i64 0, .int .i64 0, .int .i64 0, .int .i64 0, .int .i64 0, .string ⟨#[]⟩, .slice none 0 0] 28))).cell? ⟨bq, 9, none⟩ = some (.slice none 0 0) := (((XQ2.alloc (.cells #[.int .i64 10, .int .i64 1, .int .i64 8, .int .i64 0, .int .i64 0, .int .i64 0, .int .i64 0, .int .i64 0, .string ⟨#[]⟩, .slice none 0 0] 28)).alloc (.cells #[.int .i64 10, .int .i64 1, .int .i64 9, .int .i64 0, .int .i64 0, .int .i64 0, .int .i64 0, .int .i64 0, .string ⟨#[]⟩, .slice none 0 0] 28)).cell 9).trans rfl
      have cas0 := fun V => qas1 ⟨10, 1, 1, 0, 0, 0, 0, 0, ⟨#[]⟩, []⟩ none 0 0 V
      have cen0 := fun V => enc1 ⟨10, 1, 1, 0, 0, 0, 0, 0, ⟨#[]⟩, []⟩ (.slice none 0 0) V (Sv.nil _) ByL.nil
      have ee0 := enc_lo2
      generalize encR ⟨10, 1, 1, 0, 0, 0, 0, 0, ⟨#[]⟩, []⟩ = pe0 at *
      obtain ⟨m0, ev0⟩ := pe0
      dsimp only at ee0
      subst ee0
      have cas1 := fun V => qas1 ⟨10, 1, 8, 0, 0, 0, 0, 0, ⟨#[]⟩, []⟩ none 0 0 V
      have cen1 := fun V => enc1 ⟨10, 1, 8, 0, 0, 0, 0, 0, ⟨#[]⟩, []⟩ (.slice none 0 0) V (Sv.nil _) ByL.nil
      have ee1 := enc_hi2
      generalize encR ⟨10, 1, 8, 0, 0, 0, 0, 0, ⟨#[]⟩, []⟩ = pe1 at *
      obtain ⟨m1, ev1⟩ := pe1
      dsimp only at ee1
      subst ee1
      have cas2 := fun V => qas1 ⟨10, 1, 9, 0, 0, 0, 0, 0, ⟨#[]⟩, []⟩ none 0 0 V
      have cen2 := fun V => enc1 ⟨10, 1, 9, 0, 0, 0, 0, 0, ⟨#[]⟩, []⟩ (.slice none 0 0) V (Sv.nil _) ByL.nil
      have ee2 := enc_out2
      generalize encR ⟨10, 1, 9, 0, 0, 0, 0, 0, ⟨#[]⟩, []⟩ = pe2 at *
      obtain ⟨m2, ev2⟩ := pe2
      dsimp only at ee2
      subst ee2
      unfold vQ at *
      dsimp only at *
      have XP : At (((WA.setCell ⟨bq, 3, none⟩ (.int .i64 0)).alloc (.cells #[.int .i64 10, .int .i64 1, .int .i64 8, .int .i64 0, .int .i64 0, .int .i64 0, .int .i64 0, .int .i64 0, .string ⟨#[]⟩, .slice none 0 0] 28)).alloc (.cells #[.int .i64 10, .int .i64 1, .int .i64 9, .int .i64 0, .int .i64 0, .int .i64 0, .int .i64 0, .int .i64 0, .string ⟨#[]⟩, .slice none 0 0] 28)) WA.heap.size #[.int .i64 10, .int .i64 1, .int .i64 8, .int .i64 0, .int .i64 0, .int .i64 0, .int .i64 0, .int .i64 0, .string ⟨#[]⟩, .slice none 0 0] 28 := (At.newAt (w := (WA.setCell ⟨bq, 3, none⟩ (.int .i64 0))) (n := WA.heap.size) (by simp) #[.int .i64 10, .int .i64 1, .int .i64 8, .int .i64 0, .int .i64 0, .int .i64 0, .int .i64 0, .int .i64 0, .string ⟨#[]⟩, .slice none 0 0] 28).alloc (.cells #[.int .i64 10, .int .i64 1, .int .i64 9, .int .i64 0, .int .i64 0, .int .i64 0, .int .i64 0, .int .i64 0, .string ⟨#[]⟩, .slice none 0 0] 28)
      have XU : At (((WA.setCell ⟨bq, 3, none⟩ (.int .i64 0)).alloc (.cells #[.int .i64 10, .int .i64 1, .int .i64 8, .int .i64 0, .int .i64 0, .int .i64 0, .int .i64 0, .int .i64 0, .string ⟨#[]⟩, .slice none 0 0] 28)).alloc (.cells #[.int .i64 10, .int .i64 1, .int .i64 9, .int .i64 0, .int .i64 0, .int .i64 0, .int .i64 0, .int .i64 0, .string ⟨#[]⟩, .slice none 0 0] 28)) (WA.heap.size + 1) #[.int .i64 10, .int .i64 1, .int .i64 9, .int .i64 0, .int .i64 0, .int .i64 0, .int .i64 0, .int .i64 0, .string ⟨#[]⟩, .slice none 0 0] 28 := At.newAt (w := ((WA.setCell ⟨bq, 3, none⟩ (.int .i64 0)).alloc (.cells #[.int .i64 10, .int .i64 1, .int .i64 8, .int .i64 0, .int .i64 0, .int .i64 0, .int .i64 0, .int .i64 0, .string ⟨#[]⟩, .slice none 0 0] 28))) (n := WA.heap.size + 1) (by simp) #[.int .i64 10, .int .i64 1, .int .i64 9, .int .i64 0, .int .i64 0, .int .i64 0, .int .i64 0, .int .i64 0, .string ⟨#[]⟩, .slice none 0 0] 28
      have GW : Bl w5 (((WA.setCell ⟨bq, 3, none⟩ (.int .i64 0)).alloc (.cells #[.int .i64 10, .int .i64 1, .int .i64 8, .int .i64 0, .int .i64 0, .int .i64 0, .int .i64 0, .int .i64 0, .string ⟨#[]⟩, .slice none 0 0] 28)).alloc (.cells #[.int .i64 10, .int .i64 1, .int .i64 9, .int .i64 0, .int .i64 0, .int .i64 0, .int .i64 0, .int .i64 0, .string ⟨#[]⟩, .slice none 0 0] 28)) := (GA2.alloc _).alloc _
      go_wp2_with fail
      generalize (((WA.setCell ⟨bq, 3, none⟩ (.int .i64 0)).alloc (.cells #[.int .i64 10, .int .i64 1, .int .i64 8, .int .i64 0, .int .i64 0, .int .i64 0, .int .i64 0, .int .i64 0, .string ⟨#[]⟩, .slice none 0 0] 28)).alloc (.cells #[.int .i64 10, .int .i64 1, .int .i64 9, .int .i64 0, .int .i64 0, .int .i64 0, .int .i64 0, .int .i64 0, .string ⟨#[]⟩, .slice none 0 0] 28)) = WW at *
      clear qk0 qk1 qk2 qk3 qk4 qk5 qk6 qk7 qk8 qk9 rk0 rk1 rk2 rk3 rk4 rk5 rk6 rk7 rk8 rk9 sk0 sk1 sk2 sk3 sk4 sk5 sk6 sk7 sk8 sk9 t14a t14b
      refine (cas0 _).mono ?_
      rintro e v0a ⟨rfl, ga0⟩
      go_wp2_with fail
      refine (cen0 _).mono ?_
      rintro e v0b ⟨dd0, rfl, ss0, gb0⟩
      obtain ⟨Am0, cm0, rfl, _⟩ := ss0
      dsimp only
      generalize m0.body.length = nm0 at *
      have XP1 := ((XP.gr ga0).bl gb0).alloc (.cells #[.int .i64 m0.op, .int .i64 m0.id, .slice Am0 nm0 cm0] 24)
      have XU1 := ((XU.gr ga0).bl gb0).alloc (.cells #[.int .i64 m0.op, .int .i64 m0.id, .slice Am0 nm0 cm0] 24)
      have GW1 := ((GW.gr ga0).trans gb0).alloc (.cells #[.int .i64 m0.op, .int .i64 m0.id, .slice Am0 nm0 cm0] 24)
      have pk0 : (v0b.alloc (.cells #[.int .i64 m0.op, .int .i64 m0.id, .slice Am0 nm0 cm0] 24)).cell? ⟨WA.heap.size, 0, none⟩ = some (.int .i64 10) := (XP1.cell 0).trans rfl
      have pk1 : (v0b.alloc (.cells #[.int .i64 m0.op, .int .i64 m0.id, .slice Am0 nm0 cm0] 24)).cell? ⟨WA.heap.size, 1, none⟩ = some (.int .i64 1) := (XP1.cell 1).trans rfl
      have pk2 : (v0b.alloc (.cells #[.int .i64 m0.op, .int .i64 m0.id, .slice Am0 nm0 cm0] 24)).cell? ⟨WA.heap.size, 2, none⟩ = some (.int .i64 8) := (XP1.cell 2).trans rfl
      have pk3 : (v0b.alloc (.cells #[.int .i64 m0.op, .int .i64 m0.id, .slice Am0 nm0 cm0] 24)).cell? ⟨WA.heap.size, 3, none⟩ = some (.int .i64 0) := (XP1.cell 3).trans rfl
      have pk4 : (v0b.alloc (.cells #[.int .i64 m0.op, .int .i64 m0.id, .slice Am0 nm0 cm0] 24)).cell? ⟨WA.heap.size, 4, none⟩ = some (.int .i64 0) := (XP1.cell 4).trans rfl
      have pk5 : (v0b.alloc (.cells #[.int .i64 m0.op, .int .i64 m0.id, .slice Am0 nm0 cm0] 24)).cell? ⟨WA.heap.size, 5, none⟩ = some (.int .i64 0) := (XP1.cell 5).trans rfl
      have pk6 : (v0b.alloc (.cells #[.int .i64 m0.op, .int .i64 m0.id, .slice Am0 nm0 cm0] 24)).cell? ⟨WA.heap.size, 6, none⟩ = some (.int .i64 0) := (XP1.cell 6).trans rfl
      have pk7 : (v0b.alloc (.cells #[.int .i64 m0.op, .int .i64 m0.id, .slice Am0 nm0 cm0] 24)).cell? ⟨WA.heap.size, 7, none⟩ = some (.int .i64 0) := (XP1.cell 7).trans rfl
      have pk8 : (v0b.alloc (.cells #[.int .i64 m0.op, .int .i64 m0.id, .slice Am0 nm0 cm0] 24)).cell? ⟨WA.heap.size, 8, none⟩ = some (.string ⟨#[]⟩) := (XP1.cell 8).trans rfl
      have pk9 : (v0b.alloc (.cells #[.int .i64 m0.op, .int .i64 m0.id, .slice Am0 nm0 cm0] 24)).cell? ⟨WA.heap.size, 9, none⟩ = some (.slice none 0 0) := (XP1.cell 9).trans rfl
      go_wp2_with fail
      refine (cas1 _).mono ?_
      rintro e v1a ⟨rfl, ga1⟩
      go_wp2_with fail
      refine (cen1 _).mono ?_
      rintro e v1b ⟨dd1, rfl, ss1, gb1⟩
      obtain ⟨Am1, cm1, rfl, _⟩ := ss1
      dsimp only
      generalize m1.body.length = nm1 at *
      clear pk0 pk1 pk2 pk3 pk4 pk5 pk6 pk7 pk8 pk9
      have XU2 := ((XU1.gr ga1).bl gb1).alloc (.cells #[.int .i64 m1.op, .int .i64 m1.id, .slice Am1 nm1 cm1] 24)
      have GW2 := ((GW1.gr ga1).trans gb1).alloc (.cells #[.int .i64 m1.op, .int .i64 m1.id, .slice Am1 nm1 cm1] 24)
      have uk0 : (v1b.alloc (.cells #[.int .i64 m1.op, .int .i64 m1.id, .slice Am1 nm1 cm1] 24)).cell? ⟨WA.heap.size + 1, 0, none⟩ = some (.int .i64 10) := (XU2.cell 0).trans rfl
      have uk1 : (v1b.alloc (.cells #[.int .i64 m1.op, .int .i64 m1.id, .slice Am1 nm1 cm1] 24)).cell? ⟨WA.heap.size + 1, 1, none⟩ = some (.int .i64 1) := (XU2.cell 1).trans rfl
      have uk2 : (v1b.alloc (.cells #[.int .i64 m1.op, .int .i64 m1.id, .slice Am1 nm1 cm1] 24)).cell? ⟨WA.heap.size + 1, 2, none⟩ = some (.int .i64 9) := (XU2.cell 2).trans rfl
      have uk3 : (v1b.alloc (.cells #[.int .i64 m1.op, .int .i64 m1.id, .slice Am1 nm1 cm1] 24)).cell? ⟨WA.heap.size + 1, 3, none⟩ = some (.int .i64 0) := (XU2.cell 3).trans rfl
      have uk4 : (v1b.alloc (.cells #[.int .i64 m1.op, .int .i64 m1.id, .slice Am1 nm1 cm1] 24)).cell? ⟨WA.heap.size + 1, 4, none⟩ = some (.int .i64 0) := (XU2.cell 4).trans rfl
      have uk5 : (v1b.alloc (.cells #[.int .i64 m1.op, .int .i64 m1.id, .slice Am1 nm1 cm1] 24)).cell? ⟨WA.heap.size + 1, 5, none⟩ = some (.int .i64 0) := (XU2.cell 5).trans rfl
      have uk6 : (v1b.alloc (.cells #[.int .i64 m1.op, .int .i64 m1.id, .slice Am1 nm1 cm1] 24)).cell? ⟨WA.heap.size + 1, 6, none⟩ = some (.int .i64 0) := (XU2.cell 6).trans rfl
      have uk7 : (v1b.alloc (.cells #[.int .i64 m1.op, .int .i64 m1.id, .slice Am1 nm1 cm1] 24)).cell? ⟨WA.heap.size + 1, 7, none⟩ = some (.int .i64 0) := (XU2.cell 7).trans rfl
      have uk8 : (v1b.alloc (.cells #[.int .i64 m1.op, .int .i64 m1.id, .slice Am1 nm1 cm1] 24)).cell? ⟨WA.heap.size + 1, 8, none⟩ = some (.string ⟨#[]⟩) := (XU2.cell 8).trans rfl
      have uk9 : (v1b.alloc (.cells #[.int .i64 m1.op, .int .i64 m1.id, .slice Am1 nm1 cm1] 24)).cell? ⟨WA.heap.size + 1, 9, none⟩ = some (.slice none 0 0) := (XU2.cell 9).trans rfl
      go_wp2_with fail
      refine (cas2 _).mono ?_
      rintro e v2a ⟨rfl, ga2⟩
      go_wp2_with fail
      refine (cen2 _).mono ?_
      rintro e v2b ⟨dd2, rfl, ss2, gb2⟩
      obtain ⟨Am2, cm2, rfl, _⟩ := ss2
      dsimp only
      generalize m2.body.length = nm2 at *
      clear uk0 uk1 uk2 uk3 uk4 uk5 uk6 uk7 uk8 uk9
      have GW3 := ((GW2.gr ga2).trans gb2).alloc (.cells #[.int .i64 m2.op, .int .i64 m2.id, .slice Am2 nm2 cm2] 24)
      go_wp2
      go_roundw
      case rel => exact ⟨3, by omega, by go_num, by repeat (first | with_reducible exact GW3 | with_reducible apply Bl.drew)⟩
      case measure => (simp [intOf]; try omega)
    · skip
      have Y12 := X12.bl G
      have Y13 := X13.bl G
      have Y14 := X14.bl G
      have SK : ∀ V, Bl wr V → V.cell? ⟨b12, 3, none⟩ = some (.int .i64 13) ∧ V.cell? ⟨b13, 3, none⟩ = some (.int .i64 0) ∧ Bl wr V := fun V g => ⟨((Y12.bl g).cell 3).trans rfl, ((Y13.bl g).cell 3).trans rfl, g⟩
      replace SK := Lib.hid SK
      go_wp2
      go_region_held3 (fun V => V.cell? ⟨b12, 3, none⟩ = some (.int .i64 13) ∧ V.cell? ⟨b13, 3, none⟩ = some (.int .i64 0) ∧ Bl wr V) ((refine SK.out _ ?_; repeat (first | with_reducible assumption | with_reducible exact Bl.refl _ | with_reducible exact (And.right (And.right (by assumption))) | with_reducible apply Bl.drew | with_reducible apply Bl.alloc))) ((fail))
      have XQ := (At.new wr #[.int .i64 13, .int .i64 1, .int .i64 0, .int .i64 0, .int .i64 0, .int .i64 0, .int .i64 0, .int .i64 0, .string ⟨#[]⟩, .slice none 0 0] 28).drew
      have GA : Bl w5 ((wr.alloc (.cells #[.int .i64 13, .int .i64 1, .int .i64 0, .int .i64 0, .int .i64 0, .int .i64 0, .int .i64 0, .int .i64 0, .string ⟨#[]⟩, .slice none 0 0] 28)).drew) := (G.alloc _).drew
      generalize (wr.alloc (.cells #[.int .i64 13, .int .i64 1, .int .i64 0, .int .i64 0, .int .i64 0, .int .i64 0, .int .i64 0, .int .i64 0, .string ⟨#[]⟩, .slice none 0 0] 28)).drew = WA at *
      generalize wr.heap.size = bq at *
      have s3 : WA.cell? ⟨bq, 3, none⟩ = some (.int .i64 0) := (XQ.cell 3).trans rfl
      have s3f : WA.frozen? ⟨bq, 3, none⟩ = false := XQ.free 3
      have XQs := XQ.put 3 (.int .i64 0)
      have XQ2 : At (WA.setCell ⟨bq, 3, none⟩ (.int .i64 0)) bq #[.int .i64 13, .int .i64 1, .int .i64 0, .int .i64 0, .int .i64 0, .int .i64 0, .int .i64 0, .int .i64 0, .string ⟨#[]⟩, .slice none 0 0] 28 := by simpa using XQs
      have GA2 : Bl w5 (WA.setCell ⟨bq, 3, none⟩ (.int .i64 0)) := GA.setCell (p := ⟨bq, 3, none⟩) hbq (.int .i64 0)
      have qk0 : ((WA.setCell ⟨bq, 3, none⟩ (.int .i64 0))).cell? ⟨bq, 0, none⟩ = some (.int .i64 13) := (XQ2.cell 0).trans rfl
      have qk1 : ((WA.setCell ⟨bq, 3, none⟩ (.int .i64 0))).cell? ⟨bq, 1, none⟩ = some (.int .i64 1) := (XQ2.cell 1).trans rfl
      have qk2 : ((WA.setCell ⟨bq, 3, none⟩ (.int .i64 0))).cell? ⟨bq, 2, none⟩ = some (.int .i64 0) := (XQ2.cell 2).trans rfl
      have qk3 : ((WA.setCell ⟨bq, 3, none⟩ (.int .i64 0))).cell? ⟨bq, 3, none⟩ = some (.int .i64 0) := (XQ2.cell 3).trans rfl
      have qk4 : ((WA.setCell ⟨bq, 3, none⟩ (.int .i64 0))).cell? ⟨bq, 4, none⟩ = some (.int .i64 0) := (XQ2.cell 4).trans rfl
      have qk5 : ((WA.setCell ⟨bq, 3, none⟩ (.int .i64 0))).cell? ⟨bq, 5, none⟩ = some (.int .i64 0) := (XQ2.cell 5).trans rfl
      have qk6 : ((WA.setCell ⟨bq, 3, none⟩ (.int .i64 0))).cell? ⟨bq, 6, none⟩ = some (.int .i64 0) := (XQ2.cell 6).trans rfl
      have qk7 : ((WA.setCell ⟨bq, 3, none⟩ (.int .i64 0))).cell? ⟨bq, 7, none⟩ = some (.int .i64 0) := (XQ2.cell 7).trans rfl
      have qk8 : ((WA.setCell ⟨bq, 3, none⟩ (.int .i64 0))).cell? ⟨bq, 8, none⟩ = some (.string ⟨#[]⟩) := (XQ2.cell 8).trans rfl
      have qk9 : ((WA.setCell ⟨bq, 3, none⟩ (.int .i64 0))).cell? ⟨bq, 9, none⟩ = some (.slice none 0 0) := (XQ2.cell 9).trans rfl
      have t14a : ((WA.setCell ⟨bq, 3, none⟩ (.int .i64 0)).alloc (.cells #[.int .i64 13, .int .i64 1, .int .i64 0, .int .i64 0, .int .i64 0, .int .i64 0, .int .i64 0, .int .i64 0, .string ⟨#[]⟩, .slice none 0 0] 28)).cell? ⟨b14, 3, none⟩ = some (.int .i64 255) := (((X14.bl GA2).alloc _).cell 3).trans rfl
      have rk0 : (((WA.setCell ⟨bq, 3, none⟩ (.int .i64 0)).alloc (.cells #[.int .i64 13, .int .i64 1, .int .i64 255, .int .i64 0, .int .i64 0, .int .i64 0, .int .i64 0, .int .i64 0, .string ⟨#[]⟩, .slice none 0 0] 28))).cell? ⟨bq, 0, none⟩ = some (.int .i64 13) := ((XQ2.alloc (.cells #[.int .i64 13, .int .i64 1, .int .i64 255, .int .i64 0, .int .i64 0, .int .i64 0, .int .i64 0, .int .i64 0, .string ⟨#[]⟩, .slice none 0 0] 28)).cell 0).trans rfl
      have rk1 : (((WA.setCell ⟨bq, 3, none⟩ (.int .i64 0)).alloc (.cells #[.int .i64 13, .int .i64 1, .int .i64 255, .int .i64 0, .int .i64 0, .int .i64 0, .int .i64 0, .int .i64 0, .string ⟨#[]⟩, .slice none 0 0] 28))).cell? ⟨bq, 1, none⟩ = some (.int .i64 1) := ((XQ2.alloc (.cells #[.int .i64 13, .int .i64 1, .int .i64 255, .int .i64 0, .int .i64 0, .int .i64 0, .int .i64 0, .int .i64 0, .string ⟨#[]⟩, .slice none 0 0] 28)).cell 1).trans rfl
      have rk2 : (((WA.setCell ⟨bq, 3, none⟩ (.int .i64 0)).alloc (.cells #[.int .i64 13, .int .i64 1, .int .i64 255, .int .i64 0, .int .i64 0, .int .i64 0, .int .i64 0, .int .i64 0, .string ⟨#[]⟩, .slice none 0 0] 28))).cell? ⟨bq, 2, none⟩ = some (.int .i64 0) := ((XQ2.alloc (.cells #[.int .i64 13, .int .i64 1, .int .i64 255, .int .i64 0, .int .i64 0, .int .i64 0, .int .i64 0, .int .i64 0, .string ⟨#[]⟩, .slice none 0 0] 28)).cell 2).trans rfl
      have rk3 : (((WA.setCell ⟨bq, 3, none⟩ (.int .i64 0)).alloc (.cells #[.int .i64 13, .int .i64 1, .int .i64 255, .int .i64 0, .int .i64 0, .int .i64 0, .int .i64 0, .int .i64 0, .string ⟨#[]⟩, .slice none 0 0] 28))).cell? ⟨bq, 3, none⟩ = some (.int .i64 0) := ((XQ2.alloc (.cells #[.int .i64 13, .int .i64 1, .int .i64 255, .int .i64 0, .int .i64 0, .int .i64 0, .int .i64 0, .int .i64 0, .string ⟨#[]⟩, .slice none 0 0] 28)).cell 3).trans rfl
      have rk4 : (((WA.setCell ⟨bq, 3, none⟩ (.int .i64 0)).alloc (.cells #[.int .i64 13, .int .i64 1, .int .i64 255, .int .i64 0, .int .i64 0, .int .i64 0, .int .i64 0, .int .i64 0, .string ⟨#[]⟩, .slice none 0 0] 28))).cell? ⟨bq, 4, none⟩ = some (.int .i64 0) := ((XQ2.alloc (.cells #[.int .i64 13, .int .i64 1, .int .i64 255, .int .i64 0, .int .i64 0, .int .i64 0, .int .i64 0, .int .i64 0, .string ⟨#[]⟩, .slice none 0 0] 28)).cell 4).trans rfl
      have rk5 : (((WA.setCell ⟨bq, 3, none⟩ (.int .i64 0)).alloc (.cells #[.int .i64 13, .int .i64 1, .int .i64 255, .int .i64 0, .int .i64 0, .int .i64 0, .int .i64 0, .int .i64 0, .string ⟨#[]⟩, .slice none 0 0] 28))).cell? ⟨bq, 5, none⟩ = some (.int .i64 0) := ((XQ2.alloc (.cells #[.int .i64 13, .int .i64 1, .int .i64 255, .int .i64 0, .int .i64 0, .int .i64 0, .int .i64 0, .int .i64 0, .string ⟨#[]⟩, .slice none 0 0] 28)).cell 5).trans rfl
      have rk6 : (((WA.setCell ⟨bq, 3, none⟩ (.int .i64 0)).alloc (.cells #[.int .i64 13, .int .i64 1, .int .i64 255, .int .i64 0, .int .i64 0, .int .i64 0, .int .i64 0, .int .i64 0, .string ⟨#[]⟩, .slice none 0 0] 28))).cell? ⟨bq, 6, none⟩ = some (.int .i64 0) := ((XQ2.alloc (.cells #[.int .i64 13, .int .i64 1, .int .i64 255, .int .i64 0, .int .i64 0, .int .i64 0, .int .i64 0, .int .i64 0, .string ⟨#[]⟩, .slice none 0 0] 28)).cell 6).trans rfl
      have rk7 : (((WA.setCell ⟨bq, 3, none⟩ (.int .i64 0)).alloc (.cells #[.int .i64 13, .int .i64 1, .int .i64 255, .int .i64 0, .int .i64 0, .int .i64 0, .int .i64 0, .int .i64 0, .string ⟨#[]⟩, .slice none 0 0] 28))).cell? ⟨bq, 7, none⟩ = some (.int .i64 0) := ((XQ2.alloc (.cells #[.int .i64 13, .int .i64 1, .int .i64 255, .int .i64 0, .int .i64 0, .int .i64 0, .int .i64 0, .int .i64 0, .string ⟨#[]⟩, .slice none 0 0] 28)).cell 7).trans rfl
      have rk8 : (((WA.setCell ⟨bq, 3, none⟩ (.int .i64 0)).alloc (.cells #[.int .i64 13, .int .i64 1, .int .i64 255, .int .i64 0, .int .i64 0, .int .i64 0, .int .i64 0, .int .i64 0, .string ⟨#[]⟩, .slice none 0 0] 28))).cell? ⟨bq, 8, none⟩ = some (.string ⟨#[]⟩) := ((XQ2.alloc (.cells #[.int .i64 13, .int .i64 1, .int .i64 255, .int .i64 0, .int .i64 0, .int .i64 0, .int .i64 0, .int .i64 0, .string ⟨#[]⟩, .slice none 0 0] 28)).cell 8).trans rfl
      have rk9 : (((WA.setCell ⟨bq, 3, none⟩ (.int .i64 0)).alloc (.cells #[.int .i64 13, .int .i64 1, .int .i64 255, .int .i64 0, .int .i64 0, .int .i64 0, .int .i64 0, .int .i64 0, .string ⟨#[]⟩, .slice none 0 0] 28))).cell? ⟨bq, 9, none⟩ = some (.slice none 0 0) := ((XQ2.alloc (.cells #[.int .i64 13, .int .i64 1, .int .i64 255, .int .i64 0, .int .i64 0, .int .i64 0, .int .i64 0, .int .i64 0, .string ⟨#[]⟩, .slice none 0 0] 28)).cell 9).trans rfl
      have t14b : (((WA.setCell ⟨bq, 3, none⟩ (.int .i64 0)).alloc (.cells #[.int .i64 13, .int .i64 1, .int .i64 255, .int .i64 0, .int .i64 0, .int .i64 0, .int .i64 0, .int .i64 0, .string ⟨#[]⟩, .slice none 0 0] 28)).alloc (.cells #[.int .i64 13, .int .i64 1, .int .i64 0, .int .i64 0, .int .i64 0, .int .i64 0, .int .i64 0, .int .i64 0, .string ⟨#[]⟩, .slice none 0 0] 28)).cell? ⟨b14, 3, none⟩ = some (.int .i64 255) := ((((X14.bl GA2).alloc _).alloc _).cell 3).trans rfl
      have sk0 : ((((WA.setCell ⟨bq, 3, none⟩ (.int .i64 0)).alloc (.cells #[.int .i64 13, .int .i64 1, .int .i64 255, .int .i64 0, .int .i64 0, .int .i64 0, .int .i64 0, .int .i64 0, .string ⟨#[]⟩, .slice none 0 0] 28)).alloc (.cells #[.int .i64 13, .int .i64 1, .int .i64 256, .int .i64 0, .int .i64 0, .int .i64 0, .int .i64 0, .int .i64 0, .string ⟨#[]⟩, .slice none 0 0] 28))).cell? ⟨bq, 0, none⟩ = some (.int .i64 13) := (((XQ2.alloc (.cells #[.int .i64 13, .int .i64 1, .int .i64 255, .int .i64 0, .int .i64 0, .int .i64 0, .int .i64 0, .int .i64 0, .string ⟨#[]⟩, .slice none 0 0] 28)).alloc (.cells #[.int .i64 13, .int .i64 1, .int .i64 256, .int .i64 0, .int .i64 0, .int .i64 0, .int .i64 0, .int .i64 0, .string ⟨#[]⟩, .slice none 0 0] 28)).cell 0).trans rfl
      have sk1 : ((((WA.setCell ⟨bq, 3, none⟩ (.int .i64 0)).alloc (.cells #[.int .i64 13, .int .i64 1, .int .i64 255, .int .i64 0, .int .i64 0, .int .i64 0, .int .i64 0, .int .i64 0, .string ⟨#[]⟩, .slice none 0 0] 28)).alloc (.cells #[.int .i64 13, .int .i64 1, .int .i64 256, .int .i64 0, .int .i64 0, .int .i64 0, .int .i64 0, .int .i64 0, .string ⟨#[]⟩, .slice none 0 0] 28))).cell? ⟨bq, 1, none⟩ = some (.int .i64 1) := (((XQ2.alloc (.cells #[.int .i64 13, .int .i64 1, .int .i64 255, .int .i64 0, .int .i64 0, .int .i64 0, .int .i64 0, .int .i64 0, .string ⟨#[]⟩, .slice none 0 0] 28)).alloc (.cells #[.int .i64 13, .int .i64 1, .int .i64 256, .int .i64 0, .int .i64 0, .int .i64 0, .int .i64 0, .int .i64 0, .string ⟨#[]⟩, .slice none 0 0] 28)).cell 1).trans rfl
      have sk2 : ((((WA.setCell ⟨bq, 3, none⟩ (.int .i64 0)).alloc (.cells #[.int .i64 13, .int .i64 1, .int .i64 255, .int .i64 0, .int .i64 0, .int .i64 0, .int .i64 0, .int .i64 0, .string ⟨#[]⟩, .slice none 0 0] 28)).alloc (.cells #[.int .i64 13, .int .i64 1, .int .i64 256, .int .i64 0, .int .i64 0, .int .i64 0, .int .i64 0, .int .i64 0, .string ⟨#[]⟩, .slice none 0 0] 28))).cell? ⟨bq, 2, none⟩ = some (.int .i64 0) := (((XQ2.alloc (.cells #[.int .i64 13, .int .i64 1, .int .i64 255, .int .i64 0, .int .i64 0, .int .i64 0, .int .i64 0, .int .i64 0, .string ⟨#[]⟩, .slice none 0 0] 28)).alloc (.cells #[.int .i64 13, .int .i64 1, .int .i64 256, .int .i64 0, .int .i64 0, .int .i64 0, .int .i64 0, .int .i64 0, .string ⟨#[]⟩, .slice none 0 0] 28)).cell 2).trans rfl
      have sk3 : ((((WA.setCell ⟨bq, 3, none⟩ (.int .i64 0)).alloc (.cells #[.int .i64 13, .int .i64 1, .int .i64 255, .int .i64 0, .int .i64 0, .int .i64 0, .int .i64 0, .int .i64 0, .string ⟨#[]⟩, .slice none 0 0] 28)).alloc (.cells #[.int .i64 13, .int .i64 1, .int .i64 256, .int .i64 0, .int .i64 0, .int .i64 0, .int .i64 0, .int .i64 0, .string ⟨#[]⟩, .slice none 0 0] 28))).cell? ⟨bq, 3, none⟩ = some (.int .i64 0) := (((XQ2.alloc (.cells #[.int .i64 13, .int .i64 1, .int .i64 255, .int .i64 0, .int .i64 0, .int .i64 0, .int .i64 0, .int .i64 0, .string ⟨#[]⟩, .slice none 0 0] 28)).alloc (.cells #[.int .i64 13, .int .i64 1, .int .i64 256, .int .i64 0, .int .i64 0, .int .i64 0, .int .i64 0, .int .i64 0, .string ⟨#[]⟩, .slice none 0 0] 28)).cell 3).trans rfl
      have sk4 : ((((WA.setCell ⟨bq, 3, none⟩ (.int .i64 0)).alloc (.cells #[.int .i64 13, .int .i64 1, .int .i64 255, .int .i64 0, .int .i64 0, .int .i64 0, .int .i64 0, .int .i64 0, .string ⟨#[]⟩, .slice none 0 0] 28)).alloc (.cells #[.int .i64 13, .int .i64 1, .int .i64 256, .int .i64 0, .int .i64 0, .int .i64 0, .int .i64 0, .int .i64 0, .string ⟨#[]⟩, .slice none 0 0] 28))).cell? ⟨bq, 4, none⟩ = some (.int .i64 0) := (((XQ2.alloc (.cells #[.int .i64 13, .int .i64 1, .int .i64 255, .int .i64 0, .int .i64 0, .int .i64 0, .int .i64 0, .int .i64 0, .string ⟨#[]⟩, .slice none 0 0] 28)).alloc (.cells #[.int .i64 13, .int .i64 1, .int .i64 256, .int .i64 0, .int .i64 0, .int .i64 0, .int .i64 0, .int .i64 0, .string ⟨#[]⟩, .slice none 0 0] 28)).cell 4).trans rfl
      have sk5 : ((((WA.setCell ⟨bq, 3, none⟩ (.int .i64 0)).alloc (.cells #[.int .i64 13, .int .i64 1, .int .i64 255, .int .i64 0, .int .i64 0, .int .i64 0, .int .i64 0, .int .i64 0, .string ⟨#[]⟩, .slice none 0 0] 28)).alloc (.cells #[.int .i64 13, .int .i64 1, .int .i64 256, .int .i64 0, .int .i64 0, .int .i64 0, .int .i64 0, .int .i64 0, .string ⟨#[]⟩, .slice none 0 0] 28))).cell? ⟨bq, 5, none⟩ = some (.int .i64 0) := (((XQ2.alloc (.cells #[.int .i64 13, .int .i64 1, .int .i64 255, .int .i64 0, .int .i64 0, .int .i64 0, .int .i64 0, .int .i64 0, .string ⟨#[]⟩, .slice none 0 0] 28)).alloc (.cells #[.int .i64 13, .int .i64 1, .int .i64 256, .int .i64 0, .int .i64 0, .int .i64 0, .int .i64 0, .int .i64 0, .string ⟨#[]⟩, .slice none 0 0] 28)).cell 5).trans rfl
      have sk6 : ((((WA.setCell ⟨bq, 3, none⟩ (.int .i64 0)).alloc (.cells #[.int .i64 13, .int .i64 1, .int .i64 255, .int .i64 0, .int .i64 0, .int .i64 0, .int .i64 0, .int .i64 0, .string ⟨#[]⟩, .slice none 0 0] 28)).alloc (.cells #[.int .i64 13, .int .i64 1, .int .i64 256, .int .i64 0, .int .i64 0, .int .i64 0, .int .i64 0, .int .i64 0, .string ⟨#[]⟩, .slice none 0 0] 28))).cell? ⟨bq, 6, none⟩ = some (.int .i64 0) := (((XQ2.alloc (.cells #[.int .i64 13, .int .i64 1, .int .i64 255, .int .i64 0, .int .i64 0, .int .i64 0, .int .i64 0, .int .i64 0, .string ⟨#[]⟩, .slice none 0 0] 28)).alloc (.cells #[.int .i64 13, .int .i64 1, .int .i64 256, .int .i64 0, .int .i64 0, .int .i64 0, .int .i64 0, .int .i64 0, .string ⟨#[]⟩, .slice none 0 0] 28)).cell 6).trans rfl
      have sk7 : ((((WA.setCell ⟨bq, 3, none⟩ (.int .i64 0)).alloc (.cells #[.int .i64 13, .int .i64 1, .int .i64 255, .int .i64 0, .int .i64 0, .int .i64 0, .int .i64 0, .int .i64 0, .string ⟨#[]⟩, .slice none 0 0] 28)).alloc (.cells #[.int .i64 13, .int .i64 1, .int .i64 256, .int .i64 0, .int .i64 0, .int .i64 0, .int .i64 0, .int .i64 0, .string ⟨#[]⟩, .slice none 0 0] 28))).cell? ⟨bq, 7, none⟩ = some (.int .i64 0) := (((XQ2.alloc (.cells #[.int .i64 13, .int .i64 1, .int .i64 255, .int .i64 0, .int .i64 0, .int .i64 0, .int .i64 0, .int .i64 0, .string ⟨#[]⟩, .slice none 0 0] 28)).alloc (.cells #[.int .i64 13, .int .i64 1, .int .i64 256, .int .i64 0, .int .i64 0, .int .i64 0, .int .i64 0, .int .i64 0, .string ⟨#[]⟩, .slice none 0 0] 28)).cell 7).trans rfl
      have sk8 : ((((WA.setCell ⟨bq, 3, none⟩ (.int .i64 0)).alloc (.cells #[.int .i64 13, .int .i64 1, .int .i64 255, .int .i64 0, .int .i64 0, .int .i64 0, .int .i64 0, .int .i64 0, .string ⟨#[]⟩, .slice none 0 0] 28)).alloc (.cells #[.int .i64 13, .int .i64 1, .int .i64 256, .int .i64 0, .int .i64 0, .int .i64 0, .int .i64 0, .int .i64 0, .string ⟨#[]⟩, .slice none 0 0] 28))).cell? ⟨bq, 8, none⟩ = some (.string ⟨#[]⟩) := (((XQ2.alloc (.cells #[.int .i64 13, .int .i64 1, .int .i64 255, .int .i64 0, .int .i64 0, .int .i64 0, .int .i64 0, .int .i64 0, .string ⟨#[]⟩, .slice none 0 0] 28)).alloc (.cells #[.int .i64 13, .int .i64 1, .int .i64 256, .int .i64 0, .int .i64 0, .int .i64 0, .int .i64 0, .int .i64 0, .string ⟨#[]⟩, .slice none 0 0] 28)).cell 8).trans rfl
      have sk9 : ((((WA.setCell ⟨bq, 3, none⟩ (.int .i64 0)).alloc (.cells #[.int .i64 13, .int .i64 1, .int .i64 255, .int .i64 0, .int .i64 0, .int .i64 0, .int .i64 0, .int .i64 0, .string ⟨#[]⟩, .slice none 0 0] 28)).alloc (.cells #[.int .i64 13, .int .i64 1, .int .i64 256, .int .i64 0, .int .i64 0, .int .i64 0, .int .i64 0, .int .i64 0, .string ⟨#[]⟩, .slice none 0 0] 28))).cell? ⟨bq, 9, none⟩ = some (.slice none 0 0) := (((XQ2.alloc (.cells #[.int .i64 13, .int .i64 1, .int .i64 255, .int .i64 0, .int .i64 0, .int .i64 0, .int .i64 0, .int .i64 0, .string ⟨#[]⟩, .slice none 0 0] 28)).alloc (.cells #[.int .i64 13, .int .i64 1, .int .i64 256, .int .i64 0, .int .i64 0, .int .i64 0, .int .i64 0, .int .i64 0, .string ⟨#[]⟩, .slice none 0 0] 28)).cell 9).trans rfl
      have cas0 := fun V => qas1 ⟨13, 1, 0, 0, 0, 0, 0, 0, ⟨#[]⟩, []⟩ none 0 0 V
      have cen0 := fun V => enc1 ⟨13, 1, 0, 0, 0, 0, 0, 0, ⟨#[]⟩, []⟩ (.slice none 0 0) V (Sv.nil _) ByL.nil
      have ee0 := enc_lo3
      generalize encR ⟨13, 1, 0, 0, 0, 0, 0, 0, ⟨#[]⟩, []⟩ = pe0 at *
      obtain ⟨m0, ev0⟩ := pe0
      dsimp only at ee0
      subst ee0
      have cas1 := fun V => qas1 ⟨13, 1, 255, 0, 0, 0, 0, 0, ⟨#[]⟩, []⟩ none 0 0 V
      have cen1 := fun V => enc1 ⟨13, 1, 255, 0, 0, 0, 0, 0, ⟨#[]⟩, []⟩ (.slice none 0 0) V (Sv.nil _) ByL.nil
      have ee1 := enc_hi3
      generalize encR ⟨13, 1, 255, 0, 0, 0, 0, 0, ⟨#[]⟩, []⟩ = pe1 at *
      obtain ⟨m1, ev1⟩ := pe1
      dsimp only at ee1
      subst ee1
      have cas2 := fun V => qas1 ⟨13, 1, 256, 0, 0, 0, 0, 0, ⟨#[]⟩, []⟩ none 0 0 V
      have cen2 := fun V => enc1 ⟨13, 1, 256, 0, 0, 0, 0, 0, ⟨#[]⟩, []⟩ (.slice none 0 0) V (Sv.nil _) ByL.nil
      have ee2 := enc_out3
      generalize encR ⟨13, 1, 256, 0, 0, 0, 0, 0, ⟨#[]⟩, []⟩ = pe2 at *
      obtain ⟨m2, ev2⟩ := pe2
      dsimp only at ee2
      subst ee2
      unfold vQ at *
      dsimp only at *
      have XP : At (((WA.setCell ⟨bq, 3, none⟩ (.int .i64 0)).alloc (.cells #[.int .i64 13, .int .i64 1, .int .i64 255, .int .i64 0, .int .i64 0, .int .i64 0, .int .i64 0, .int .i64 0, .string ⟨#[]⟩, .slice none 0 0] 28)).alloc (.cells #[.int .i64 13, .int .i64 1, .int .i64 256, .int .i64 0, .int .i64 0, .int .i64 0, .int .i64 0, .int .i64 0, .string ⟨#[]⟩, .slice none 0 0] 28)) WA.heap.size #[.int .i64 13, .int .i64 1, .int .i64 255, .int .i64 0, .int .i64 0, .int .i64 0, .int .i64 0, .int .i64 0, .string ⟨#[]⟩, .slice none 0 0] 28 := (At.newAt (w := (WA.setCell ⟨bq, 3, none⟩ (.int .i64 0))) (n := WA.heap.size) (by simp) #[.int .i64 13, .int .i64 1, .int .i64 255, .int .i64 0, .int .i64 0, .int .i64 0, .int .i64 0, .int .i64 0, .string ⟨#[]⟩, .slice none 0 0] 28).alloc (.cells #[.int .i64 13, .int .i64 1, .int .i64 256, .int .i64 0, .int .i64 0, .int .i64 0, .int .i64 0, .int .i64 0, .string ⟨#[]⟩, .slice none 0 0] 28)
      have XU : At (((WA.setCell ⟨bq, 3, none⟩ (.int .i64 0)).alloc (.cells #[.int .i64 13, .int .i64 1, .int .i64 255, .int .i64 0, .int .i64 0, .int .i64 0, .int .i64 0, .int .i64 0, .string ⟨#[]⟩, .slice none 0 0] 28)).alloc (.cells #[.int .i64 13, .int .i64 1, .int .i64 256, .int .i64 0, .int .i64 0, .int .i64 0, .int .i64 0, .int .i64 0, .string ⟨#[]⟩, .slice none 0 0] 28)) (WA.heap.size + 1) #[.int .i64 13, .int .i64 1, .int .i64 256, .int .i64 0, .int .i64 0, .int .i64 0, .int .i64 0, .int .i64 0, .string ⟨#[]⟩, .slice none 0 0] 28 := At.newAt (w := ((WA.setCell ⟨bq, 3, none⟩ (.int .i64 0)).alloc (.cells #[.int .i64 13, .int .i64 1, .int .i64 255, .int .i64 0, .int .i64 0, .int .i64 0, .int .i64 0, .int .i64 0, .string ⟨#[]⟩, .slice none 0 0] 28))) (n := WA.heap.size + 1) (by simp) #[.int .i64 13, .int .i64 1, .int .i64 256, .int .i64 0, .int .i64 0, .int .i64 0, .int .i64 0, .int .i64 0, .string ⟨#[]⟩, .slice none 0 0] 28
      have GW : Bl w5 (((WA.setCell ⟨bq, 3, none⟩ (.int .i64 0)).alloc (.cells #[.int .i64 13, .int .i64 1, .int .i64 255, .int .i64 0, .int .i64 0, .int .i64 0, .int .i64 0, .int .i64 0, .string ⟨#[]⟩, .slice none 0 0] 28)).alloc (.cells #[.int .i64 13, .int .i64 1, .int .i64 256, .int .i64 0, .int .i64 0, .int .i64 0, .int .i64 0, .int .i64 0, .string ⟨#[]⟩, .slice none 0 0] 28)) := (GA2.alloc _).alloc _
      go_wp2_with fail
      generalize (((WA.setCell ⟨bq, 3, none⟩ (.int .i64 0)).alloc (.cells #[.int .i64 13, .int .i64 1, .int .i64 255, .int .i64 0, .int .i64 0, .int .i64 0, .int .i64 0, .int .i64 0, .string ⟨#[]⟩, .slice none 0 0] 28)).alloc (.cells #[.int .i64 13, .int .i64 1, .int .i64 256, .int .i64 0, .int .i64 0, .int .i64 0, .int .i64 0, .int .i64 0, .string ⟨#[]⟩, .slice none 0 0] 28)) = WW at *
      clear qk0 qk1 qk2 qk3 qk4 qk5 qk6 qk7 qk8 qk9 rk0 rk1 rk2 rk3 rk4 rk5 rk6 rk7 rk8 rk9 sk0 sk1 sk2 sk3 sk4 sk5 sk6 sk7 sk8 sk9 t14a t14b
      refine (cas0 _).mono ?_
      rintro e v0a ⟨rfl, ga0⟩
      go_wp2_with fail
      refine (cen0 _).mono ?_
      rintro e v0b ⟨dd0, rfl, ss0, gb0⟩
      obtain ⟨Am0, cm0, rfl, _⟩ := ss0
      dsimp only
      generalize m0.body.length = nm0 at *
      have XP1 := ((XP.gr ga0).bl gb0).alloc (.cells #[.int .i64 m0.op, .int .i64 m0.id, .slice Am0 nm0 cm0] 24)
      have XU1 := ((XU.gr ga0).bl gb0).alloc (.cells #[.int .i64 m0.op, .int .i64 m0.id, .slice Am0 nm0 cm0] 24)
      have GW1 := ((GW.gr ga0).trans gb0).alloc (.cells #[.int .i64 m0.op, .int .i64 m0.id, .slice Am0 nm0 cm0] 24)
      have pk0 : (v0b.alloc (.cells #[.int .i64 m0.op, .int .i64 m0.id, .slice Am0 nm0 cm0] 24)).cell? ⟨WA.heap.size, 0, none⟩ = some (.int .i64 13) := (XP1.cell 0).trans rfl
      have pk1 : (v0b.alloc (.cells #[.int .i64 m0.op, .int .i64 m0.id, .slice Am0 nm0 cm0] 24)).cell? ⟨WA.heap.size, 1, none⟩ = some (.int .i64 1) := (XP1.cell 1).trans rfl
      have pk2 : (v0b.alloc (.cells #[.int .i64 m0.op, .int .i64 m0.id, .slice Am0 nm0 cm0] 24)).cell? ⟨WA.heap.size, 2, none⟩ = some (.int .i64 255) := (XP1.cell 2).trans rfl
      have pk3 : (v0b.alloc (.cells #[.int .i64 m0.op, .int .i64 m0.id, .slice Am0 nm0 cm0] 24)).cell? ⟨WA.heap.size, 3, none⟩ = some (.int .i64 0) := (XP1.cell 3).trans rfl
      have pk4 : (v0b.alloc (.cells #[.int .i64 m0.op, .int .i64 m0.id, .slice Am0 nm0 cm0] 24)).cell? ⟨WA.heap.size, 4, none⟩ = some (.int .i64 0) := (XP1.cell 4).trans rfl
      have pk5 : (v0b.alloc (.cells #[.int .i64 m0.op, .int .i64 m0.id, .slice Am0 nm0 cm0] 24)).cell? ⟨WA.heap.size, 5, none⟩ = some (.int .i64 0) := (XP1.cell 5).trans rfl
      have pk6 : (v0b.alloc (.cells #[.int .i64 m0.op, .int .i64 m0.id, .slice Am0 nm0 cm0] 24)).cell? ⟨WA.heap.size, 6, none⟩ = some (.int .i64 0) := (XP1.cell 6).trans rfl
      have pk7 : (v0b.alloc (.cells #[.int .i64 m0.op, .int .i64 m0.id, .slice Am0 nm0 cm0] 24)).cell? ⟨WA.heap.size, 7, none⟩ = some (.int .i64 0) := (XP1.cell 7).trans rfl
      have pk8 : (v0b.alloc (.cells #[.int .i64 m0.op, .int .i64 m0.id, .slice Am0 nm0 cm0] 24)).cell? ⟨WA.heap.size, 8, none⟩ = some (.string ⟨#[]⟩) := (XP1.cell 8).trans rfl
      have pk9 : (v0b.alloc (.cells #[.int .i64 m0.op, .int .i64 m0.id, .slice Am0 nm0 cm0] 24)).cell? ⟨WA.heap.size, 9, none⟩ = some (.slice none 0 0) := (XP1.cell 9).trans rfl
      go_wp2_with fail
      refine (cas1 _).mono ?_
      rintro e v1a ⟨rfl, ga1⟩
      go_wp2_with fail
      refine (cen1 _).mono ?_
      rintro e v1b ⟨dd1, rfl, ss1, gb1⟩
      obtain ⟨Am1, cm1, rfl, _⟩ := ss1
      dsimp only
      generalize m1.body.length = nm1 at *
      clear pk0 pk1 pk2 pk3 pk4 pk5 pk6 pk7 pk8 pk9
      have XU2 := ((XU1.gr ga1).bl gb1).alloc (.cells #[.int .i64 m1.op, .int .i64 m1.id, .slice Am1 nm1 cm1] 24)
      have GW2 := ((GW1.gr ga1).trans gb1).alloc (.cells #[.int .i64 m1.op, .int .i64 m1.id, .slice Am1 nm1 cm1] 24)
      have uk0 : (v1b.alloc (.cells #[.int .i64 m1.op, .int .i64 m1.id, .slice Am1 nm1 cm1] 24)).cell? ⟨WA.heap.size + 1, 0, none⟩ = some (.int .i64 13) := (XU2.cell 0).trans rfl
      have uk1 : (v1b.alloc (.cells #[.int .i64 m1.op, .int .i64 m1.id, .slice Am1 nm1 cm1] 24)).cell? ⟨WA.heap.size + 1, 1, none⟩ = some (.int .i64 1) := (XU2.cell 1).trans rfl
      have uk2 : (v1b.alloc (.cells #[.int .i64 m1.op, .int .i64 m1.id, .slice Am1 nm1 cm1] 24)).cell? ⟨WA.heap.size + 1, 2, none⟩ = some (.int .i64 256) := (XU2.cell 2).trans rfl
      have uk3 : (v1b.alloc (.cells #[.int .i64 m1.op, .int .i64 m1.id, .slice Am1 nm1 cm1] 24)).cell? ⟨WA.heap.size + 1, 3, none⟩ = some (.int .i64 0) := (XU2.cell 3).trans rfl
      have uk4 : (v1b.alloc (.cells #[.int .i64 m1.op, .int .i64 m1.id, .slice Am1 nm1 cm1] 24)).cell? ⟨WA.heap.size + 1, 4, none⟩ = some (.int .i64 0) := (XU2.cell 4).trans rfl
      have uk5 : (v1b.alloc (.cells #[.int .i64 m1.op, .int .i64 m1.id, .slice Am1 nm1 cm1] 24)).cell? ⟨WA.heap.size + 1, 5, none⟩ = some (.int .i64 0) := (XU2.cell 5).trans rfl
      have uk6 : (v1b.alloc (.cells #[.int .i64 m1.op, .int .i64 m1.id, .slice Am1 nm1 cm1] 24)).cell? ⟨WA.heap.size + 1, 6, none⟩ = some (.int .i64 0) := (XU2.cell 6).trans rfl
      have uk7 : (v1b.alloc (.cells #[.int .i64 m1.op, .int .i64 m1.id, .slice Am1 nm1 cm1] 24)).cell? ⟨WA.heap.size + 1, 7, none⟩ = some (.int .i64 0) := (XU2.cell 7).trans rfl
      have uk8 : (v1b.alloc (.cells #[.int .i64 m1.op, .int .i64 m1.id, .slice Am1 nm1 cm1] 24)).cell? ⟨WA.heap.size + 1, 8, none⟩ = some (.string ⟨#[]⟩) := (XU2.cell 8).trans rfl
      have uk9 : (v1b.alloc (.cells #[.int .i64 m1.op, .int .i64 m1.id, .slice Am1 nm1 cm1] 24)).cell? ⟨WA.heap.size + 1, 9, none⟩ = some (.slice none 0 0) := (XU2.cell 9).trans rfl
      go_wp2_with fail
      refine (cas2 _).mono ?_
      rintro e v2a ⟨rfl, ga2⟩
      go_wp2_with fail
      refine (cen2 _).mono ?_
      rintro e v2b ⟨dd2, rfl, ss2, gb2⟩
      obtain ⟨Am2, cm2, rfl, _⟩ := ss2
      dsimp only
      generalize m2.body.length = nm2 at *
      clear uk0 uk1 uk2 uk3 uk4 uk5 uk6 uk7 uk8 uk9
      have GW3 := ((GW2.gr ga2).trans gb2).alloc (.cells #[.int .i64 m2.op, .int .i64 m2.id, .slice Am2 nm2 cm2] 24)
      go_wp2
      go_roundw
      case rel => exact ⟨4, by omega, by go_num, by repeat (first | with_reducible exact GW3 | with_reducible apply Bl.drew)⟩
      case measure => (simp [intOf]; try omega)
    · skip
      have Y12 := X12.bl G
      have Y13 := X13.bl G
      have Y14 := X14.bl G
      have SK : ∀ V, Bl wr V → V.cell? ⟨b12, 4, none⟩ = some (.int .i64 17) ∧ V.cell? ⟨b13, 4, none⟩ = some (.int .i64 (-1048576)) ∧ Bl wr V := fun V g => ⟨((Y12.bl g).cell 4).trans rfl, ((Y13.bl g).cell 4).trans rfl, g⟩
      replace SK := Lib.hid SK
      go_wp2
      go_region_held3 (fun V => V.cell? ⟨b12, 4, none⟩ = some (.int .i64 17) ∧ V.cell? ⟨b13, 4, none⟩ = some (.int .i64 (-1048576)) ∧ Bl wr V) ((refine SK.out _ ?_; repeat (first | with_reducible assumption | with_reducible exact Bl.refl _ | with_reducible exact (And.right (And.right (by assumption))) | with_reducible apply Bl.drew | with_reducible apply Bl.alloc))) ((fail))
      have XQ := (At.new wr #[.int .i64 17, .int .i64 1, .int .i64 (-1048576), .int .i64 (-1048576), .int .i64 0, .int .i64 0, .int .i64 0, .int .i64 0, .string ⟨#[]⟩, .slice none 0 0] 28).drew
      have GA : Bl w5 ((wr.alloc (.cells #[.int .i64 17, .int .i64 1, .int .i64 (-1048576), .int .i64 (-1048576), .int .i64 0, .int .i64 0, .int .i64 0, .int .i64 0, .string ⟨#[]⟩, .slice none 0 0] 28)).drew) := (G.alloc _).drew
      generalize (wr.alloc (.cells #[.int .i64 17, .int .i64 1, .int .i64 (-1048576), .int .i64 (-1048576), .int .i64 0, .int .i64 0, .int .i64 0, .int .i64 0, .string ⟨#[]⟩, .slice none 0 0] 28)).drew = WA at *
      generalize wr.heap.size = bq at *
      have qk0 : (WA).cell? ⟨bq, 0, none⟩ = some (.int .i64 17) := (XQ.cell 0).trans rfl
      have qk1 : (WA).cell? ⟨bq, 1, none⟩ = some (.int .i64 1) := (XQ.cell 1).trans rfl
      have qk2 : (WA).cell? ⟨bq, 2, none⟩ = some (.int .i64 (-1048576)) := (XQ.cell 2).trans rfl
      have qk3 : (WA).cell? ⟨bq, 3, none⟩ = some (.int .i64 (-1048576)) := (XQ.cell 3).trans rfl
      have qk4 : (WA).cell? ⟨bq, 4, none⟩ = some (.int .i64 0) := (XQ.cell 4).trans rfl
      have qk5 : (WA).cell? ⟨bq, 5, none⟩ = some (.int .i64 0) := (XQ.cell 5).trans rfl
      have qk6 : (WA).cell? ⟨bq, 6, none⟩ = some (.int .i64 0) := (XQ.cell 6).trans rfl
      have qk7 : (WA).cell? ⟨bq, 7, none⟩ = some (.int .i64 0) := (XQ.cell 7).trans rfl
      have qk8 : (WA).cell? ⟨bq, 8, none⟩ = some (.string ⟨#[]⟩) := (XQ.cell 8).trans rfl
      have qk9 : (WA).cell? ⟨bq, 9, none⟩ = some (.slice none 0 0) := (XQ.cell 9).trans rfl
      have t14a : (WA.alloc (.cells #[.int .i64 17, .int .i64 1, .int .i64 (-1048576), .int .i64 (-1048576), .int .i64 0, .int .i64 0, .int .i64 0, .int .i64 0, .string ⟨#[]⟩, .slice none 0 0] 28)).cell? ⟨b14, 4, none⟩ = some (.int .i64 1048576) := (((X14.bl GA).alloc _).cell 4).trans rfl
      have rk0 : ((WA.alloc (.cells #[.int .i64 17, .int .i64 1, .int .i64 1048576, .int .i64 (-1048576), .int .i64 0, .int .i64 0, .int .i64 0, .int .i64 0, .string ⟨#[]⟩, .slice none 0 0] 28))).cell? ⟨bq, 0, none⟩ = some (.int .i64 17) := ((XQ.alloc (.cells #[.int .i64 17, .int .i64 1, .int .i64 1048576, .int .i64 (-1048576), .int .i64 0, .int .i64 0, .int .i64 0, .int .i64 0, .string ⟨#[]⟩, .slice none 0 0] 28)).cell 0).trans rfl
      have rk1 : ((WA.alloc (.cells #[.int .i64 17, .int .i64 1, .int .i64 1048576, .int .i64 (-1048576), .int .i64 0, .int .i64 0, .int .i64 0, .int .i64 0, .string ⟨#[]⟩, .slice none 0 0] 28))).cell? ⟨bq, 1, none⟩ = some (.int .i64 1) := ((XQ.alloc (.cells #[.int .i64 17, .int .i64 1, .int .i64 1048576, .int .i64 (-1048576), .int .i64 0, .int .i64 0, .int .i64 0, .int .i64 0, .string ⟨#[]⟩, .slice none 0 0] 28)).cell 1).trans rfl
      have rk2 : ((WA.alloc (.cells #[.int .i64 17, .int .i64 1, .int .i64 1048576, .int .i64 (-1048576), .int .i64 0, .int .i64 0, .int .i64 0, .int .i64 0, .string ⟨#[]⟩, .slice none 0 0] 28))).cell? ⟨bq, 2, none⟩ = some (.int .i64 (-1048576)) := ((XQ.alloc (.cells #[.int .i64 17, .int .i64 1, .int .i64 1048576, .int .i64 (-1048576), .int .i64 0, .int .i64 0, .int .i64 0, .int .i64 0, .string ⟨#[]⟩, .slice none 0 0] 28)).cell 2).trans rfl
      have rk3 : ((WA.alloc (.cells #[.int .i64 17, .int .i64 1, .int .i64 1048576, .int .i64 (-1048576), .int .i64 0, .int .i64 0, .int .i64 0, .int .i64 0, .string ⟨#[]⟩, .slice none 0 0] 28))).cell? ⟨bq, 3, none⟩ = some (.int .i64 (-1048576)) := ((XQ.alloc (.cells #[.int .i64 17, .int .i64 1, .int .i64 1048576, .int .i64 (-1048576), .int .i64 0, .int .i64 0, .int .i64 0, .int .i64 0, .string ⟨#[]⟩, .slice none 0 0] 28)).cell 3).trans rfl
      have rk4 : ((WA.alloc (.cells #[.int .i64 17, .int .i64 1, .int .i64 1048576, .int .i64 (-1048576), .int .i64 0, .int .i64 0, .int .i64 0, .int .i64 0, .string ⟨#[]⟩, .slice none 0 0] 28))).cell? ⟨bq, 4, none⟩ = some (.int .i64 0) := ((XQ.alloc (.cells #[.int .i64 17, .int .i64 1, .int .i64 1048576, .int .i64 (-1048576), .int .i64 0, .int .i64 0, .int .i64 0, .int .i64 0, .string ⟨#[]⟩, .slice none 0 0] 28)).cell 4).trans rfl
      have rk5 : ((WA.alloc (.cells #[.int .i64 17, .int .i64 1, .int .i64 1048576, .int .i64 (-1048576), .int .i64 0, .int .i64 0, .int .i64 0, .int .i64 0, .string ⟨#[]⟩, .slice none 0 0] 28))).cell? ⟨bq, 5, none⟩ = some (.int .i64 0) := ((XQ.alloc (.cells #[.int .i64 17, .int .i64 1, .int .i64 1048576, .int .i64 (-1048576), .int .i64 0, .int .i64 0, .int .i64 0, .int .i64 0, .string ⟨#[]⟩, .slice none 0 0] 28)).cell 5).trans rfl
      have rk6 : ((WA.alloc (.cells #[.int .i64 17, .int .i64 1, .int .i64 1048576, .int .i64 (-1048576), .int .i64 0, .int .i64 0, .int .i64 0, .int .i64 0, .string ⟨#[]⟩, .slice none 0 0] 28))).cell? ⟨bq, 6, none⟩ = some (.int .i64 0) := ((XQ.alloc (.cells #[.int .i64 17, .int .i64 1, .int .i64 1048576, .int .i64 (-1048576), .int .i64 0, .int .i64 0, .int .i64 0, .int .i64 0, .string ⟨#[]⟩, .slice none 0 0] 28)).cell 6).trans rfl
      have rk7 : ((WA.alloc (.cells #[.int .i64 17, .int .i64 1, .int .i64 1048576, .int .i64 (-1048576), .int .i64 0, .int .i64 0, .int .i64 0, .int .i64 0, .string ⟨#[]⟩, .slice none 0 0] 28))).cell? ⟨bq, 7, none⟩ = some (.int .i64 0) := ((XQ.alloc (.cells #[.int .i64 17, .int .i64 1, .int .i64 1048576, .int .i64 (-1048576), .int .i64 0, .int .i64 0, .int .i64 0, .int .i64 0, .string ⟨#[]⟩, .slice none 0 0] 28)).cell 7).trans rfl
      have rk8 : ((WA.alloc (.cells #[.int .i64 17, .int .i64 1, .int .i64 1048576, .int .i64 (-1048576), .int .i64 0, .int .i64 0, .int .i64 0, .int .i64 0, .string ⟨#[]⟩, .slice none 0 0] 28))).cell? ⟨bq, 8, none⟩ = some (.string ⟨#[]⟩) := ((XQ.alloc (.cells #[.int .i64 17, .int .i64 1, .int .i64 1048576, .int .i64 (-1048576), .int .i64 0, .int .i64 0, .int .i64 0, .int .i64 0, .string ⟨#[]⟩, .slice none 0 0] 28)).cell 8).trans rfl
      have rk9 : ((WA.alloc (.cells #[.int .i64 17, .int .i64 1, .int .i64 1048576, .int .i64 (-1048576), .int .i64 0, .int .i64 0, .int .i64 0, .int .i64 0, .string ⟨#[]⟩, .slice none 0 0] 28))).cell? ⟨bq, 9, none⟩ = some (.slice none 0 0) := ((XQ.alloc (.cells #[.int .i64 17, .int .i64 1, .int .i64 1048576, .int .i64 (-1048576), .int .i64 0, .int .i64 0, .int .i64 0, .int .i64 0, .string ⟨#[]⟩, .slice none 0 0] 28)).cell 9).trans rfl
      have t14b : ((WA.alloc (.cells #[.int .i64 17, .int .i64 1, .int .i64 1048576, .int .i64 (-1048576), .int .i64 0, .int .i64 0, .int .i64 0, .int .i64 0, .string ⟨#[]⟩, .slice none 0 0] 28)).alloc (.cells #[.int .i64 17, .int .i64 1, .int .i64 (-1048576), .int .i64 (-1048576), .int .i64 0, .int .i64 0, .int .i64 0, .int .i64 0, .string ⟨#[]⟩, .slice none 0 0] 28)).cell? ⟨b14, 4, none⟩ = some (.int .i64 1048576) := ((((X14.bl GA).alloc _).alloc _).cell 4).trans rfl
      have sk0 : (((WA.alloc (.cells #[.int .i64 17, .int .i64 1, .int .i64 1048576, .int .i64 (-1048576), .int .i64 0, .int .i64 0, .int .i64 0, .int .i64 0, .string ⟨#[]⟩, .slice none 0 0] 28)).alloc (.cells #[.int .i64 17, .int .i64 1, .int .i64 1048577, .int .i64 (-1048576), .int .i64 0, .int .i64 0, .int .i64 0, .int .i64 0, .string ⟨#[]⟩, .slice none 0 0] 28))).cell? ⟨bq, 0, none⟩ = some (.int .i64 17) := (((XQ.alloc (.cells #[.int .i64 17, .int .i64 1, .int .i64 1048576, .int .i64 (-1048576), .int .i64 0, .int .i64 0, .int .i64 0, .int .i64 0, .string ⟨#[]⟩, .slice none 0 0] 28)).alloc (.cells #[.int .i64 17, .int .i64 1, .int .i64 1048577, .int .i64 (-1048576), .int .i64 0, .int .i64 0, .int .i64 0, .int .i64 0, .string ⟨#[]⟩, .slice none 0 0] 28)).cell 0).trans rfl
      have sk1 : (((WA.alloc (.cells #[.int .i64 17, .int .i64 1, .int .i64 1048576, .int .i64 (-1048576), .int .i64 0, .int .i64 0, .int .i64 0, .int .i64 0, .string ⟨#[]⟩, .slice none 0 0] 28)).alloc (.cells #[.int .i64 17, .int .i64 1, .int .i64 1048577, .int .i64 (-1048576), .int .i64 0, .int .i64 0, .int .i64 0, .int .i64 0, .string ⟨#[]⟩, .slice none 0 0] 28))).cell? ⟨bq, 1, none⟩ = some (.int .i64 1) := (((XQ.alloc (.cells #[.int .i64 17, .int .i64 1, .int .i64 1048576, .int .i64 (-1048576), .int .i64 0, .int .i64 0, .int .i64 0, .int .i64 0, .string ⟨#[]⟩, .slice none 0 0] 28)).alloc (.cells #[.int .i64 17, .int .i64 1, .int .i64 1048577, .int .i64 (-1048576), .int .i64 0, .int .i64 0, .int .i64 0, .int .i64 0, .string ⟨#[]⟩, .slice none 0 0] 28)).cell 1).trans rfl
      have sk2 : (((WA.alloc (.cells #[.int .i64 17, .int .i64 1, .int .i64 1048576, .int .i64 (-1048576), .int .i64 0, .int .i64 0, .int .i64 0, .int .i64 0, .string ⟨#[]⟩, .slice none 0 0] 28)).alloc (.cells #[.int .i64 17, .int .i64 1, .int .i64 1048577, .int .i64 (-1048576), .int .i64 0, .int .i64 0, .int .i64 0, .int .i64 0, .string ⟨#[]⟩, .slice none 0 0] 28))).cell? ⟨bq, 2, none⟩ = some (.int .i64 (-1048576)) := (((XQ.alloc (.cells #[.int .i64 17, .int .i64 1, .int .i64 1048576, .int .i64 (-1048576), .int .i64 0, .int .i64 0, .int .i64 0, .int .i64 0, .string ⟨#[]⟩, .slice none 0 0] 28)).alloc (.cells #[.int .i64 17, .int .i64 1, .int .i64 1048577, .int .i64 (-1048576), .int .i64 0, .int .i64 0, .int .i64 0, .int .i64 0, .string ⟨#[]⟩, .slice none 0 0] 28)).cell 2).trans rfl
      have sk3 : (((WA.alloc (.cells #[.int .i64 17, .int .i64 1, .int .i64 1048576, .int .i64 (-1048576), .int .i64 0, .int .i64 0, .int .i64 0, .int .i64 0, .string ⟨#[]⟩, .slice none 0 0] 28)).alloc (.cells #[.int .i64 17, .int .i64 1, .int .i64 1048577, .int .i64 (-1048576), .int .i64 0, .int .i64 0, .int .i64 0, .int .i64 0, .string ⟨#[]⟩, .slice none 0 0] 28))).cell? ⟨bq, 3, none⟩ = some (.int .i64 (-1048576)) := (((XQ.alloc (.cells #[.int .i64 17, .int .i64 1, .int .i64 1048576, .int .i64 (-1048576), .int .i64 0, .int .i64 0, .int .i64 0, .int .i64 0, .string ⟨#[]⟩, .slice none 0 0] 28)).alloc (.cells #[.int .i64 17, .int .i64 1, .int .i64 1048577, .int .i64 (-1048576), .int .i64 0, .int .i64 0, .int .i64 0, .int .i64 0, .string ⟨#[]⟩, .slice none 0 0] 28)).cell 3).trans rfl
      have sk4 : (((WA.alloc (.cells #[.int .i64 17, .int .i64 1, .int .i64 1048576, .int .i64 (-1048576), .int .i64 0, .int .i64 0, .int .i64 0, .int .i64 0, .string ⟨#[]⟩, .slice none 0 0] 28)).alloc (.cells #[.int .i64 17, .int .i64 1, .int .i64 1048577, .int .i64 (-1048576), .int .i64 0, .int .i64 0, .int .i64 0, .int .i64 0, .string ⟨#[]⟩, .slice none 0 0] 28))).cell? ⟨bq, 4, none⟩ = some (.int .i64 0) := (((XQ.alloc (.cells #[.int .i64 17, .int .i64 1, .int .i64 1048576, .int .i64 (-1048576), .int .i64 0, .int .i64 0, .int .i64 0, .int .i64 0, .string ⟨#[]⟩, .slice none 0 0] 28)).alloc (.cells #[.int .i64 17, .int .i64 1, .int .i64 1048577, .int .i64 (-1048576), .int .i64 0, .int .i64 0, .int .i64 0, .int .i64 0, .string ⟨#[]⟩, .slice none 0 0] 28)).cell 4).trans rfl
      have sk5 : (((WA.alloc (.cells #[.int .i64 17, .int .i64 1, .int .i64 1048576, .int .i64 (-1048576), .int .i64 0, .int .i64 0, .int .i64 0, .int .i64 0, .string ⟨#[]⟩, .slice none 0 0] 28)).alloc (.cells #[.int .i64 17, .int .i64 1, .int .i64 1048577, .int .i64 (-1048576), .int .i64 0, .int .i64 0, .int .i64 0, .int .i64 0, .string ⟨#[]⟩, .slice none 0 0] 28))).cell? ⟨bq, 5, none⟩ = some (.int .i64 0) := (((XQ.alloc (.cells #[.int .i64 17, .int .i64 1, .int .i64 1048576, .int .i64 (-1048576), .int .i64 0, .int .i64 0, .int .i64 0, .int .i64 0, .string ⟨#[]⟩, .slice none 0 0] 28)).alloc (.cells #[.int .i64 17, .int .i64 1, .int .i64 1048577, .int .i64 (-1048576), .int .i64 0, .int .i64 0, .int .i64 0, .int .i64 0, .string ⟨#[]⟩, .slice none 0 0] 28)).cell 5).trans rfl
      have sk6 : (((WA.alloc (.cells #[.int .i64 17, .int .i64 1, .int .i64 1048576, .int .i64 (-1048576), .int .i64 0, .int .i64 0, .int .i64 0, .int .i64 0, .string ⟨#[]⟩, .slice none 0 0] 28)).alloc (.cells #[.int .i64 17, .int .i64 1, .int .i64 1048577, .int .i64 (-1048576), .int .i64 0, .int .i64 0, .int .i64 0, .int .i64 0, .string ⟨#[]⟩, .slice none 0 0] 28))).cell? ⟨bq, 6, none⟩ = some (.int .i64 0) := (((XQ.alloc (.cells #[.int .i64 17, .int .i64 1, .int .i64 1048576, .int .i64 (-1048576), .int .i64 0, .int .i64 0, .int .i64 0, .int .i64 0, .string ⟨#[]⟩, .slice none 0 0] 28)).alloc (.cells #[.int .i64 17, .int .i64 1, .int .i64 1048577, .int .i64 (-1048576), .int .i64 0, .int .i64 0, .int .i64 0, .int .i64 0, .string ⟨#[]⟩, .slice none 0 0] 28)).cell 6).trans rfl
      have sk7 : (((WA.alloc (.cells #[.int .i64 17, .int .i64 1, .int .i64 1048576, .int .i64 (-1048576), .int .i64 0, .int .i64 0, .int .i64 0, .int .i64 0, .string ⟨#[]⟩, .slice none 0 0] 28)).alloc (.cells #[.int .i64 17, .int .i64 1, .int .i64 1048577, .int .i64 (-1048576), .int .i64 0, .int .i64 0, .int .i64 0, .int .i64 0, .string ⟨#[]⟩, .slice none 0 0] 28))).cell? ⟨bq, 7, none⟩ = some (.int .i64 0) := (((XQ.alloc (.cells #[.int .i64 17, .int .i64 1, .int .i64 1048576, .int .i64 (-1048576), .int .i64 0, .int .i64 0, .int .i64 0, .int .i64 0, .string ⟨#[]⟩, .slice none 0 0] 28)).alloc (.cells #[.int .i64 17, .int .i64 1, .int .i64 1048577, .int .i64 (-1048576), .int .i64 0, .int .i64 0, .int .i64 0, .int .i64 0, .string ⟨#[]⟩, .slice none 0 0] 28)).cell 7).trans rfl
      have sk8 : (((WA.alloc (.cells #[.int .i64 17, .int .i64 1, .int .i64 1048576, .int .i64 (-1048576), .int .i64 0, .int .i64 0, .int .i64 0, .int .i64 0, .string ⟨#[]⟩, .slice none 0 0] 28)).alloc (.cells #[.int .i64 17, .int .i64 1, .int .i64 1048577, .int .i64 (-1048576), .int .i64 0, .int .i64 0, .int .i64 0, .int .i64 0, .string ⟨#[]⟩, .slice none 0 0] 28))).cell? ⟨bq, 8, none⟩ = some (.string ⟨#[]⟩) := (((XQ.alloc (.cells #[.int .i64 17, .int .i64 1, .int .i64 1048576, .int .i64 (-1048576), .int .i64 0, .int .i64 0, .int .i64 0, .int .i64 0, .string ⟨#[]⟩, .slice none 0 0] 28)).alloc (.cells #[.int .i64 17, .int .i64 1, .int .i64 1048577, .int .i64 (-1048576), .int .i64 0, .int .i64 0, .int .i64 0, .int .i64 0, .string ⟨#[]⟩, .slice none 0 0] 28)).cell 8).trans rfl
      have sk9 : (((WA.alloc (.cells #[.int .i64 17, .int .i64 1, .int .i64 1048576, .int .i64 (-1048576), .int .i64 0, .int .i64 0, .int .i64 0, .int .i64 0, .string ⟨#[]⟩, .slice none 0 0] 28)).alloc (.cells #[.int .i64 17, .int .i64 1, .int .i64 1048577, .int .i64 (-1048576), .int .i64 0, .int .i64 0, .int .i64 0, .int .i64 0, .string ⟨#[]⟩, .slice none 0 0] 28))).cell? ⟨bq, 9, none⟩ = some (.slice none 0 0) := (((XQ.alloc (.cells #[.int .i64 17, .int .i64 1, .int .i64 1048576, .int .i64 (-1048576), .int .i64 0, .int .i64 0, .int .i64 0, .int .i64 0, .string ⟨#[]⟩, .slice none 0 0] 28)).alloc (.cells #[.int .i64 17, .int .i64 1, .int .i64 1048577, .int .i64 (-1048576), .int .i64 0, .int .i64 0, .int .i64 0, .int .i64 0, .string ⟨#[]⟩, .slice none 0 0] 28)).cell 9).trans rfl
      have cas0 := fun V => qas1 ⟨17, 1, (-1048576), (-1048576), 0, 0, 0, 0, ⟨#[]⟩, []⟩ none 0 0 V
      have cen0 := fun V => enc1 ⟨17, 1, (-1048576), (-1048576), 0, 0, 0, 0, ⟨#[]⟩, []⟩ (.slice none 0 0) V (Sv.nil _) ByL.nil
      have ee0 := enc_lo4
      generalize encR ⟨17, 1, (-1048576), (-1048576), 0, 0, 0, 0, ⟨#[]⟩, []⟩ = pe0 at *
      obtain ⟨m0, ev0⟩ := pe0
      dsimp only at ee0
      subst ee0
      have cas1 := fun V => qas1 ⟨17, 1, 1048576, (-1048576), 0, 0, 0, 0, ⟨#[]⟩, []⟩ none 0 0 V
      have cen1 := fun V => enc1 ⟨17, 1, 1048576, (-1048576), 0, 0, 0, 0, ⟨#[]⟩, []⟩ (.slice none 0 0) V (Sv.nil _) ByL.nil
      have ee1 := enc_hi4
      generalize encR ⟨17, 1, 1048576, (-1048576), 0, 0, 0, 0, ⟨#[]⟩, []⟩ = pe1 at *
      obtain ⟨m1, ev1⟩ := pe1
      dsimp only at ee1
      subst ee1
      have cas2 := fun V => qas1 ⟨17, 1, 1048577, (-1048576), 0, 0, 0, 0, ⟨#[]⟩, []⟩ none 0 0 V
      have cen2 := fun V => enc1 ⟨17, 1, 1048577, (-1048576), 0, 0, 0, 0, ⟨#[]⟩, []⟩ (.slice none 0 0) V (Sv.nil _) ByL.nil
      have ee2 := enc_out4
      generalize encR ⟨17, 1, 1048577, (-1048576), 0, 0, 0, 0, ⟨#[]⟩, []⟩ = pe2 at *
      obtain ⟨m2, ev2⟩ := pe2
      dsimp only at ee2
      subst ee2
      unfold vQ at *
      dsimp only at *
      have XP : At ((WA.alloc (.cells #[.int .i64 17, .int .i64 1, .int .i64 1048576, .int .i64 (-1048576), .int .i64 0, .int .i64 0, .int .i64 0, .int .i64 0, .string ⟨#[]⟩, .slice none 0 0] 28)).alloc (.cells #[.int .i64 17, .int .i64 1, .int .i64 1048577, .int .i64 (-1048576), .int .i64 0, .int .i64 0, .int .i64 0, .int .i64 0, .string ⟨#[]⟩, .slice none 0 0] 28)) WA.heap.size #[.int .i64 17, .int .i64 1, .int .i64 1048576, .int .i64 (-1048576), .int .i64 0, .int .i64 0, .int .i64 0, .int .i64 0, .string ⟨#[]⟩, .slice none 0 0] 28 := (At.newAt (w := WA) (n := WA.heap.size) (by simp) #[.int .i64 17, .int .i64 1, .int .i64 1048576, .int .i64 (-1048576), .int .i64 0, .int .i64 0, .int .i64 0, .int .i64 0, .string ⟨#[]⟩, .slice none 0 0] 28).alloc (.cells #[.int .i64 17, .int .i64 1, .int .i64 1048577, .int .i64 (-1048576), .int .i64 0, .int .i64 0, .int .i64 0, .int .i64 0, .string ⟨#[]⟩, .slice none 0 0] 28)
      have XU : At ((WA.alloc (.cells #[.int .i64 17, .int .i64 1, .int .i64 1048576, .int .i64 (-1048576), .int .i64 0, .int .i64 0, .int .i64 0, .int .i64 0, .string ⟨#[]⟩, .slice none 0 0] 28)).alloc (.cells #[.int .i64 17, .int .i64 1, .int .i64 1048577, .int .i64 (-1048576), .int .i64 0, .int .i64 0, .int .i64 0, .int .i64 0, .string ⟨#[]⟩, .slice none 0 0] 28)) (WA.heap.size + 1) #[.int .i64 17, .int .i64 1, .int .i64 1048577, .int .i64 (-1048576), .int .i64 0, .int .i64 0, .int .i64 0, .int .i64 0, .string ⟨#[]⟩, .slice none 0 0] 28 := At.newAt (w := (WA.alloc (.cells #[.int .i64 17, .int .i64 1, .int .i64 1048576, .int .i64 (-1048576), .int .i64 0, .int .i64 0, .int .i64 0, .int .i64 0, .string ⟨#[]⟩, .slice none 0 0] 28))) (n := WA.heap.size + 1) (by simp) #[.int .i64 17, .int .i64 1, .int .i64 1048577, .int .i64 (-1048576), .int .i64 0, .int .i64 0, .int .i64 0, .int .i64 0, .string ⟨#[]⟩, .slice none 0 0] 28
      have GW : Bl w5 ((WA.alloc (.cells #[.int .i64 17, .int .i64 1, .int .i64 1048576, .int .i64 (-1048576), .int .i64 0, .int .i64 0, .int .i64 0, .int .i64 0, .string ⟨#[]⟩, .slice none 0 0] 28)).alloc (.cells #[.int .i64 17, .int .i64 1, .int .i64 1048577, .int .i64 (-1048576), .int .i64 0, .int .i64 0, .int .i64 0, .int .i64 0, .string ⟨#[]⟩, .slice none 0 0] 28)) := (GA.alloc _).alloc _
      go_wp2_with fail
      generalize ((WA.alloc (.cells #[.int .i64 17, .int .i64 1, .int .i64 1048576, .int .i64 (-1048576), .int .i64 0, .int .i64 0, .int .i64 0, .int .i64 0, .string ⟨#[]⟩, .slice none 0 0] 28)).alloc (.cells #[.int .i64 17, .int .i64 1, .int .i64 1048577, .int .i64 (-1048576), .int .i64 0, .int .i64 0, .int .i64 0, .int .i64 0, .string ⟨#[]⟩, .slice none 0 0] 28)) = WW at *
      clear qk0 qk1 qk2 qk3 qk4 qk5 qk6 qk7 qk8 qk9 rk0 rk1 rk2 rk3 rk4 rk5 rk6 rk7 rk8 rk9 sk0 sk1 sk2 sk3 sk4 sk5 sk6 sk7 sk8 sk9 t14a t14b
      refine (cas0 _).mono ?_
      rintro e v0a ⟨rfl, ga0⟩
      go_wp2_with fail
      refine (cen0 _).mono ?_
      rintro e v0b ⟨dd0, rfl, ss0, gb0⟩
      obtain ⟨Am0, cm0, rfl, _⟩ := ss0
      dsimp only
      generalize m0.body.length = nm0 at *
      have XP1 := ((XP.gr ga0).bl gb0).alloc (.cells #[.int .i64 m0.op, .int .i64 m0.id, .slice Am0 nm0 cm0] 24)
      have XU1 := ((XU.gr ga0).bl gb0).alloc (.cells #[.int .i64 m0.op, .int .i64 m0.id, .slice Am0 nm0 cm0] 24)
      have GW1 := ((GW.gr ga0).trans gb0).alloc (.cells #[.int .i64 m0.op, .int .i64 m0.id, .slice Am0 nm0 cm0] 24)
      have pk0 : (v0b.alloc (.cells #[.int .i64 m0.op, .int .i64 m0.id, .slice Am0 nm0 cm0] 24)).cell? ⟨WA.heap.size, 0, none⟩ = some (.int .i64 17) := (XP1.cell 0).trans rfl
      have pk1 : (v0b.alloc (.cells #[.int .i64 m0.op, .int .i64 m0.id, .slice Am0 nm0 cm0] 24)).cell? ⟨WA.heap.size, 1, none⟩ = some (.int .i64 1) := (XP1.cell 1).trans rfl
      have pk2 : (v0b.alloc (.cells #[.int .i64 m0.op, .int .i64 m0.id, .slice Am0 nm0 cm0] 24)).cell? ⟨WA.heap.size, 2, none⟩ = some (.int .i64 1048576) := (XP1.cell 2).trans rfl
      have pk3 : (v0b.alloc (.cells #[.int .i64 m0.op, .int .i64 m0.id, .slice Am0 nm0 cm0] 24)).cell? ⟨WA.heap.size, 3, none⟩ = some (.int .i64 (-1048576)) := (XP1.cell 3).trans rfl
      have pk4 : (v0b.alloc (.cells #[.int .i64 m0.op, .int .i64 m0.id, .slice Am0 nm0 cm0] 24)).cell? ⟨WA.heap.size, 4, none⟩ = some (.int .i64 0) := (XP1.cell 4).trans rfl
      have pk5 : (v0b.alloc (.cells #[.int .i64 m0.op, .int .i64 m0.id, .slice Am0 nm0 cm0] 24)).cell? ⟨WA.heap.size, 5, none⟩ = some (.int .i64 0) := (XP1.cell 5).trans rfl
      have pk6 : (v0b.alloc (.cells #[.int .i64 m0.op, .int .i64 m0.id, .slice Am0 nm0 cm0] 24)).cell? ⟨WA.heap.size, 6, none⟩ = some (.int .i64 0) := (XP1.cell 6).trans rfl
      have pk7 : (v0b.alloc (.cells #[.int .i64 m0.op, .int .i64 m0.id, .slice Am0 nm0 cm0] 24)).cell? ⟨WA.heap.size, 7, none⟩ = some (.int .i64 0) := (XP1.cell 7).trans rfl
      have pk8 : (v0b.alloc (.cells #[.int .i64 m0.op, .int .i64 m0.id, .slice Am0 nm0 cm0] 24)).cell? ⟨WA.heap.size, 8, none⟩ = some (.string ⟨#[]⟩) := (XP1.cell 8).trans rfl
      have pk9 : (v0b.alloc (.cells #[.int .i64 m0.op, .int .i64 m0.id, .slice Am0 nm0 cm0] 24)).cell? ⟨WA.heap.size, 9, none⟩ = some (.slice none 0 0) := (XP1.cell 9).trans rfl
      go_wp2_with fail
      refine (cas1 _).mono ?_
      rintro e v1a ⟨rfl, ga1⟩
      go_wp2_with fail
      refine (cen1 _).mono ?_
      rintro e v1b ⟨dd1, rfl, ss1, gb1⟩
      obtain ⟨Am1, cm1, rfl, _⟩ := ss1
      dsimp only
      generalize m1.body.length = nm1 at *
      clear pk0 pk1 pk2 pk3 pk4 pk5 pk6 pk7 pk8 pk9
      have XU2 := ((XU1.gr ga1).bl gb1).alloc (.cells #[.int .i64 m1.op, .int .i64 m1.id, .slice Am1 nm1 cm1] 24)
      have GW2 := ((GW1.gr ga1).trans gb1).alloc (.cells #[.int .i64 m1.op, .int .i64 m1.id, .slice Am1 nm1 cm1] 24)
      have uk0 : (v1b.alloc (.cells #[.int .i64 m1.op, .int .i64 m1.id, .slice Am1 nm1 cm1] 24)).cell? ⟨WA.heap.size + 1, 0, none⟩ = some (.int .i64 17) := (XU2.cell 0).trans rfl
      have uk1 : (v1b.alloc (.cells #[.int .i64 m1.op, .int .i64 m1.id, .slice Am1 nm1 cm1] 24)).cell? ⟨WA.heap.size + 1, 1, none⟩ = some (.int .i64 1) := (XU2.cell 1).trans rfl
      have uk2 : (v1b.alloc (.cells #[.int .i64 m1.op, .int .i64 m1.id, .slice Am1 nm1 cm1] 24)).cell? ⟨WA.heap.size + 1, 2, none⟩ = some (.int .i64 1048577) := (XU2.cell 2).trans rfl
      have uk3 : (v1b.alloc (.cells #[.int .i64 m1.op, .int .i64 m1.id, .slice Am1 nm1 cm1] 24)).cell? ⟨WA.heap.size + 1, 3, none⟩ = some (.int .i64 (-1048576)) := (XU2.cell 3).trans rfl
      have uk4 : (v1b.alloc (.cells #[.int .i64 m1.op, .int .i64 m1.id, .slice Am1 nm1 cm1] 24)).cell? ⟨WA.heap.size + 1, 4, none⟩ = some (.int .i64 0) := (XU2.cell 4).trans rfl
      have uk5 : (v1b.alloc (.cells #[.int .i64 m1.op, .int .i64 m1.id, .slice Am1 nm1 cm1] 24)).cell? ⟨WA.heap.size + 1, 5, none⟩ = some (.int .i64 0) := (XU2.cell 5).trans rfl
      have uk6 : (v1b.alloc (.cells #[.int .i64 m1.op, .int .i64 m1.id, .slice Am1 nm1 cm1] 24)).cell? ⟨WA.heap.size + 1, 6, none⟩ = some (.int .i64 0) := (XU2.cell 6).trans rfl
      have uk7 : (v1b.alloc (.cells #[.int .i64 m1.op, .int .i64 m1.id, .slice Am1 nm1 cm1] 24)).cell? ⟨WA.heap.size + 1, 7, none⟩ = some (.int .i64 0) := (XU2.cell 7).trans rfl
      have uk8 : (v1b.alloc (.cells #[.int .i64 m1.op, .int .i64 m1.id, .slice Am1 nm1 cm1] 24)).cell? ⟨WA.heap.size + 1, 8, none⟩ = some (.string ⟨#[]⟩) := (XU2.cell 8).trans rfl
      have uk9 : (v1b.alloc (.cells #[.int .i64 m1.op, .int .i64 m1.id, .slice Am1 nm1 cm1] 24)).cell? ⟨WA.heap.size + 1, 9, none⟩ = some (.slice none 0 0) := (XU2.cell 9).trans rfl
      go_wp2_with fail
      refine (cas2 _).mono ?_
      rintro e v2a ⟨rfl, ga2⟩
      go_wp2_with fail
      refine (cen2 _).mono ?_
      rintro e v2b ⟨dd2, rfl, ss2, gb2⟩
      obtain ⟨Am2, cm2, rfl, _⟩ := ss2
      dsimp only
      generalize m2.body.length = nm2 at *
      clear uk0 uk1 uk2 uk3 uk4 uk5 uk6 uk7 uk8 uk9
      have GW3 := ((GW2.gr ga2).trans gb2).alloc (.cells #[.int .i64 m2.op, .int .i64 m2.id, .slice Am2 nm2 cm2] 24)
      go_wp2
      go_roundw
      case rel => exact ⟨5, by omega, by go_num, by repeat (first | with_reducible exact GW3 | with_reducible apply Bl.drew)⟩
      case measure => (simp [intOf]; try omega)
    · go_wp2_with fail
      refine (cl _).mono ?_
      rintro e w9 ⟨rfl, g9⟩
      go_wp2
      go_ret
      exact ⟨by first | rfl | simp, (G5.trans G).trans g9⟩
theorem bounds_core (op a b : Int) (w : World) (h1 : I64 op) : Calls Tryd.prog 6 #[.int .i64 op, .int .i64 a, .int .i64 b] w (Bt w (.bool true)) := by
  have ca := fun V => around1 op 19 V h1 (by omega)
  by_cases hO : around op 19 = 18
  · rw [hO] at ca
    exact bounds_w18 op a b w ca
  · exact bounds_wO _ op a b w hO ca

end Go.Proofs.YthkbenhlhldglaaDoor
