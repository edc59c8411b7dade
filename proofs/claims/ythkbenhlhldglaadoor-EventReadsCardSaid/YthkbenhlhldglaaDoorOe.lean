/-
  What is proved: what Write of package frame, and the document's, hand back; the document's example. No conditions but bounds.
-/
import Derived.Test.YthkbenhlhldglaaDoorOc
import Derived.Test.YthkbenhlhldglaaDoorOd
import Derived.Laws.MakeOwn
namespace Go.Proofs.YthkbenhlhldglaaDoor
open Go.RowKit Go.Sort

theorem makeB (n : Nat) (h : n ≤ 1000000) (w : World) : (Instr.makeSlice 22 (.int .i64 0) (.int .i64 (7 + (n : Int)))).run Tryd.prog w =
    .ok (.slice (some ⟨w.heap.size, 0, none⟩) 0 (7 + n)) (w.alloc (.cells (madeCells #[.int .u8 0] (7 + n)) 5)) := by
  obtain ⟨i0, hi, hz0, hz1, hz2⟩ := info_parts infoBy
  have := run_make (P := Tryd.prog) w 22 5 i0 _ Tryd.underlying22 hi hz0 .i64 .i64 0 (7 + (n : Int)) (Int.le_refl _) (by omega) (by rw [hz2]; omega) (by omega)
  rw [this, hz1]
  have e : (7 + (n : Int)).toNat = 7 + n := by omega
  rw [e, Nat.mul_one]
  rfl
theorem madeB (n B : Nat) (h : n ≤ 1000000) (w : World) (hB : B ≤ w.heap.size) : OwB (w.alloc (.cells (madeCells #[.int .u8 0] (7 + n)) 5)) B (some ⟨w.heap.size, 0, none⟩) (7 + n) [] :=
  World.ownsRow_made w _ (7 + n) hB (by unfold maxLen; omega) (by rw [size_madeCells, Nat.mul_one])
set_option maxRecDepth 100000 in
set_option maxHeartbeats 4000000 in
theorem fwrite1 (A : Option Addr) (c : Nat) (m : Ms) (w : World) (hm : okM m) (hA : RwB w A m.body) (hn : A = none → c = 0) :
    Calls Tryd.prog 85 #[.agg #[.int .i64 m.op, .int .i64 m.id, .slice A m.body.length c]] w fun e w' => ∃ A' c', e = .returned (.tuple #[.slice A' (encM m).length c', .int .i64 0]) ∧ Sv w' (.slice A' (encM m).length c') (encM m) ∧ Bl w w' := by
  have hmb := (mayM_iff m).2 hm
  have cm := fun w' => fmay1 A c m w'
  rw [hmb] at cm
  have hA1 := hA.bl ((Bl.refl w).alloc (.cells #[.int .i64 m.op, .int .i64 m.id, .slice A m.body.length c] 24))
  have hel := encM_len m
  have hed : encM m = ((([((7 + m.body.length : Nat) : Int) / 256, ((7 + m.body.length : Nat) : Int) % 256] : List Int) ++ [m.op]) ++ [m.id / 16777216, m.id / 65536 % 256, m.id / 256 % 256, m.id % 256]) ++ m.body := by
    unfold encM; simp
  generalize encM m = E at *
  obtain ⟨op, id, body⟩ := m
  obtain ⟨⟨h1, h2⟩, ⟨h3, h4⟩, h5⟩ := hm
  dsimp only at *
  obtain ⟨n, hnn⟩ : ∃ n, n = body.length := ⟨_, rfl⟩
  rw [← hnn] at hel hed cm hA1 h5 ⊢
  have hx1 : (7 + (n : Int)) / 256 % 256 = ((7 + n : Nat) : Int) / 256 := by omega
  have hx2 : (7 + (n : Int)) % 256 = ((7 + n : Nat) : Int) % 256 := by omega
  have hx3 : op % 256 = op := by omega
  obtain ⟨W, hW⟩ : ∃ W, W = w.alloc (.cells #[.int .i64 op, .int .i64 id, .slice A n c] 24) := ⟨_, rfl⟩
  have bx : At W w.heap.size #[.int .i64 op, .int .i64 id, .slice A n c] 24 := by rw [hW]; exact At.new _ _ _
  have gW : Bl w W := by rw [hW]; exact (Bl.refl w).alloc _
  have zW : W.heap.size = w.heap.size + 1 := by rw [hW]; simp
  rw [← hW] at hA1
  replace hnn := Lib.hid hnn
  replace hel := Lib.hid hel
  replace hed := Lib.hid hed
  replace hx1 := Lib.hid hx1
  replace hx2 := Lib.hid hx2
  replace hx3 := Lib.hid hx3
  clear hA hmb
  go_enter Tryd.func85, Tryd.ntmps85
  go_wp2_with fail
  rw [← hW]
  clear hW
  refine (cm _).mono ?_
  rintro e w1 ⟨rfl, g1⟩
  have bx1 := bx.gr g1
  have hA2 := hA1.bl g1.bl
  have z1 := g1.size
  rw [zW] at z1
  have k2 := bx1.cell 2
  simp only [List.getElem?_toArray, List.getElem?_cons_zero, List.getElem?_cons_succ] at k2
  have hmk := makeB n (by omega) w1
  have own1 := madeB n W.heap.size (by omega) w1 g1.size
  have bx2 := bx1.alloc (.cells (madeCells #[.int .u8 0] (7 + n)) 5)
  have G2 : Bl W (w1.alloc (.cells (madeCells #[.int .u8 0] (7 + n)) 5)) := g1.bl.alloc _
  obtain ⟨w2, hw2⟩ : ∃ w2, w2 = w1.alloc (.cells (madeCells #[.int .u8 0] (7 + n)) 5) := ⟨_, rfl⟩
  rw [← hw2] at hmk own1 bx2 G2
  have k2' := bx2.cell 2
  simp only [List.getElem?_toArray, List.getElem?_cons_zero, List.getElem?_cons_succ] at k2'
  have z2 := G2.size
  obtain ⟨p1, hp1⟩ : ∃ p, p = w1.heap.size := ⟨_, rfl⟩
  rw [← hp1] at hmk own1
  clear hw2 hp1
  go_wp2_with fail
  refine (number2 (some ⟨p1, 0, none⟩) (7 + n) [] W.heap.size (7 + (n : Int)) (by omega) (by omega) w2 z2 (by simp) own1).mono ?_
  rintro e w3 ⟨A3, c3, rfl, own3, z3, keep3⟩
  have G3 := keep3 W (Nat.le_refl _) G2
  have bx3 := bx.bl G3
  have k30 := bx3.cell 0
  simp only [List.getElem?_toArray, List.getElem?_cons_zero] at k30
  clear hmk k2 k2'
  rw [hx1.out, hx2.out, List.nil_append] at own3
  go_wp2_with fail
  refine (number1 A3 c3 [((7 + n : Nat) : Int) / 256, ((7 + n : Nat) : Int) % 256] W.heap.size op (by omega) (by omega) w3 G3.size (by simp) own3).mono ?_
  rintro e w4 ⟨A4, c4, rfl, own4, z4, keep4⟩
  have G4 := keep4 W (Nat.le_refl _) G3
  have bx4 := bx.bl G4
  have k41 := bx4.cell 1
  simp only [List.getElem?_toArray, List.getElem?_cons_zero, List.getElem?_cons_succ] at k41
  clear k30
  rw [hx3.out] at own4
  go_wp2_with fail
  refine (number4 A4 c4 ([((7 + n : Nat) : Int) / 256, ((7 + n : Nat) : Int) % 256] ++ [op]) W.heap.size id (by omega) (by omega) w4 G4.size (by simp) own4).mono ?_
  rintro e w5 ⟨A5, c5, rfl, own5, z5, keep5⟩
  have G5 := keep5 W (Nat.le_refl _) G4
  have bx5 := bx.bl G5
  have k52 := bx5.cell 2
  simp only [List.getElem?_toArray, List.getElem?_cons_zero, List.getElem?_cons_succ] at k52
  clear k41
  have hA5 := hA1.bl G5
  obtain ⟨L5, hL5⟩ : ∃ L, L = ([((7 + n : Nat) : Int) / 256, ((7 + n : Nat) : Int) % 256] ++ [op]) ++ [id / 16777216, id / 65536 % 256, id / 256 % 256, id % 256] := ⟨_, rfl⟩
  have hl5 : L5.length = 7 := by rw [hL5]; rfl
  rw [← hL5] at own5
  replace hL5 := Lib.hid hL5
  replace hl5 := Lib.hid hl5
  go_wp2_with (at_builtin; refine wp_app_b rfl (.tmp 27) (.tmp 29) rfl A5 c5 L5 (by rw [hl5.out]; rfl) W.heap.size own5 A body c (by rw [← hnn.out]; rfl) hn hA5 (by rw [hl5.out, ← hnn.out]; omega) G5.size ?_; intro A6 c6 w6 own6 by6 _; rw [hl5.out, ← hnn.out])
  have G6 := app_bl by6 G5 own5.lies (Nat.le_refl _)
  have hE : L5 ++ body = E := by rw [hL5.out, hed.out]
  rw [hE] at own6
  go_ret2
  refine ⟨A6, c6, by rw [hel.out]; rfl, own6.sv, gW.trans G6⟩

set_option maxRecDepth 100000 in
set_option maxHeartbeats 4000000 in
theorem fwrite0 (A : Option Addr) (c : Nat) (m : Ms) (w : World) (hm : ¬ okM m) :
    Calls Tryd.prog 85 #[.agg #[.int .i64 m.op, .int .i64 m.id, .slice A m.body.length c]] w fun e w' => e = .returned (.tuple #[.slice none 0 0, .int .i64 1]) ∧ Bl w w' := by
  have hmb : mayM m = false := by
    cases h : mayM m with
    | true => exact absurd ((mayM_iff m).1 h) hm
    | false => rfl
  have cm := fun w' => fmay1 A c m w'
  rw [hmb] at cm
  clear hmb
  go_enter Tryd.func85, Tryd.ntmps85
  go_wp2_with fail
  refine (cm _).mono ?_
  rintro e w1 ⟨rfl, g1⟩
  go_wp2
  go_ret2
  exact ⟨rfl, ((Bl.refl w).alloc _).gr g1⟩

set_option maxRecDepth 100000 in
set_option maxHeartbeats 4000000 in
theorem rwrite0 (A : Option Addr) (c : Nat) (m : Ms) (w : World) (hm : ¬ okM m) :
    Calls Tryd.prog 24 #[.agg #[.int .i64 m.op, .int .i64 m.id, .slice A m.body.length c]] w fun e w' => e = .returned (.tuple #[.slice none 0 0, .int .i64 1]) ∧ Bl w w' := by
  have hmb : mayM m = false := by
    cases h : mayM m with
    | true => exact absurd ((mayM_iff m).1 h) hm
    | false => rfl
  have cm := fun w' => rmayM1 A c m w'
  rw [hmb] at cm
  clear hmb
  go_enter Tryd.func24, Tryd.ntmps24
  go_wp2_with fail
  refine (cm _).mono ?_
  rintro e w1 ⟨rfl, g1⟩
  go_wp2
  go_ret2
  exact ⟨rfl, ((Bl.refl w).alloc _).gr g1⟩

set_option maxRecDepth 100000 in
set_option maxHeartbeats 4000000 in
theorem rwrite1 (A : Option Addr) (c : Nat) (m : Ms) (w : World) (hm : okM m) (hA : RwB w A m.body) (hn : A = none → c = 0) :
    Calls Tryd.prog 24 #[.agg #[.int .i64 m.op, .int .i64 m.id, .slice A m.body.length c]] w fun e w' => ∃ A' c', e = .returned (.tuple #[.slice A' (encM m).length c', .int .i64 0]) ∧ Sv w' (.slice A' (encM m).length c') (encM m) ∧ Bl w w' := by
  have hmb := (mayM_iff m).2 hm
  have cm := fun w' => rmayM1 A c m w'
  rw [hmb] at cm
  have hA1 := hA.bl ((Bl.refl w).alloc (.cells #[.int .i64 m.op, .int .i64 m.id, .slice A m.body.length c] 24))
  have hel := encM_len m
  have hed : encM m = [((7 + m.body.length : Nat) : Int) / 256, ((7 + m.body.length : Nat) : Int) % 256, m.op, m.id / 16777216, m.id / 65536 % 256, m.id / 256 % 256, m.id % 256] ++ m.body := rfl
  generalize encM m = E at *
  obtain ⟨op, id, body⟩ := m
  obtain ⟨⟨h1, h2⟩, ⟨h3, h4⟩, h5⟩ := hm
  dsimp only at *
  obtain ⟨n, hnn⟩ : ∃ n, n = body.length := ⟨_, rfl⟩
  rw [← hnn] at hel hed cm hA1 h5 ⊢
  have hc7 : ((7 + n : Nat) : Int) = 7 + (n : Int) := by omega
  rw [hc7] at hed
  obtain ⟨W, hW⟩ : ∃ W, W = w.alloc (.cells #[.int .i64 op, .int .i64 id, .slice A n c] 24) := ⟨_, rfl⟩
  have bx : At W w.heap.size #[.int .i64 op, .int .i64 id, .slice A n c] 24 := by rw [hW]; exact At.new _ _ _
  have gW : Bl w W := by rw [hW]; exact (Bl.refl w).alloc _
  have zW : W.heap.size = w.heap.size + 1 := by rw [hW]; simp
  rw [← hW] at hA1
  replace hnn := Lib.hid hnn
  replace hel := Lib.hid hel
  replace hed := Lib.hid hed
  clear hA hmb hc7
  go_enter Tryd.func24, Tryd.ntmps24
  go_wp2_with fail
  rw [← hW]
  clear hW
  refine (cm _).mono ?_
  rintro e w1 ⟨rfl, g1⟩
  have bx1 := bx.gr g1
  have hA2 := hA1.bl g1.bl
  have k0 := bx1.cell 0
  have k1 := bx1.cell 1
  have k2 := bx1.cell 2
  simp only [List.getElem?_toArray, List.getElem?_cons_zero, List.getElem?_cons_succ] at k0 k1 k2
  have own1 := builtB [(7 + (n : Int)) / 256, (7 + (n : Int)) % 256, op, id / 16777216, id / 65536 % 256, id / 256 % 256, id % 256] W.heap.size w1 (by simp) g1.size
  have k3 := (bx1.alloc (.cells (cB [(7 + (n : Int)) / 256, (7 + (n : Int)) % 256, op, id / 16777216, id / 65536 % 256, id / 256 % 256, id % 256]).toArray 5)).cell 2
  simp only [cB, List.map_cons, List.map_nil, List.getElem?_toArray, List.getElem?_cons_zero, List.getElem?_cons_succ] at k3
  have G1 : Bl W (w1.alloc (.cells (cB [(7 + (n : Int)) / 256, (7 + (n : Int)) % 256, op, id / 16777216, id / 65536 % 256, id / 256 % 256, id % 256]).toArray 5)) := g1.bl.alloc _
  have hA3 := hA1.bl G1
  go_wp2_with (at_builtin; refine wp_app_b rfl (.tmp 43) (.tmp 45) rfl (some ⟨w1.heap.size, 0, none⟩) 7 [(7 + (n : Int)) / 256, (7 + (n : Int)) % 256, op, id / 16777216, id / 65536 % 256, id / 256 % 256, id % 256] rfl W.heap.size own1 A body c (by rw [← hnn.out]; rfl) hn hA3 (by rw [← hnn.out]; simp; omega) G1.size ?_; intro A6 c6 w6 own6 by6 _; rw [← hnn.out])
  have G6 := app_bl by6 G1 own1.lies (Nat.le_refl _)
  rw [← hed.out] at own6
  go_ret2
  refine ⟨A6, c6, by rw [hel.out]; rfl, own6.sv, gW.trans G6⟩


end Go.Proofs.YthkbenhlhldglaaDoor
