/-
  What is proved: what Write of package frame, and the document's, hand back; the document's example. No conditions but bounds.
-/
import Derived.Test.YteljpabhcmihoaaDoorOc
import Derived.Test.YteljpabhcmihoaaDoorOd
import Derived.Laws.MakeOwn
namespace Go.Proofs.YteljpabhcmihoaaDoor
open Go.RowKit Go.Sort

theorem makeB (n : Nat) (h : n ≤ 1000000) (w : World) : (Instr.makeSlice 22 (.int .i64 0) (.int .i64 (7 + (n : Int)))).run Tryd.prog w =
    .ok (.slice (some ⟨w.heap.size, 0, none⟩) 0 (7 + n)) (w.alloc (.cells (madeCells #[.int .u8 0] (7 + n)) 5)) := by
  obtain ⟨i0, hi, hz0, hz1, hz2⟩ := info_parts infoBy
  have := run_make (P := Tryd.prog) w 22 5 i0 _ Tryd.underlying22 hi hz0 .i64 .i64 0 (7 + (n : Int)) (Int.le_refl _) (by omega) (by rw [hz2]; omega) (by omega)
  rw [this, hz1]
  have e : (7 + (n : Int)).toNat = 7 + n := by omega
  rw [e, Nat.mul_one]
  rfl
theorem madeB (n B : Nat) (h : n ≤ 1000000) (w : World) (hB : B ≤ w.heap.size) : OwB (w.alloc (.cells (madeCells #[.int .u8 0] (7 + n)) 5)) B (some ⟨w.heap.size, 0, none⟩) (7 + n) [] :=
  World.ownsRow_made w _ (7 + n) hB (by unfold maxLen; omega) (by rw [size_madeCells, Nat.mul_one])
set_option maxRecDepth 100000 in
set_option maxHeartbeats 4000000 in
theorem rwrite0 (A : Option Addr) (c : Nat) (m : Ms) (w : World) (hm : ¬ okM m) :
    Calls Tryd.prog 25 #[.agg #[.int .i64 m.op, .int .i64 m.id, .slice A m.body.length c]] w fun e w' => e = .returned (.tuple #[.slice none 0 0, .int .i64 1]) ∧ Bl w w' := by
  have hmb : mayM m = false := by
    cases h : mayM m with
    | true => exact absurd ((mayM_iff m).1 h) hm
    | false => rfl
  have cm := fun w' => rmayM1 A c m w'
  rw [hmb] at cm
  clear hmb
  go_enter Tryd.func25, Tryd.ntmps25
  go_wp2_with fail
  refine (cm _).mono ?_
  rintro e w1 ⟨rfl, g1⟩
  go_wp2
  go_ret2
  exact ⟨rfl, ((Bl.refl w).alloc _).gr g1⟩

set_option maxRecDepth 100000 in
set_option maxHeartbeats 4000000 in
theorem rwrite1 (A : Option Addr) (c : Nat) (m : Ms) (w : World) (hm : okM m) (hA : RwB w A m.body) (hn : A = none → c = 0) :
    Calls Tryd.prog 25 #[.agg #[.int .i64 m.op, .int .i64 m.id, .slice A m.body.length c]] w fun e w' => ∃ A' c', e = .returned (.tuple #[.slice A' (encM m).length c', .int .i64 0]) ∧ Sv w' (.slice A' (encM m).length c') (encM m) ∧ Bl w w' := by
  have hmb := (mayM_iff m).2 hm
  have cm := fun w' => rmayM1 A c m w'
  rw [hmb] at cm
  have hA1 := hA.bl ((Bl.refl w).alloc (.cells #[.int .i64 m.op, .int .i64 m.id, .slice A m.body.length c] 24))
  have hel := encM_len m
  have hed : encM m = [((7 + m.body.length : Nat) : Int) / 256, ((7 + m.body.length : Nat) : Int) % 256, m.op, m.id / 16777216, m.id / 65536 % 256, m.id / 256 % 256, m.id % 256] ++ m.body := rfl
  generalize encM m = E at *
  obtain ⟨op, id, body⟩ := m
  obtain ⟨⟨h1, h2⟩, ⟨h3, h4⟩, h5⟩ := hm
  dsimp only at *
  obtain ⟨n, hnn⟩ : ∃ n, n = body.length := ⟨_, rfl⟩
  rw [← hnn] at hel hed cm hA1 h5 ⊢
  have hc7 : ((7 + n : Nat) : Int) = 7 + (n : Int) := by omega
  rw [hc7] at hed
  obtain ⟨W, hW⟩ : ∃ W, W = w.alloc (.cells #[.int .i64 op, .int .i64 id, .slice A n c] 24) := ⟨_, rfl⟩
  have bx : At W w.heap.size #[.int .i64 op, .int .i64 id, .slice A n c] 24 := by rw [hW]; exact At.new _ _ _
  have gW : Bl w W := by rw [hW]; exact (Bl.refl w).alloc _
  have zW : W.heap.size = w.heap.size + 1 := by rw [hW]; simp
  rw [← hW] at hA1
  replace hnn := Lib.hid hnn
  replace hel := Lib.hid hel
  replace hed := Lib.hid hed
  clear hA hmb hc7
  go_enter Tryd.func25, Tryd.ntmps25
  go_wp2_with fail
  rw [← hW]
  clear hW
  refine (cm _).mono ?_
  rintro e w1 ⟨rfl, g1⟩
  have bx1 := bx.gr g1
  have hA2 := hA1.bl g1.bl
  have k0 := bx1.cell 0
  have k1 := bx1.cell 1
  have k2 := bx1.cell 2
  simp only [List.getElem?_toArray, List.getElem?_cons_zero, List.getElem?_cons_succ] at k0 k1 k2
  have own1 := builtB [(7 + (n : Int)) / 256, (7 + (n : Int)) % 256, op, id / 16777216, id / 65536 % 256, id / 256 % 256, id % 256] W.heap.size w1 (by simp) g1.size
  have k3 := (bx1.alloc (.cells (cB [(7 + (n : Int)) / 256, (7 + (n : Int)) % 256, op, id / 16777216, id / 65536 % 256, id / 256 % 256, id % 256]).toArray 5)).cell 2
  simp only [cB, List.map_cons, List.map_nil, List.getElem?_toArray, List.getElem?_cons_zero, List.getElem?_cons_succ] at k3
  have G1 : Bl W (w1.alloc (.cells (cB [(7 + (n : Int)) / 256, (7 + (n : Int)) % 256, op, id / 16777216, id / 65536 % 256, id / 256 % 256, id % 256]).toArray 5)) := g1.bl.alloc _
  have hA3 := hA1.bl G1
  go_wp2_with (at_builtin; refine wp_app_b rfl (.tmp 43) (.tmp 45) rfl (some ⟨w1.heap.size, 0, none⟩) 7 [(7 + (n : Int)) / 256, (7 + (n : Int)) % 256, op, id / 16777216, id / 65536 % 256, id / 256 % 256, id % 256] rfl W.heap.size own1 A body c (by rw [← hnn.out]; rfl) hn hA3 (by rw [← hnn.out]; simp; omega) G1.size ?_; intro A6 c6 w6 own6 by6 _; rw [← hnn.out])
  have G6 := app_bl by6 G1 own1.lies (Nat.le_refl _)
  rw [← hed.out] at own6
  go_ret2
  refine ⟨A6, c6, by rw [hel.out]; rfl, own6.sv, gW.trans G6⟩


end Go.Proofs.YteljpabhcmihoaaDoor
