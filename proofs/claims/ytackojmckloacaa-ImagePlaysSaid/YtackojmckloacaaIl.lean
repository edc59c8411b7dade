/-
  What is proved: what the document's example comes to, and what Fill does with a color that may not be.
-/
import Derived.Test.YtackojmckloacaaIf
import Derived.Test.YtackojmckloacaaLaw
namespace Go.Proofs.Ytackojmckloacaa
open Go.RowKit Go.Sort

theorem Bl.row {a b c : World} {r : Nat} (h : Bl a b) (g : b.grownBy c (some r)) (hr : a.heap.size ≤ r) : Bl a c :=
  ⟨g.os.trans (Below.os h), g.tape.trans (Below.tape h), g.output.trans (Below.output h), Nat.le_trans h.size g.size, fun k hk => (g.block k (Nat.lt_of_lt_of_le hk h.size) (fun e => by cases e; omega)).trans (Below.block h k hk)⟩
theorem Img.bl {w w' : World} {pm pc W H : Nat} {L : List Int} (h : Img w pm pc W H L) (g : Bl w w') : Img w' pm pc W H L := { h with hd := h.hd.bl g, cs := h.cs.bl g }

set_option maxHeartbeats 1000000 in
theorem fill0 (pm : Nat) (w : World) (a b c d : Int) (q : Int) (hq : C32 q) (hm : mayC q = false) :
    Calls Try.prog 9 #[.pointer (some ⟨pm, 0, none⟩), .agg #[.int .i64 a, .int .i64 b, .int .i64 c, .int .i64 d], .int .u32 q] w (Rt w (.int .i64 0)) := by
  have cm := fun w => cmay1 q w hq
  rw [hm] at cm
  go_enter Try.func9, Try.ntmps9
  go_wp2_with fail
  refine (cm _).mono ?_
  rintro e w1 ⟨rfl, g1⟩
  go_wp2
  go_ret
  exact ⟨rfl, (((Gr.refl w).alloc _).alloc _).trans g1⟩

set_option maxHeartbeats 1000000 in
theorem ilives1 (w : World) : Calls Try.prog 15 #[] w (fun e w' => e = .returned (.bool true) ∧ Bl w w') := by
  have cn := new1 3 3 w (by omega) (by omega) (by omega) (by omega)
  have cf := fun (pm pc : Nat) (w : World) (L : List Int) (h : Img w pm pc 3 3 L) => fill1 w h 1 1 9 9 4278190080 (by unfold C32; omega) (by decide) 1 3 1 3 (by rfl) (by omega) (by omega) (by omega) (by omega) (by omega)
  rw [show areaI (1 : Nat) (1 : Nat) (3 : Nat) (3 : Nat) = 4 from rfl] at cf
  go_enter Try.func15, Try.ntmps15
  go_wp2_with fail
  refine cn.mono ?_
  rintro e w1 ⟨pm, pc, rfl, I1, h1, h2, g1⟩
  go_wp2_with fail
  refine (cf pm pc _ _ I1).mono ?_
  rintro e w2 ⟨rfl, g2, _⟩
  go_wp2
  go_ret
  exact ⟨rfl, g1.bl.row g2 h2⟩

end Go.Proofs.Ytackojmckloacaa
