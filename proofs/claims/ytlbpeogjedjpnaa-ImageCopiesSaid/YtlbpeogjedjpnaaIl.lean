/-
  What is proved: what the document's example comes to, and what Fill does with a color that may not be.
-/
import Derived.Test.YtlbpeogjedjpnaaIf
import Derived.Test.YtlbpeogjedjpnaaLaw
namespace Go.Proofs.Ytlbpeogjedjpnaa
open Go.RowKit Go.Sort

/-- What was there is as it was. -/
def Bl (w w' : World) : Prop := Below w.heap.size w w'
theorem Bl.refl (w : World) : Bl w w := Below.refl _ _
theorem Bl.trans {a b c : World} (h : Bl a b) (k : Bl b c) : Bl a c := Below.trans h (Below.mono k (Below.size h))
theorem Gr.bl {a b : World} (h : Gr a b) : Bl a b := h.below
theorem Bl.size {a b : World} (h : Bl a b) : a.heap.size ≤ b.heap.size := Below.size h
theorem Bl.gr {a b c : World} (h : Bl a b) (k : Gr b c) : Bl a c := h.trans k.bl
theorem Bl.by {a b : World} (h : Bl a b) (row : Option Nat) : a.grownBy b row := ⟨Below.os h, Below.tape h, Below.output h, h.size, fun k hk _ => Below.block h k hk⟩
theorem Bl.row {a b c : World} {r : Nat} (h : Bl a b) (g : b.grownBy c (some r)) (hr : a.heap.size ≤ r) : Bl a c :=
  ⟨g.os.trans (Below.os h), g.tape.trans (Below.tape h), g.output.trans (Below.output h), Nat.le_trans h.size g.size, fun k hk => (g.block k (Nat.lt_of_lt_of_le hk h.size) (fun e => by cases e; omega)).trans (Below.block h k hk)⟩
theorem Bl.setCell {a b : World} (h : Bl a b) {p : Addr} (hp : a.heap.size ≤ p.block) (u : Value) : Bl a (b.setCell p u) := Below.setCell h hp u
theorem Bl.alloc {a b : World} (h : Bl a b) (o : Obj) : Bl a (b.alloc o) := h.gr ((Gr.refl b).alloc o)
theorem Bl.drew {a b : World} (h : Bl a b) : Bl a b.drew := h.gr (Gr.refl b).drew
theorem Bl.drewN {a b : World} (h : Bl a b) (n : Nat) : Bl a (b.drewN n) := h.gr ((Gr.refl b).drewN n)
theorem Bl.grown {a b c : World} {row : Option Nat} (h : Bl a b) (g : b.grownBy c row) (hr : ∀ k, row = some k → a.heap.size ≤ k) : Bl a c :=
  ⟨g.os.trans (Below.os h), g.tape.trans (Below.tape h), g.output.trans (Below.output h), Nat.le_trans h.size g.size, fun k hk => (g.block k (Nat.lt_of_lt_of_le hk h.size) (fun e => by have := hr k e.symm; omega)).trans (Below.block h k hk)⟩
theorem At.bl {w w' : World} {b : Nat} {cs : Array Value} {t : TypeId} (h : At w b cs t) (g : Bl w w') : At w' b cs t := h.same (Below.block g b h.lt)
theorem Img.bl {w w' : World} {pm pc W H : Nat} {L : List Int} (h : Img w pm pc W H L) (g : Bl w w') : Img w' pm pc W H L := { h with hd := h.hd.bl g, cs := h.cs.bl g }

set_option maxHeartbeats 1000000 in
theorem fill0 (pm : Nat) (w : World) (a b c d : Int) (q : Int) (hq : C32 q) (hm : mayC q = false) :
    Calls Try.prog 17 #[.pointer (some ⟨pm, 0, none⟩), .agg #[.int .i64 a, .int .i64 b, .int .i64 c, .int .i64 d], .int .u32 q] w (Rt w (.int .i64 0)) := by
  have cm := fun w => cmay1 q w hq
  rw [hm] at cm
  go_enter Try.func17, Try.ntmps17
  go_wp2_with fail
  refine (cm _).mono ?_
  rintro e w1 ⟨rfl, g1⟩
  go_wp2
  go_ret
  exact ⟨rfl, (((Gr.refl w).alloc _).alloc _).trans g1⟩

set_option maxHeartbeats 1000000 in
theorem lives1 (w : World) : Calls Try.prog 23 #[] w (fun e w' => e = .returned (.bool true) ∧ Bl w w') := by
  have cn := new1 3 3 w (by omega) (by omega) (by omega) (by omega)
  have cf := fun (pm pc : Nat) (w : World) (L : List Int) (h : Img w pm pc 3 3 L) => fill1 w h 1 1 9 9 4278190080 (by unfold C32; omega) (by decide) 1 3 1 3 (by rfl) (by omega) (by omega) (by omega) (by omega) (by omega)
  rw [show areaI (1 : Nat) (1 : Nat) (3 : Nat) (3 : Nat) = 4 from rfl] at cf
  go_enter Try.func23, Try.ntmps23
  go_wp2_with fail
  refine cn.mono ?_
  rintro e w1 ⟨pm, pc, rfl, I1, h1, h2, g1⟩
  go_wp2_with fail
  refine (cf pm pc _ _ I1).mono ?_
  rintro e w2 ⟨rfl, g2, _⟩
  go_wp2
  go_ret
  exact ⟨rfl, g1.bl.row g2 h2⟩

end Go.Proofs.Ytlbpeogjedjpnaa
