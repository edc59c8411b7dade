/-
  What is proved: small facts on a builder and what is laid beside it. No conditions.
-/
import Derived.Test.YteljpabhcmihoaaDoorVd
import Derived.Test.YteljpabhcmihoaaDoorVm
namespace Go.Proofs.YteljpabhcmihoaaDoor
open Go.RowKit Go.Sort Go.Shelf

theorem others_keep {b : Nat} {w w' : World} {cs : Array Value} {T : TypeId} (h : Lib.OthersKept 5 (some b) w w') (hb : At w b cs T) (hs : w.heap.size ≤ w'.heap.size) : KeepsOthers w w' :=
  ⟨hs, fun k o hk ho => h k o hk (fun e => by
    cases e
    rw [show w.heap[b]? = _ from hb] at hk
    cases hk; cases ho) (fun c fz e => by subst e; cases ho)⟩
theorem At.others {b k : Nat} {w w' : World} {cs : Array Value} {t : TypeId} (h : At w k cs t) (g : Lib.OthersKept 5 (some b) w w') (hkb : k ≠ b) (ht : t ≠ 5) : At w' k cs t :=
  g k _ h (fun e => hkb (Option.some.inj e)) (fun c fz e => by injection e with _ e _; exact ht e)
theorem byteCells_len (L : List UInt8) : (Lib.byteCells L).length = L.length := Lib.byteCells_length L
end Go.Proofs.YteljpabhcmihoaaDoor
