/-
  What is proved: what Same of the document's package of messages hands back of any two. No conditions but bounds.
-/
import Derived.Test.YthkbenhlhldglaaDoorMk
namespace Go.Proofs.YthkbenhlhldglaaDoor
open Go.RowKit Go.Sort

def sameM (m n : Ms) : Bool := decide (m.op = n.op) && (decide (m.id = n.id) && decide (m.body = n.body))
theorem sameM_iff (m n : Ms) : sameM m n = true ↔ m = n := by
  obtain ⟨a, b, c⟩ := m
  obtain ⟨a', b', c'⟩ := n
  unfold sameM
  simp only [Bool.and_eq_true, decide_eq_true_iff, Ms.mk.injEq]
set_option maxRecDepth 100000 in
set_option maxHeartbeats 2000000 in
theorem msame1 (m n : Ms) (d e : Value) (w : World) (hm : Sv w d m.body) (hn : Sv w e n.body) (bm : ByL m.body) (bn : ByL n.body) : Calls Tryd.prog 22 #[.agg #[.int .i64 m.op, .int .i64 m.id, d], .agg #[.int .i64 n.op, .int .i64 n.id, e]] w (Rt w (.bool (sameM m n))) := by
  obtain ⟨A, c, rfl, _, _, _, hA⟩ := hm
  obtain ⟨B, k, rfl, _, _, _, hB⟩ := hn
  obtain ⟨op, id, L⟩ := m
  obtain ⟨op', id', M⟩ := n
  dsimp only at *
  by_cases hop : op = op'
  case neg =>
    have e : (op == op') = false := by simpa using hop
    go_enter Tryd.func22, Tryd.ntmps22
    go_wp2
    go_ret
    exact ⟨by rw [show sameM _ _ = false by simp [sameM, hop]]; rfl, ((Gr.refl w).alloc _).alloc _⟩
  subst hop
  by_cases hid : id = id'
  case neg =>
    have e : (id == id') = false := by simpa using hid
    go_enter Tryd.func22, Tryd.ntmps22
    go_wp2
    go_ret
    exact ⟨by rw [show sameM _ _ = false by simp [sameM, hid]]; rfl, ((Gr.refl w).alloc _).alloc _⟩
  subst hid
  have g : Gr w ((w.alloc (.cells #[.int .i64 op, .int .i64 id, .slice A L.length c] 24)).alloc (.cells #[.int .i64 op, .int .i64 id, .slice B M.length k] 24)) := ((Gr.refl w).alloc _).alloc _
  have t1 := Sv.text (c := c) (hA.bl g.bl)
  have t2 := Sv.text (c := k) (hB.bl g.bl)
  by_cases hL : L = M
  case neg =>
    have e := toL_ne (fun h => hL (strOf_inj2 bm bn h))
    have hz : sameM ⟨op, id, L⟩ ⟨op, id, M⟩ = false := by simp [sameM, hL]
    rw [hz]
    generalize strOfNums L = S at *
    generalize strOfNums M = T at *
    generalize L.length = n at *
    generalize M.length = m at *
    clear hz
    go_enter Tryd.func22, Tryd.ntmps22
    go_wp2
    go_ret
    exact ⟨by first | rfl | rw [e], g⟩
  subst hL
  rw [(sameM_iff _ _).2 rfl]
  generalize strOfNums L = S at *
  generalize L.length = n at *
  go_enter Tryd.func22, Tryd.ntmps22
  go_wp2
  go_ret
  exact ⟨by first | rfl | simp, g⟩

end Go.Proofs.YthkbenhlhldglaaDoor
