/-
  What is proved: what Same of package request, and of the document, hands back. No conditions but bounds.
-/
import Derived.Test.YthkbenhlhldglaaDoorZf
namespace Go.Proofs.YthkbenhlhldglaaDoor
open Go.RowKit Go.Sort

theorem strOf_inj2 {a b : List Int} (ha : ByL a) (hb : ByL b) (h : strOfNums a = strOfNums b) : a = b := by
  have e := congrArg (fun s : ByteArray => s.data.toList) h
  simp only [strOfNums_data] at e
  have len : a.length = b.length := by simpa using congrArg List.length e
  apply List.ext_getElem len
  intro i h1 h2
  have k := congrArg (fun l : List UInt8 => l[i]?) e
  simp only [List.getElem?_map, List.getElem?_eq_getElem h1, List.getElem?_eq_getElem h2, Option.map_some, Option.some.injEq] at k
  have k' := congrArg UInt8.toNat k
  have x := ha _ (List.getElem_mem h1)
  have y := hb _ (List.getElem_mem h2)
  simp only [UInt8.toNat_ofNat'] at k'
  omega
theorem toL_ne {s t : ByteArray} (h : ¬ s = t) : (s.toList == t.toList) = false := by
  rw [beq_eq_false_iff_ne]
  intro e
  rw [ByteArray.toList_eq, ByteArray.toList_eq] at e
  exact h (by cases s; cases t; simpa using e)
set_option maxRecDepth 100000 in
set_option maxHeartbeats 2000000 in
theorem rsameQ1 (r q : Rq) (d e : Value) (w : World) (hr : Sv w d r.d) (hq : Sv w e q.d) (br : ByL r.d) (bq : ByL q.d) : Calls Tryd.prog 44 #[vQ r d, vQ q e] w (Rt w (.bool (sameQ r q))) := by
  obtain ⟨A, c, rfl, _, _, _, hA⟩ := hr
  obtain ⟨B, k, rfl, _, _, _, hB⟩ := hq
  obtain ⟨op, id, a, b, x0, y0, x1, y1, s, L⟩ := r
  obtain ⟨op', id', a', b', x0', y0', x1', y1', s', M⟩ := q
  dsimp only at *
  unfold vQ
  dsimp only
  by_cases hop : op = op'
  case neg =>
    have e : (op == op') = false := by simpa using hop
    go_enter Tryd.func44, Tryd.ntmps44
    go_wp2
    go_ret
    exact ⟨by rw [show sameQ _ _ = false by simp [sameQ, hop]]; rfl, ((Gr.refl w).alloc _).alloc _⟩
  subst hop
  by_cases hid : id = id'
  case neg =>
    have e : (id == id') = false := by simpa using hid
    go_enter Tryd.func44, Tryd.ntmps44
    go_wp2
    go_ret
    exact ⟨by rw [show sameQ _ _ = false by simp [sameQ, hid]]; rfl, ((Gr.refl w).alloc _).alloc _⟩
  subst hid
  by_cases ha : a = a'
  case neg =>
    have e : (a == a') = false := by simpa using ha
    go_enter Tryd.func44, Tryd.ntmps44
    go_wp2
    go_ret
    exact ⟨by rw [show sameQ _ _ = false by simp [sameQ, ha]]; rfl, ((Gr.refl w).alloc _).alloc _⟩
  subst ha
  by_cases hb : b = b'
  case neg =>
    have e : (b == b') = false := by simpa using hb
    go_enter Tryd.func44, Tryd.ntmps44
    go_wp2
    go_ret
    exact ⟨by rw [show sameQ _ _ = false by simp [sameQ, hb]]; rfl, ((Gr.refl w).alloc _).alloc _⟩
  subst hb
  by_cases hx0 : x0 = x0'
  case neg =>
    have e : (x0 == x0') = false := by simpa using hx0
    go_enter Tryd.func44, Tryd.ntmps44
    go_wp2
    go_ret
    exact ⟨by rw [show sameQ _ _ = false by simp [sameQ, hx0]]; rfl, ((Gr.refl w).alloc _).alloc _⟩
  subst hx0
  by_cases hy0 : y0 = y0'
  case neg =>
    have e : (y0 == y0') = false := by simpa using hy0
    go_enter Tryd.func44, Tryd.ntmps44
    go_wp2
    go_ret
    exact ⟨by rw [show sameQ _ _ = false by simp [sameQ, hy0]]; rfl, ((Gr.refl w).alloc _).alloc _⟩
  subst hy0
  by_cases hx1 : x1 = x1'
  case neg =>
    have e : (x1 == x1') = false := by simpa using hx1
    go_enter Tryd.func44, Tryd.ntmps44
    go_wp2
    go_ret
    exact ⟨by rw [show sameQ _ _ = false by simp [sameQ, hx1]]; rfl, ((Gr.refl w).alloc _).alloc _⟩
  subst hx1
  by_cases hy1 : y1 = y1'
  case neg =>
    have e : (y1 == y1') = false := by simpa using hy1
    go_enter Tryd.func44, Tryd.ntmps44
    go_wp2
    go_ret
    exact ⟨by rw [show sameQ _ _ = false by simp [sameQ, hy1]]; rfl, ((Gr.refl w).alloc _).alloc _⟩
  subst hy1
  by_cases hs : s = s'
  case neg =>
    have e := toL_ne hs
    go_enter Tryd.func44, Tryd.ntmps44
    go_wp2
    go_ret
    exact ⟨by rw [show sameQ _ _ = false by simp [sameQ, hs]]; rfl, ((Gr.refl w).alloc _).alloc _⟩
  subst hs
  have g : Gr w ((w.alloc (.cells #[.int .i64 op, .int .i64 id, .int .i64 a, .int .i64 b, .int .i64 x0, .int .i64 y0, .int .i64 x1, .int .i64 y1, .string s, .slice A L.length c] 28)).alloc (.cells #[.int .i64 op, .int .i64 id, .int .i64 a, .int .i64 b, .int .i64 x0, .int .i64 y0, .int .i64 x1, .int .i64 y1, .string s, .slice B M.length k] 28)) := ((Gr.refl w).alloc _).alloc _
  have t1 := Sv.text (c := c) (hA.bl g.bl)
  have t2 := Sv.text (c := k) (hB.bl g.bl)
  by_cases hL : L = M
  case neg =>
    have e := toL_ne (fun h => hL (strOf_inj2 br bq h))
    have hz : sameQ ⟨op, id, a, b, x0, y0, x1, y1, s, L⟩ ⟨op, id, a, b, x0, y0, x1, y1, s, M⟩ = false := by simp [sameQ, hL]
    rw [hz]
    generalize strOfNums L = S at *
    generalize strOfNums M = T at *
    generalize L.length = n at *
    generalize M.length = m at *
    clear hz
    go_enter Tryd.func44, Tryd.ntmps44
    go_wp2
    go_ret
    exact ⟨by first | rfl | rw [e], g⟩
  subst hL
  rw [(sameQ_iff _ _).2 rfl]
  generalize strOfNums L = S at *
  generalize L.length = n at *
  go_enter Tryd.func44, Tryd.ntmps44
  go_wp2
  go_ret
  exact ⟨by first | rfl | simp, g⟩

end Go.Proofs.YthkbenhlhldglaaDoor
