/-
  What is proved: what with of package request makes of a request. No conditions but bounds.
-/
import Derived.Test.YthkbenhlhldglaaDoorZc
import Derived.Test.YthkbenhlhldglaaDoorMd
import Derived.Test.YthkbenhlhldglaaDoorUn
namespace Go.Proofs.YthkbenhlhldglaaDoor
open Go.RowKit Go.Sort
attribute [local go_sem ↓] ta_int_int ta_int_string ta_int_rect ta_int_bytes ta_string_int ta_string_string ta_string_rect ta_string_bytes ta_rect_int ta_rect_string ta_rect_rect ta_rect_bytes ta_bytes_int ta_bytes_string ta_bytes_rect ta_bytes_bytes ta_bool_int ta_bool_string ta_bool_rect ta_bool_bytes

/-- A request as it lies: its bytes, and where these may lie. -/
def vQ (r : Rq) (d : Value) : Value := .agg #[.int .i64 r.op, .int .i64 r.id, .int .i64 r.a, .int .i64 r.b, .int .i64 r.x0, .int .i64 r.y0, .int .i64 r.x1, .int .i64 r.y1, .string r.s, d]
structure IsQ (w : World) (D : Nat → Prop) (r : Rq) (d : Value) : Prop where
  sv : Sv w d r.d
  dd : r.d = [] ∨ ∀ k, d.ownBlock = some k → D k
theorem IsQ.bl {w w' : World} {D : Nat → Prop} {r : Rq} {d : Value} (h : IsQ w D r d) (g : Bl w w') : IsQ w' D r d := ⟨h.sv.bl g, h.dd⟩
set_option maxRecDepth 100000 in
set_option maxHeartbeats 2000000 in
theorem with1 (r : Rq) (i : Nat) (v : Av) (u d : Value) (D : Nat → Prop) (w : World) (hk : v.k = 0 ∨ v.k = 1 ∨ v.k = 2 ∨ v.k = 3) (hu : IsA w u v) (hd : IsQ w D r d) (hvd : v.b = [] ∨ ∀ k, vb u = some k → D k) :
    Calls Tryd.prog 50 #[vQ r d, .int .i64 i, u] w (fun e w' => ∃ d', e = .returned (vQ (setA r i v) d') ∧ IsQ w D (setA r i v) d' ∧ Gr w w') := by
  obtain ⟨hsv, hdd⟩ := hd
  obtain ⟨A, c, rfl, hA⟩ := hsv
  have hd0 : IsQ w D r (.slice A r.d.length c) := ⟨⟨A, c, rfl, hA⟩, hdd⟩
  obtain ⟨op, id, a, b, x0, y0, x1, y1, s, L⟩ := r
  dsimp only at *
  unfold vQ
  dsimp only
  rcases hu with ⟨h, rfl⟩ | ⟨h, rfl⟩ | ⟨h, rfl⟩ | ⟨h, u, rfl, hu⟩ | ⟨⟨h0, h1, h2, h3⟩, _⟩
  · by_cases hi : i = 0
    · subst hi
      have e : setA ⟨op, id, a, b, x0, y0, x1, y1, s, L⟩ 0 v = ⟨op, id, v.n, b, x0, y0, x1, y1, s, L⟩ := by unfold setA; rw [if_pos h, if_pos rfl]
      rw [e]
      go_enter Tryd.func50, Tryd.ntmps50
      go_wp2
      go_returns
      exact ⟨.slice A L.length c, rfl, ⟨hd0.sv, hd0.dd⟩, by repeat (first | with_reducible exact Gr.refl _ | with_reducible assumption | with_reducible apply Gr.drew | with_reducible apply Gr.drewN | with_reducible apply Gr.grow | with_reducible apply Gr.alloc)⟩
    · have hi' : ¬ (i : Int) = 0 := by omega
      have e : setA ⟨op, id, a, b, x0, y0, x1, y1, s, L⟩ i v = ⟨op, id, a, v.n, x0, y0, x1, y1, s, L⟩ := by unfold setA; rw [if_pos h, if_neg hi]
      rw [e]
      go_enter Tryd.func50, Tryd.ntmps50
      go_wp2
      go_returns
      exact ⟨.slice A L.length c, rfl, ⟨hd0.sv, hd0.dd⟩, by repeat (first | with_reducible exact Gr.refl _ | with_reducible assumption | with_reducible apply Gr.drew | with_reducible apply Gr.drewN | with_reducible apply Gr.grow | with_reducible apply Gr.alloc)⟩
  · have e : setA ⟨op, id, a, b, x0, y0, x1, y1, s, L⟩ i v = ⟨op, id, a, b, x0, y0, x1, y1, v.s, L⟩ := by unfold setA; rw [if_neg (by omega), if_pos h]
    rw [e]
    go_enter Tryd.func50, Tryd.ntmps50
    go_wp2
    go_returns
    exact ⟨.slice A L.length c, rfl, ⟨hd0.sv, hd0.dd⟩, by repeat (first | with_reducible exact Gr.refl _ | with_reducible assumption | with_reducible apply Gr.drew | with_reducible apply Gr.drewN | with_reducible apply Gr.grow | with_reducible apply Gr.alloc)⟩
  · have e : setA ⟨op, id, a, b, x0, y0, x1, y1, s, L⟩ i v = ⟨op, id, a, b, v.x0, v.y0, v.x1, v.y1, s, L⟩ := by unfold setA; rw [if_neg (by omega), if_neg (by omega), if_pos h]
    rw [e]
    go_enter Tryd.func50, Tryd.ntmps50
    go_wp2
    go_returns
    exact ⟨.slice A L.length c, rfl, ⟨hd0.sv, hd0.dd⟩, by repeat (first | with_reducible exact Gr.refl _ | with_reducible assumption | with_reducible apply Gr.drew | with_reducible apply Gr.drewN | with_reducible apply Gr.grow | with_reducible apply Gr.alloc)⟩
  · have e : setA ⟨op, id, a, b, x0, y0, x1, y1, s, L⟩ i v = ⟨op, id, a, b, x0, y0, x1, y1, s, v.b⟩ := by unfold setA; rw [if_neg (by omega), if_neg (by omega), if_neg (by omega)]
    rw [e]
    obtain ⟨A2, c2, rfl, hA2⟩ := hu
    have hu0 : IsQ w D ⟨op, id, a, b, x0, y0, x1, y1, s, v.b⟩ (.slice A2 v.b.length c2) := ⟨⟨A2, c2, rfl, hA2⟩, hvd⟩
    go_enter Tryd.func50, Tryd.ntmps50
    go_wp2
    go_returns
    exact ⟨.slice A2 v.b.length c2, rfl, hu0, by repeat (first | with_reducible exact Gr.refl _ | with_reducible assumption | with_reducible apply Gr.drew | with_reducible apply Gr.drewN | with_reducible apply Gr.grow | with_reducible apply Gr.alloc)⟩
  · omega

end Go.Proofs.YthkbenhlhldglaaDoor
