/-
  What is proved: what the small calls of the document's images hand back: New, Box, At; and of build and like of the statements.
-/
import Derived.Test.YtackojmckloacaaIo
namespace Go.Proofs.Ytackojmckloacaa
open Go.RowKit Go.Sort Go.Deep

theorem RowN.bl {k : IntKind} {w w' : World} {b off : Nat} {L : List Int} (h : RowN k w b off L) (g : Bl w w') : RowN k w' b off L := fun i x hi =>
  (Below.cell g (World.block_lt_of_cell? w _ (h i x hi))).trans (h i x hi)
theorem RowN.kept {k : IntKind} {w w' : World} {b off : Nat} {L : List Int} {row : Option Nat} (h : RowN k w b off L) (g : w.grownBy w' row) (hne : some b ≠ row) : RowN k w' b off L := fun i x hi =>
  g.cell (h i x hi) hne
theorem RowN.gr {k : IntKind} {w w' : World} {b off : Nat} {L : List Int} (h : RowN k w b off L) (g : Gr w w') : RowN k w' b off L := h.bl g.bl
theorem Ns.bl {k : IntKind} {w w' : World} {A : Option Addr} {L : List Int} (h : Ns k w A L) (g : Bl w w') : Ns k w' A L := by
  rcases h with h | ⟨b, off, h1, h2⟩
  · exact .inl h
  · exact .inr ⟨b, off, h1, h2.bl g⟩
theorem At.rowC {w : World} {b : Nat} {L : List Int} {t : TypeId} (h : At w b (cC L) t) : RowN .u32 w b 0 L := fun i x hi => by
  rw [Nat.zero_add, h.cell i, cC_get, hi]; rfl

/-- Whose colors may all be. -/
def MayL (L : List Int) : Prop := ∀ c ∈ L, C32 c ∧ mayC c = true
theorem get_of {L : List Int} {i : Nat} {x : Int} (h : L[i]? = some x) : x ∈ L ∧ i < L.length := by
  have hl : i < L.length := by
    rcases Nat.lt_or_ge i L.length with h' | h'
    · exact h'
    · rw [List.getElem?_eq_none h'] at h; cases h
  rw [List.getElem?_eq_getElem hl] at h
  cases h
  exact ⟨List.getElem_mem hl, hl⟩

set_option maxHeartbeats 1000000 in
theorem refNew1 (W H : Nat) (w : World) (w2 : W ≤ 256) (h2 : H ≤ 256) :
    Calls Try.prog 16 #[.int .i64 W, .int .i64 H] w (fun e w' => ∃ b, e = .returned (.agg #[.int .i64 W, .int .i64 H, .slice (some ⟨b, 0, none⟩) (W * H) (W * H)]) ∧ At w' b (cC (List.replicate (W * H) 0)) 30 ∧ w.heap.size ≤ b ∧ Gr w w') := by
  have hle := area_le w2 h2
  have e1 : IntKind.i64.wrap ((W : Int) * (H : Int)) = ((W * H : Nat) : Int) := by rw [← Int.natCast_mul]; exact IntWalk.i64_in _ (by omega)
  have q1 : wrap64 ((W : Int) * (H : Int)) = ((W * H : Nat) : Int) := by rw [← Int.natCast_mul]; exact w64 (by omega) (by omega)
  generalize W * H = n at *
  have mk := makeC n (by omega)
  generalize List.replicate n (0 : Int) = L at mk ⊢
  have R := (At.new w #[.int .i64 0, .int .i64 0, .slice none 0 0] 25).alloc (.cells (cC L) 30)
  have C := At.newAt (w := w.alloc (.cells #[.int .i64 0, .int .i64 0, .slice none 0 0] 25)) (n := w.heap.size + 1) (by simp) (cC L) 30
  go_enter Try.func16, Try.ntmps16
  go_wp2
  go_returns
  exact ⟨_, rfl, At.newAt (by simp) _ _, by omega, ((Gr.refl w).alloc _).alloc _⟩

/-- A row y, a place x. -/
theorem div_of {k W H : Nat} (hW : 1 ≤ W) (h : k < W * H) : k % W < W ∧ k / W < H ∧ k / W * W + k % W = k := by
  refine ⟨Nat.mod_lt _ hW, ?_, ?_⟩
  · rw [Nat.div_lt_iff_lt_mul (by omega)]; rw [Nat.mul_comm]; exact h
  · rw [Nat.mul_comm]; exact Nat.div_add_mod k W

set_option maxHeartbeats 1000000 in
theorem refAt1 {W H b c : Nat} {L : List Int} (w : World) (hR : RowN .u32 w b 0 L) (hl : L.length = W * H) (w2 : W ≤ 256) (h2 : H ≤ 256) (i j : Nat) (hi : i < W) (hj : j < H) (x : Int) (hx : L[j * W + i]? = some x) :
    Calls Try.prog 20 #[.agg #[.int .i64 W, .int .i64 H, .slice (some ⟨b, 0, none⟩) L.length c], .int .i64 i, .int .i64 j] w (Rt w (.tuple #[.int .u32 x, .bool true])) := by
  have hk := row_of hi hj
  have hle := area_le w2 h2
  rw [← hl] at hk hle
  have q1 : wrap64 ((j : Int) * (W : Int)) = ((j * W : Nat) : Int) := by rw [← Int.natCast_mul]; exact w64 (by omega) (by omega)
  have q2 : wrap64 (((j * W : Nat) : Int) + (i : Int)) = ((j * W + i : Nat) : Int) := by rw [← Int.natCast_add]; exact w64 (by omega) (by omega)
  have hc : w.cell? ⟨b, j * W + i, none⟩ = some (.int .u32 x) := by have := hR _ _ hx; rwa [Nat.zero_add] at this
  have hb := World.block_lt_of_cell? w _ hc
  have hc2 : ∀ o : Obj, (w.alloc o).cell? ⟨b, j * W + i, none⟩ = some (.int .u32 x) := fun o => (((Gr.refl w).alloc o).cell hb).trans hc
  clear hx hR hb hc
  generalize j * W + i = k at *
  generalize j * W = p at *
  generalize L.length = n at *
  clear hl
  go_enter Try.func20, Try.ntmps20
  go_wp2
  go_ret2
  exact ⟨rfl, (Gr.refl w).alloc _⟩

set_option maxHeartbeats 1000000 in
theorem refAt0 {W H c n : Nat} {A : Option Addr} (w : World) (x y : Int) (h : hasB 0 0 W H x y = false) :
    Calls Try.prog 20 #[.agg #[.int .i64 W, .int .i64 H, .slice A n c], .int .i64 x, .int .i64 y] w (Rt w (.tuple #[.int .u32 0, .bool false])) := by
  have h' : x < 0 ∨ (0 ≤ x ∧ y < 0) ∨ (0 ≤ x ∧ 0 ≤ y ∧ W ≤ x) ∨ (0 ≤ x ∧ 0 ≤ y ∧ x < W ∧ H ≤ y) := by
    simp [hasB] at h; omega
  clear h
  rcases h' with h | ⟨h, k⟩ | ⟨h, k, l⟩ | ⟨h, k, l, o⟩
  all_goals
    go_enter Try.func20, Try.ntmps20
    go_wp2
    go_ret2
    exact ⟨rfl, (Gr.refl w).alloc _⟩

set_option maxHeartbeats 1000000 in
theorem refBox1 {W H c n : Nat} {A : Option Addr} (w : World) :
    Calls Try.prog 33 #[.agg #[.int .i64 W, .int .i64 H, .slice A n c]] w (Rt w (.agg #[.int .i64 0, .int .i64 0, .int .i64 W, .int .i64 H])) := by
  go_enter Try.func33, Try.ntmps33
  go_wp2
  go_returns
  exact Rt.rect (r := ⟨0, 0, W, H⟩) ⟨rfl, rfl, rfl, rfl⟩ (((Gr.refl w).alloc _).alloc _)

end Go.Proofs.Ytackojmckloacaa
