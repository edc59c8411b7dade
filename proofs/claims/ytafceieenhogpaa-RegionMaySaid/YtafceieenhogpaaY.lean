/-
  What is proved: what 'append' of a whole row of rectangles does to a row of the call's own. No conditions but a bound on the length.
-/
import Derived.Test.YtafceieenhogpaaX
import Derived.OwnWalk
namespace Go.Proofs.Ytafceieenhogpaa
open Go.RowKit Go.Sort

theorem wp_app_rs {ops : Array Oper} {rest : List Oper} {o : Oper} {a : Act} {w : World} {Q : Exit → Act → World → Prop} (hgd : o.guard = none) (s x : Operand)
    (ho : o.op = .call { callee := .builtin .append, args := #[s, x], argTypes := #[22, 22] }) (A : Option Addr) (c : Nat) (L : List Rc) (hs : a.eval s = .slice A L.length c) (B : Nat) (hown : OwR w B A c L)
    (g0 : Nat) (M : List Rc) (c0 : Nat) (B0 : Nat) (hx : a.eval x = .slice (some ⟨g0, 0, none⟩) M.length c0) (hM : OwR w B0 (some ⟨g0, 0, none⟩) c0 M) (hm : 0 < M.length) (hlen : L.length + M.length ≤ 1000000000000) (hB : B ≤ w.heap.size)
    (h : ∀ A' c' w', OwR w' B A' c' (L ++ M) → Apd w w' A A' → wpList Try.prog ops Q rest (a.put o.dst (.slice A' (L.length + M.length) c')) w') :
    wpList Try.prog ops Q (o :: rest) a w := by
  obtain ⟨i0, hi, hz0, hz1, hz2⟩ := info_parts infoR
  refine wpList_append_lies (P := Try.prog) w hgd s x 22 ho B 24 i0 _ 4 32 Try.underlying22 hi hz0 hz1 hz2 rfl (by decide) (.slice A L.length c) L.length (cR L) hs hown
    ⟨g0, 0, none⟩ M.length c0 (cR M) hx (cR_len M) (World.ownsRow.cells hM rfl) (cR_one _) hm (by unfold maxLen; omega) (by omega) hB w.heap.size rfl ?_
  intro g cap w' h1 h2 h3 h4
  refine h (some ⟨g, 0, none⟩) cap w' ?_ ⟨?_, ?_⟩
  · unfold OwR; rw [cR_app, List.length_append]; exact h1
  · rw [slice_block] at h2; exact h2
  · rw [slice_block] at h3
    rcases h3 with h3 | h3
    · exact .inl h3
    · right; show some g = _; rw [h3]
theorem wp_app_r0 {ops : Array Oper} {rest : List Oper} {o : Oper} {a : Act} {w : World} {Q : Exit → Act → World → Prop} (hgd : o.guard = none) (s x : Operand)
    (ho : o.op = .call { callee := .builtin .append, args := #[s, x], argTypes := #[22, 22] }) (A : Option Addr) (c : Nat) (L : List Rc) (hs : a.eval s = .slice A L.length c) (B : Nat) (hown : OwR w B A c L)
    (hx : a.eval x = .slice none 0 0) (h : wpList Try.prog ops Q rest (a.put o.dst (.slice A L.length c)) w) :
    wpList Try.prog ops Q (o :: rest) a w := by
  obtain ⟨i0, hi, hz0, hz1, hz2⟩ := info_parts infoR
  have hr := run_append_owned_none (P := Try.prog) w B 22 o.type 24 i0 4 Try.underlying22 hi (.slice A L.length c) L.length (cR L) hown
  refine wpList_plain hgd fun K hK => ?_
  unfold Oper.wp execOp
  simp only [ho, resolve, invoke, builtin, Sem.run_bind, Sem.run_pure, Result.andThen_ok, List.map_toArray, List.map_cons, List.map_nil, hs, hx, hr]
  exact hK _ _ h

end Go.Proofs.Ytafceieenhogpaa
