/-
  What is proved: what 'append' of two rectangles does to a row of the call's own. No conditions but a bound on the length.
-/
import Derived.Test.YtbhekpcjdpbahaaX
namespace Go.Proofs.Ytbhekpcjdpbahaa
open Go.RowKit Go.Sort

theorem wp_app_rr {ops : Array Oper} {rest : List Oper} {o : Oper} {a : Act} {w : World} {Q : Exit → Act → World → Prop} (hgd : o.guard = none) (s x : Operand)
    (ho : o.op = .call { callee := .builtin .append, args := #[s, x], argTypes := #[35, 35] }) (A : Option Addr) (c : Nat) (L : List Rc) (hs : a.eval s = .slice A L.length c) (B : Nat) (hown : OwR w B A c L)
    (g0 : Nat) (r r' : Rc) (c0 : Nat) (hx : a.eval x = .slice (some ⟨g0, 0, none⟩) 2 c0) (hAt : At w g0 #[.int .i64 r.a, .int .i64 r.b, .int .i64 r.c, .int .i64 r.d, .int .i64 r'.a, .int .i64 r'.b, .int .i64 r'.c, .int .i64 r'.d] 23) (hlen : L.length ≤ 1000000000000) (hB : B ≤ w.heap.size)
    (h : ∀ A' c' w', OwR w' B A' c' (L ++ [r, r']) → Apd w w' A A' → wpList Try.prog ops Q rest (a.put o.dst (.slice A' (L.length + 2) c')) w') :
    wpList Try.prog ops Q (o :: rest) a w := by
  obtain ⟨i0, hi, hz0, hz1, hz2⟩ := info_parts infoR
  refine wpList_append_lies (P := Try.prog) w hgd s x 35 ho B 23 i0 _ 4 32 Try.underlying35 hi hz0 hz1 hz2 rfl (by decide) (.slice A L.length c) L.length (cR L) hs hown
    ⟨g0, 0, none⟩ 2 c0 (cR [r, r']) hx (by rw [cR_len]; rfl) (World.news_of_block hAt) (cR_one _) (by decide) (by unfold maxLen; omega) (by omega) hB w.heap.size rfl ?_
  intro g cap w' h1 h2 h3 h4
  refine h (some ⟨g, 0, none⟩) cap w' ?_ ⟨?_, ?_⟩
  · unfold OwR; rw [cR_app, List.length_append]; exact h1
  · rw [slice_block] at h2; exact h2
  · rw [slice_block] at h3
    rcases h3 with h3 | h3
    · exact .inl h3
    · right; show some g = _; rw [h3]

theorem step_app_rr {ops : Array Oper} {o : Oper} {a : Act} {w : World} {K : Act → World → Prop} {Q : Exit → Act → World → Prop} {E : Prop} (hgd : o.guard = none) (s x : Operand)
    (ho : o.op = .call { callee := .builtin .append, args := #[s, x], argTypes := #[35, 35] }) (A : Option Addr) (c : Nat) (L : List Rc) (hs : a.eval s = .slice A L.length c) (B : Nat) (hown : OwR w B A c L)
    (g0 : Nat) (r r' : Rc) (c0 : Nat) (hx : a.eval x = .slice (some ⟨g0, 0, none⟩) 2 c0) (hAt : At w g0 #[.int .i64 r.a, .int .i64 r.b, .int .i64 r.c, .int .i64 r.d, .int .i64 r'.a, .int .i64 r'.b, .int .i64 r'.c, .int .i64 r'.d] 23) (hlen : L.length ≤ 1000000000000) (hB : B ≤ w.heap.size)
    (h : ∀ A' c' w', OwR w' B A' c' (L ++ [r, r']) → Apd w w' A A' → K (a.put o.dst (.slice A' (L.length + 2) c')) w') :
    if Region.wanted o (yielded ops a.tmps) = true then Oper.wp Try.prog o a w K Q else E := by
  obtain ⟨i0, hi, hz0, hz1, hz2⟩ := info_parts infoR
  refine step_append_lies (P := Try.prog) w hgd s x 35 ho B 23 i0 _ 4 32 Try.underlying35 hi hz0 hz1 hz2 rfl (by decide) (.slice A L.length c) L.length (cR L) hs hown
    ⟨g0, 0, none⟩ 2 c0 (cR [r, r']) hx (by rw [cR_len]; rfl) (World.news_of_block hAt) (cR_one _) (by decide) (by unfold maxLen; omega) (by omega) hB w.heap.size rfl ?_
  intro g cap w' h1 h2 h3 h4
  refine h (some ⟨g, 0, none⟩) cap w' ?_ ⟨?_, ?_⟩
  · unfold OwR; rw [cR_app, List.length_append]; exact h1
  · rw [slice_block] at h2; exact h2
  · rw [slice_block] at h3
    rcases h3 with h3 | h3
    · exact .inl h3
    · right; show some g = _; rw [h3]

end Go.Proofs.Ytbhekpcjdpbahaa
