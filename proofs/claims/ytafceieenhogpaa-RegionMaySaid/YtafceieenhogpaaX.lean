/-
  What is proved: what 'append' does to a row of rectangles, of ints, of bands, that the call owns. No conditions but a bound on the length.
-/
import Derived.Test.YtafceieenhogpaaW
namespace Go.Proofs.Ytafceieenhogpaa
open Go.RowKit Go.Sort

/-- A band as it lies: its two heights, and the slice of its edges. -/
structure BV where
  y0 : Int
  y1 : Int
  v : Value
def c3 (r : BV) : List Value := [.int .i64 r.y0, .int .i64 r.y1, r.v]
def cB : List BV → List Value
  | [] => []
  | r :: l => c3 r ++ cB l
theorem cB_len : ∀ L : List BV, (cB L).length = L.length * 3
  | [] => rfl
  | r :: l => by unfold cB; rw [List.length_append, cB_len l]; simp [c3]; omega
theorem cB_app : ∀ L M : List BV, cB (L ++ M) = cB L ++ cB M
  | [], M => rfl
  | r :: l, M => by show c3 r ++ cB (l ++ M) = (c3 r ++ cB l) ++ cB M; rw [cB_app l M, List.append_assoc]
theorem cB_get : ∀ (L : List BV) (k : Nat) (r : BV) (j : Nat), L[k]? = some r → j < 3 → (cB L)[k * 3 + j]? = (c3 r)[j]?
  | [], k, r, j, h, _ => by simp at h
  | r' :: l, 0, r, j, h, hj => by
    simp at h; subst h
    unfold cB
    rw [List.getElem?_append_left (by simp [c3]; omega)]; simp
  | r' :: l, k + 1, r, j, h, hj => by
    unfold cB
    rw [List.getElem?_append_right (by simp [c3]; omega)]
    rw [show (k + 1) * 3 + j - (c3 r').length = k * 3 + j from by simp [c3]; omega]
    exact cB_get l k r j (by simpa using h) hj
theorem cB_set : ∀ (L : List BV) (k : Nat) (r r' : BV) (j : Nat) (u : Value), L[k]? = some r → j < 3 → c3 r' = (c3 r).set j u → cB (L.set k r') = (cB L).set (k * 3 + j) u
  | [], k, r, r', j, u, h, _, _ => by simp at h
  | q :: l, 0, r, r', j, u, h, hj, he => by
    simp at h; subst h
    simp only [List.set_cons_zero]
    unfold cB
    rw [he, List.set_append_left _ _ (by simp [c3]; omega)]; simp
  | q :: l, k + 1, r, r', j, u, h, hj, he => by
    simp only [List.set_cons_succ]
    show c3 q ++ cB (l.set k r') = (c3 q ++ cB l).set ((k + 1) * 3 + j) u
    rw [List.set_append_right _ _ (by simp [c3]; omega)]
    rw [show (k + 1) * 3 + j - (c3 q).length = k * 3 + j from by simp [c3]; omega]
    rw [cB_set l k r r' j u (by simpa using h) hj he]
def BV.one (r : BV) : Prop := r.v.oneCell' = true
theorem cB_one : ∀ (L : List BV), (∀ r ∈ L, r.one) → ∀ u ∈ cB L, u.oneCell' = true
  | [], _, u, h => by simp [cB] at h
  | r :: l, hL, u, h => by
    unfold cB at h
    rw [List.mem_append] at h
    rcases h with h | h
    · simp [c3] at h
      rcases h with h | h | h
      · subst h; rfl
      · subst h; rfl
      · subst h; exact hL r (by simp)
    · exact cB_one l (fun q hq => hL q (by simp [hq])) u h
def RowB (w : World) (b off : Nat) (L : List BV) : Prop := ∀ k r, L[k]? = some r → w.cell? ⟨b, off + k * 3, none⟩ = some (.int .i64 r.y0) ∧ w.cell? ⟨b, off + k * 3 + 1, none⟩ = some (.int .i64 r.y1) ∧
  w.cell? ⟨b, off + k * 3 + 2, none⟩ = some r.v
theorem RowB.bl {w w' : World} {b off : Nat} {L : List BV} (h : RowB w b off L) (g : Bl w w') : RowB w' b off L := fun k r hk => by
  obtain ⟨h1, h2, h3⟩ := h k r hk
  exact ⟨g.keep h1, g.keep h2, g.keep h3⟩
theorem RowB.grown {w w' : World} {b off : Nat} {L : List BV} {row : Option Nat} (h : RowB w b off L) (g : w.grownBy w' row) (hne : some b ≠ row) : RowB w' b off L := fun k r hk => by
  obtain ⟨h1, h2, h3⟩ := h k r hk
  exact ⟨g.cell h1 hne, g.cell h2 hne, g.cell h3 hne⟩
def OwB (w : World) (B : Nat) (A : Option Addr) (c : Nat) (L : List BV) : Prop := w.ownsRow B 92 3 (.slice A L.length c) L.length (cB L)
theorem OwB.nil (w : World) (B : Nat) : OwB w B none 0 [] := World.ownsRow_nil _ _ _ _
theorem OwB.addr {w : World} {B : Nat} {A : Option Addr} {c : Nat} {L : List BV} (h : OwB w B A c L) : (A = none ∧ c = 0 ∧ L = []) ∨ ∃ g, A = some ⟨g, 0, none⟩ ∧ B ≤ g ∧ g < w.heap.size := by
  rcases h.2 with ⟨h1, h2⟩ | ⟨g, cap, cur, h1, h2, h3, _⟩
  · left
    injection h1 with a b c'
    exact ⟨a, c', List.eq_nil_of_length_eq_zero h2⟩
  · right
    injection h1 with a b c'
    refine ⟨g, a, h2, ?_⟩
    rcases Nat.lt_or_ge g w.heap.size with hl | hl
    · exact hl
    · rw [Array.getElem?_eq_none hl] at h3; cases h3
theorem OwB.lies {w : World} {B : Nat} {A : Option Addr} {c : Nat} {L : List BV} (h : OwB w B A c L) : A = none ∨ ∃ k, A = some ⟨k, 0, none⟩ ∧ B ≤ k ∧ k < w.heap.size := by
  rcases h.addr with ⟨h1, _⟩ | h1
  · exact .inl h1
  · exact .inr h1
theorem OwB.cap {w : World} {B : Nat} {A : Option Addr} {c : Nat} {L : List BV} (h : OwB w B A c L) : L.length ≤ c := own_cap h rfl
theorem OwB.row {w : World} {B : Nat} {g c : Nat} {L : List BV} (h : OwB w B (some ⟨g, 0, none⟩) c L) : RowB w g 0 L := fun k r hk => by
  have hl : k < L.length := by
    rcases Nat.lt_or_ge k L.length with h' | h'
    · exact h'
    · rw [List.getElem?_eq_none h'] at hk; cases hk
  have q := fun j (hj : j < 3) => (World.ownsRow.cellAt h (k * 3 + j) (by omega)).trans (cB_get L k r j hk hj)
  refine ⟨?_, ?_, ?_⟩
  · simpa [c3] using q 0 (by omega)
  · simpa [c3] using q 1 (by omega)
  · simpa [c3] using q 2 (by omega)
theorem OwB.free {w : World} {B : Nat} {g c : Nat} {L : List BV} (h : OwB w B (some ⟨g, 0, none⟩) c L) (j : Nat) : w.frozen? ⟨g, j, none⟩ = false := World.ownsRow.frozenAt h j
theorem OwI.free {w : World} {B : Nat} {g c : Nat} {L : List Int} (h : OwI w B (some ⟨g, 0, none⟩) c L) (j : Nat) : w.frozen? ⟨g, j, none⟩ = false := World.ownsRow.frozenAt h j
theorem OwR.free {w : World} {B : Nat} {g c : Nat} {L : List Rc} (h : OwR w B (some ⟨g, 0, none⟩) c L) (j : Nat) : w.frozen? ⟨g, j, none⟩ = false := World.ownsRow.frozenAt h j
theorem OwB.grown {w w' : World} {B : Nat} {A : Option Addr} {c : Nat} {L : List BV} {row : Option Nat} (h : OwB w B A c L) (g : w.grownBy w' row) (hne : A = none ∨ A.map (·.block) ≠ row) : OwB w' B A c L :=
  World.ownsRow.kept h g (by rw [slice_block]; rcases hne with rfl | hne; exact .inl rfl; exact .inr hne)
theorem OwB.bl {w w' : World} {B : Nat} {A : Option Addr} {c : Nat} {L : List BV} (h : OwB w B A c L) (g : Bl w w') : OwB w' B A c L :=
  h.grown g.by (by cases A with | none => exact .inl rfl | some a => exact .inr (by simp))
theorem infoB : (Try.prog.info? 92).map (fun i => (i.zero, i.size, i.bytes)) = some (some (.agg #[.int .i64 0, .int .i64 0, .slice none 0 0]), 3, 40) := by kernel_rfl

theorem wp_app_r {ops : Array Oper} {rest : List Oper} {o : Oper} {a : Act} {w : World} {Q : Exit → Act → World → Prop} (hgd : o.guard = none) (s x : Operand)
    (ho : o.op = .call { callee := .builtin .append, args := #[s, x], argTypes := #[22, 22] }) (A : Option Addr) (c : Nat) (L : List Rc) (hs : a.eval s = .slice A L.length c) (B : Nat) (hown : OwR w B A c L)
    (g0 : Nat) (r : Rc) (c0 : Nat) (hx : a.eval x = .slice (some ⟨g0, 0, none⟩) 1 c0) (hAt : At w g0 #[.int .i64 r.a, .int .i64 r.b, .int .i64 r.c, .int .i64 r.d] 24) (hlen : L.length ≤ 1000000000000) (hB : B ≤ w.heap.size)
    (h : ∀ A' c' w', OwR w' B A' c' (L ++ [r]) → Apd w w' A A' → wpList Try.prog ops Q rest (a.put o.dst (.slice A' (L.length + 1) c')) w') :
    wpList Try.prog ops Q (o :: rest) a w := by
  obtain ⟨i0, hi, hz0, hz1, hz2⟩ := info_parts infoR
  refine wpList_append_lies (P := Try.prog) w hgd s x 22 ho B 24 i0 _ 4 32 Try.underlying22 hi hz0 hz1 hz2 rfl (by decide) (.slice A L.length c) L.length (cR L) hs hown
    ⟨g0, 0, none⟩ 1 c0 (cR [r]) hx (by rw [cR_len]; rfl) (World.news_of_block hAt) (cR_one _) (by decide) (by unfold maxLen; omega) (by omega) hB w.heap.size rfl ?_
  intro g cap w' h1 h2 h3 h4
  refine h (some ⟨g, 0, none⟩) cap w' ?_ ⟨?_, ?_⟩
  · unfold OwR; rw [cR_app, List.length_append]; exact h1
  · rw [slice_block] at h2; exact h2
  · rw [slice_block] at h3
    rcases h3 with h3 | h3
    · exact .inl h3
    · right; show some g = _; rw [h3]
theorem step_app_r {ops : Array Oper} {o : Oper} {a : Act} {w : World} {K : Act → World → Prop} {Q : Exit → Act → World → Prop} {E : Prop} (hgd : o.guard = none) (s x : Operand)
    (ho : o.op = .call { callee := .builtin .append, args := #[s, x], argTypes := #[22, 22] }) (A : Option Addr) (c : Nat) (L : List Rc) (hs : a.eval s = .slice A L.length c) (B : Nat) (hown : OwR w B A c L)
    (g0 : Nat) (r : Rc) (c0 : Nat) (hx : a.eval x = .slice (some ⟨g0, 0, none⟩) 1 c0) (hAt : At w g0 #[.int .i64 r.a, .int .i64 r.b, .int .i64 r.c, .int .i64 r.d] 24) (hlen : L.length ≤ 1000000000000) (hB : B ≤ w.heap.size)
    (h : ∀ A' c' w', OwR w' B A' c' (L ++ [r]) → Apd w w' A A' → K (a.put o.dst (.slice A' (L.length + 1) c')) w') :
    if Region.wanted o (yielded ops a.tmps) = true then Oper.wp Try.prog o a w K Q else E := by
  obtain ⟨i0, hi, hz0, hz1, hz2⟩ := info_parts infoR
  refine step_append_lies (P := Try.prog) w hgd s x 22 ho B 24 i0 _ 4 32 Try.underlying22 hi hz0 hz1 hz2 rfl (by decide) (.slice A L.length c) L.length (cR L) hs hown
    ⟨g0, 0, none⟩ 1 c0 (cR [r]) hx (by rw [cR_len]; rfl) (World.news_of_block hAt) (cR_one _) (by decide) (by unfold maxLen; omega) (by omega) hB w.heap.size rfl ?_
  intro g cap w' h1 h2 h3 h4
  refine h (some ⟨g, 0, none⟩) cap w' ?_ ⟨?_, ?_⟩
  · unfold OwR; rw [cR_app, List.length_append]; exact h1
  · rw [slice_block] at h2; exact h2
  · rw [slice_block] at h3
    rcases h3 with h3 | h3
    · exact .inl h3
    · right; show some g = _; rw [h3]
theorem wp_app_i {ops : Array Oper} {rest : List Oper} {o : Oper} {a : Act} {w : World} {Q : Exit → Act → World → Prop} (hgd : o.guard = none) (s x : Operand)
    (ho : o.op = .call { callee := .builtin .append, args := #[s, x], argTypes := #[90, 90] }) (A : Option Addr) (c : Nat) (L : List Int) (hs : a.eval s = .slice A L.length c) (B : Nat) (hown : OwI w B A c L)
    (g0 : Nat) (x0 : Int) (c0 : Nat) (hx : a.eval x = .slice (some ⟨g0, 0, none⟩) 1 c0) (hAt : At w g0 #[.int .i64 x0] 3) (hlen : L.length ≤ 1000000000000) (hB : B ≤ w.heap.size)
    (h : ∀ A' c' w', OwI w' B A' c' (L ++ [x0]) → Apd w w' A A' → wpList Try.prog ops Q rest (a.put o.dst (.slice A' (L.length + 1) c')) w') :
    wpList Try.prog ops Q (o :: rest) a w := by
  obtain ⟨i0, hi, hz0, hz1, hz2⟩ := info_parts infoI
  refine wpList_append_lies (P := Try.prog) w hgd s x 90 ho B 3 i0 _ 1 8 Try.underlying90 hi hz0 hz1 hz2 rfl (by decide) (.slice A L.length c) L.length (cI L) hs hown
    ⟨g0, 0, none⟩ 1 c0 (cI [x0]) hx (by rw [cI_len]; rfl) (World.news_of_block hAt) (cI_one _) (by decide) (by unfold maxLen; omega) (by omega) hB w.heap.size rfl ?_
  intro g cap w' h1 h2 h3 h4
  refine h (some ⟨g, 0, none⟩) cap w' ?_ ⟨?_, ?_⟩
  · unfold OwI; rw [cI_app, List.length_append]; exact h1
  · rw [slice_block] at h2; exact h2
  · rw [slice_block] at h3
    rcases h3 with h3 | h3
    · exact .inl h3
    · right; show some g = _; rw [h3]
theorem step_app_i {ops : Array Oper} {o : Oper} {a : Act} {w : World} {K : Act → World → Prop} {Q : Exit → Act → World → Prop} {E : Prop} (hgd : o.guard = none) (s x : Operand)
    (ho : o.op = .call { callee := .builtin .append, args := #[s, x], argTypes := #[90, 90] }) (A : Option Addr) (c : Nat) (L : List Int) (hs : a.eval s = .slice A L.length c) (B : Nat) (hown : OwI w B A c L)
    (g0 : Nat) (x0 : Int) (c0 : Nat) (hx : a.eval x = .slice (some ⟨g0, 0, none⟩) 1 c0) (hAt : At w g0 #[.int .i64 x0] 3) (hlen : L.length ≤ 1000000000000) (hB : B ≤ w.heap.size)
    (h : ∀ A' c' w', OwI w' B A' c' (L ++ [x0]) → Apd w w' A A' → K (a.put o.dst (.slice A' (L.length + 1) c')) w') :
    if Region.wanted o (yielded ops a.tmps) = true then Oper.wp Try.prog o a w K Q else E := by
  obtain ⟨i0, hi, hz0, hz1, hz2⟩ := info_parts infoI
  refine step_append_lies (P := Try.prog) w hgd s x 90 ho B 3 i0 _ 1 8 Try.underlying90 hi hz0 hz1 hz2 rfl (by decide) (.slice A L.length c) L.length (cI L) hs hown
    ⟨g0, 0, none⟩ 1 c0 (cI [x0]) hx (by rw [cI_len]; rfl) (World.news_of_block hAt) (cI_one _) (by decide) (by unfold maxLen; omega) (by omega) hB w.heap.size rfl ?_
  intro g cap w' h1 h2 h3 h4
  refine h (some ⟨g, 0, none⟩) cap w' ?_ ⟨?_, ?_⟩
  · unfold OwI; rw [cI_app, List.length_append]; exact h1
  · rw [slice_block] at h2; exact h2
  · rw [slice_block] at h3
    rcases h3 with h3 | h3
    · exact .inl h3
    · right; show some g = _; rw [h3]
theorem wp_app_ii {ops : Array Oper} {rest : List Oper} {o : Oper} {a : Act} {w : World} {Q : Exit → Act → World → Prop} (hgd : o.guard = none) (s x : Operand)
    (ho : o.op = .call { callee := .builtin .append, args := #[s, x], argTypes := #[90, 90] }) (A : Option Addr) (c : Nat) (L : List Int) (hs : a.eval s = .slice A L.length c) (B : Nat) (hown : OwI w B A c L)
    (g0 : Nat) (x0 x1 : Int) (c0 : Nat) (hx : a.eval x = .slice (some ⟨g0, 0, none⟩) 2 c0) (hAt : At w g0 #[.int .i64 x0, .int .i64 x1] 3) (hlen : L.length ≤ 1000000000000) (hB : B ≤ w.heap.size)
    (h : ∀ A' c' w', OwI w' B A' c' (L ++ [x0, x1]) → Apd w w' A A' → wpList Try.prog ops Q rest (a.put o.dst (.slice A' (L.length + 2) c')) w') :
    wpList Try.prog ops Q (o :: rest) a w := by
  obtain ⟨i0, hi, hz0, hz1, hz2⟩ := info_parts infoI
  refine wpList_append_lies (P := Try.prog) w hgd s x 90 ho B 3 i0 _ 1 8 Try.underlying90 hi hz0 hz1 hz2 rfl (by decide) (.slice A L.length c) L.length (cI L) hs hown
    ⟨g0, 0, none⟩ 2 c0 (cI [x0, x1]) hx (by rw [cI_len]; rfl) (World.news_of_block hAt) (cI_one _) (by decide) (by unfold maxLen; omega) (by omega) hB w.heap.size rfl ?_
  intro g cap w' h1 h2 h3 h4
  refine h (some ⟨g, 0, none⟩) cap w' ?_ ⟨?_, ?_⟩
  · unfold OwI; rw [cI_app, List.length_append]; exact h1
  · rw [slice_block] at h2; exact h2
  · rw [slice_block] at h3
    rcases h3 with h3 | h3
    · exact .inl h3
    · right; show some g = _; rw [h3]
theorem step_app_ii {ops : Array Oper} {o : Oper} {a : Act} {w : World} {K : Act → World → Prop} {Q : Exit → Act → World → Prop} {E : Prop} (hgd : o.guard = none) (s x : Operand)
    (ho : o.op = .call { callee := .builtin .append, args := #[s, x], argTypes := #[90, 90] }) (A : Option Addr) (c : Nat) (L : List Int) (hs : a.eval s = .slice A L.length c) (B : Nat) (hown : OwI w B A c L)
    (g0 : Nat) (x0 x1 : Int) (c0 : Nat) (hx : a.eval x = .slice (some ⟨g0, 0, none⟩) 2 c0) (hAt : At w g0 #[.int .i64 x0, .int .i64 x1] 3) (hlen : L.length ≤ 1000000000000) (hB : B ≤ w.heap.size)
    (h : ∀ A' c' w', OwI w' B A' c' (L ++ [x0, x1]) → Apd w w' A A' → K (a.put o.dst (.slice A' (L.length + 2) c')) w') :
    if Region.wanted o (yielded ops a.tmps) = true then Oper.wp Try.prog o a w K Q else E := by
  obtain ⟨i0, hi, hz0, hz1, hz2⟩ := info_parts infoI
  refine step_append_lies (P := Try.prog) w hgd s x 90 ho B 3 i0 _ 1 8 Try.underlying90 hi hz0 hz1 hz2 rfl (by decide) (.slice A L.length c) L.length (cI L) hs hown
    ⟨g0, 0, none⟩ 2 c0 (cI [x0, x1]) hx (by rw [cI_len]; rfl) (World.news_of_block hAt) (cI_one _) (by decide) (by unfold maxLen; omega) (by omega) hB w.heap.size rfl ?_
  intro g cap w' h1 h2 h3 h4
  refine h (some ⟨g, 0, none⟩) cap w' ?_ ⟨?_, ?_⟩
  · unfold OwI; rw [cI_app, List.length_append]; exact h1
  · rw [slice_block] at h2; exact h2
  · rw [slice_block] at h3
    rcases h3 with h3 | h3
    · exact .inl h3
    · right; show some g = _; rw [h3]
theorem wp_app_b {ops : Array Oper} {rest : List Oper} {o : Oper} {a : Act} {w : World} {Q : Exit → Act → World → Prop} (hgd : o.guard = none) (s x : Operand)
    (ho : o.op = .call { callee := .builtin .append, args := #[s, x], argTypes := #[87, 87] }) (A : Option Addr) (c : Nat) (L : List BV) (hs : a.eval s = .slice A L.length c) (B : Nat) (hown : OwB w B A c L)
    (g0 : Nat) (r : BV) (c0 : Nat) (hx : a.eval x = .slice (some ⟨g0, 0, none⟩) 1 c0) (hAt : At w g0 #[.int .i64 r.y0, .int .i64 r.y1, r.v] 92) (hone : r.one) (hlen : L.length ≤ 1000000000000) (hB : B ≤ w.heap.size)
    (h : ∀ A' c' w', OwB w' B A' c' (L ++ [r]) → Apd w w' A A' → wpList Try.prog ops Q rest (a.put o.dst (.slice A' (L.length + 1) c')) w') :
    wpList Try.prog ops Q (o :: rest) a w := by
  obtain ⟨i0, hi, hz0, hz1, hz2⟩ := info_parts infoB
  refine wpList_append_lies (P := Try.prog) w hgd s x 87 ho B 92 i0 _ 3 40 Try.underlying87 hi hz0 hz1 hz2 rfl (by decide) (.slice A L.length c) L.length (cB L) hs hown
    ⟨g0, 0, none⟩ 1 c0 (cB [r]) hx (by rw [cB_len]; rfl) (World.news_of_block hAt) (cB_one _ (by simpa using hone)) (by decide) (by unfold maxLen; omega) (by omega) hB w.heap.size rfl ?_
  intro g cap w' h1 h2 h3 h4
  refine h (some ⟨g, 0, none⟩) cap w' ?_ ⟨?_, ?_⟩
  · unfold OwB; rw [cB_app, List.length_append]; exact h1
  · rw [slice_block] at h2; exact h2
  · rw [slice_block] at h3
    rcases h3 with h3 | h3
    · exact .inl h3
    · right; show some g = _; rw [h3]
theorem step_app_b {ops : Array Oper} {o : Oper} {a : Act} {w : World} {K : Act → World → Prop} {Q : Exit → Act → World → Prop} {E : Prop} (hgd : o.guard = none) (s x : Operand)
    (ho : o.op = .call { callee := .builtin .append, args := #[s, x], argTypes := #[87, 87] }) (A : Option Addr) (c : Nat) (L : List BV) (hs : a.eval s = .slice A L.length c) (B : Nat) (hown : OwB w B A c L)
    (g0 : Nat) (r : BV) (c0 : Nat) (hx : a.eval x = .slice (some ⟨g0, 0, none⟩) 1 c0) (hAt : At w g0 #[.int .i64 r.y0, .int .i64 r.y1, r.v] 92) (hone : r.one) (hlen : L.length ≤ 1000000000000) (hB : B ≤ w.heap.size)
    (h : ∀ A' c' w', OwB w' B A' c' (L ++ [r]) → Apd w w' A A' → K (a.put o.dst (.slice A' (L.length + 1) c')) w') :
    if Region.wanted o (yielded ops a.tmps) = true then Oper.wp Try.prog o a w K Q else E := by
  obtain ⟨i0, hi, hz0, hz1, hz2⟩ := info_parts infoB
  refine step_append_lies (P := Try.prog) w hgd s x 87 ho B 92 i0 _ 3 40 Try.underlying87 hi hz0 hz1 hz2 rfl (by decide) (.slice A L.length c) L.length (cB L) hs hown
    ⟨g0, 0, none⟩ 1 c0 (cB [r]) hx (by rw [cB_len]; rfl) (World.news_of_block hAt) (cB_one _ (by simpa using hone)) (by decide) (by unfold maxLen; omega) (by omega) hB w.heap.size rfl ?_
  intro g cap w' h1 h2 h3 h4
  refine h (some ⟨g, 0, none⟩) cap w' ?_ ⟨?_, ?_⟩
  · unfold OwB; rw [cB_app, List.length_append]; exact h1
  · rw [slice_block] at h2; exact h2
  · rw [slice_block] at h3
    rcases h3 with h3 | h3
    · exact .inl h3
    · right; show some g = _; rw [h3]

end Go.Proofs.Ytafceieenhogpaa
