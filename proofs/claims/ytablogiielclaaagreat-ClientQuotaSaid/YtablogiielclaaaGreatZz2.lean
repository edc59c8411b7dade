/-
  What is proved: what 'append' does to a row of rectangles, of ints, of bands, that the call owns. No conditions but a bound on the length. what the small calls of package region on bands hand back. plain facts on rows of edges: a rising list of ints, and which ints have an odd number of them at or ahead of them; no Go in sight. what 'rectsOf' of package region hands back of bands.
-/
import Derived.Test.YtablogiielclaaaGreatZz1
import Derived.Handy
import Derived.StillTailTactics
import Derived.Deep.QuietTactic
import Derived.BigQuiet
import Derived.Deep.RegionHeld3
import Derived.IntWalk
namespace Go.Proofs.YtablogiielclaaaGreat
open Go.RowKit Go.Sort

/-- A band as it lies: its two heights, and the slice of its edges. -/
structure BV where
  y0 : Int
  y1 : Int
  v : Value
def c3 (r : BV) : List Value := [.int .i64 r.y0, .int .i64 r.y1, r.v]
def cB : List BV → List Value
  | [] => []
  | r :: l => c3 r ++ cB l
theorem cB_len : ∀ L : List BV, (cB L).length = L.length * 3
  | [] => rfl
  | r :: l => by unfold cB; rw [List.length_append, cB_len l]; simp [c3]; omega
theorem cB_app : ∀ L M : List BV, cB (L ++ M) = cB L ++ cB M
  | [], M => rfl
  | r :: l, M => by show c3 r ++ cB (l ++ M) = (c3 r ++ cB l) ++ cB M; rw [cB_app l M, List.append_assoc]
theorem cB_get : ∀ (L : List BV) (k : Nat) (r : BV) (j : Nat), L[k]? = some r → j < 3 → (cB L)[k * 3 + j]? = (c3 r)[j]?
  | [], k, r, j, h, _ => by simp at h
  | r' :: l, 0, r, j, h, hj => by
    simp at h; subst h
    unfold cB
    rw [List.getElem?_append_left (by simp [c3]; omega)]; simp
  | r' :: l, k + 1, r, j, h, hj => by
    unfold cB
    rw [List.getElem?_append_right (by simp [c3]; omega)]
    rw [show (k + 1) * 3 + j - (c3 r').length = k * 3 + j from by simp [c3]; omega]
    exact cB_get l k r j (by simpa using h) hj
theorem cB_set : ∀ (L : List BV) (k : Nat) (r r' : BV) (j : Nat) (u : Value), L[k]? = some r → j < 3 → c3 r' = (c3 r).set j u → cB (L.set k r') = (cB L).set (k * 3 + j) u
  | [], k, r, r', j, u, h, _, _ => by simp at h
  | q :: l, 0, r, r', j, u, h, hj, he => by
    simp at h; subst h
    simp only [List.set_cons_zero]
    unfold cB
    rw [he, List.set_append_left _ _ (by simp [c3]; omega)]; simp
  | q :: l, k + 1, r, r', j, u, h, hj, he => by
    simp only [List.set_cons_succ]
    show c3 q ++ cB (l.set k r') = (c3 q ++ cB l).set ((k + 1) * 3 + j) u
    rw [List.set_append_right _ _ (by simp [c3]; omega)]
    rw [show (k + 1) * 3 + j - (c3 q).length = k * 3 + j from by simp [c3]; omega]
    rw [cB_set l k r r' j u (by simpa using h) hj he]
def BV.one (r : BV) : Prop := r.v.oneCell' = true
theorem cB_one : ∀ (L : List BV), (∀ r ∈ L, r.one) → ∀ u ∈ cB L, u.oneCell' = true
  | [], _, u, h => by simp [cB] at h
  | r :: l, hL, u, h => by
    unfold cB at h
    rw [List.mem_append] at h
    rcases h with h | h
    · simp [c3] at h
      rcases h with h | h | h
      · subst h; rfl
      · subst h; rfl
      · subst h; exact hL r (by simp)
    · exact cB_one l (fun q hq => hL q (by simp [hq])) u h
def RowB (w : World) (b off : Nat) (L : List BV) : Prop := ∀ k r, L[k]? = some r → w.cell? ⟨b, off + k * 3, none⟩ = some (.int .i64 r.y0) ∧ w.cell? ⟨b, off + k * 3 + 1, none⟩ = some (.int .i64 r.y1) ∧
  w.cell? ⟨b, off + k * 3 + 2, none⟩ = some r.v
theorem RowB.bl {w w' : World} {b off : Nat} {L : List BV} (h : RowB w b off L) (g : Bl w w') : RowB w' b off L := fun k r hk => by
  obtain ⟨h1, h2, h3⟩ := h k r hk
  exact ⟨g.keep h1, g.keep h2, g.keep h3⟩
theorem RowB.grown {w w' : World} {b off : Nat} {L : List BV} {row : Option Nat} (h : RowB w b off L) (g : w.grownBy w' row) (hne : some b ≠ row) : RowB w' b off L := fun k r hk => by
  obtain ⟨h1, h2, h3⟩ := h k r hk
  exact ⟨g.cell h1 hne, g.cell h2 hne, g.cell h3 hne⟩
def OwB (w : World) (B : Nat) (A : Option Addr) (c : Nat) (L : List BV) : Prop := w.ownsRow B 287 3 (.slice A L.length c) L.length (cB L)
theorem OwB.nil (w : World) (B : Nat) : OwB w B none 0 [] := World.ownsRow_nil _ _ _ _
theorem OwB.addr {w : World} {B : Nat} {A : Option Addr} {c : Nat} {L : List BV} (h : OwB w B A c L) : (A = none ∧ c = 0 ∧ L = []) ∨ ∃ g, A = some ⟨g, 0, none⟩ ∧ B ≤ g ∧ g < w.heap.size := by
  rcases h.2 with ⟨h1, h2⟩ | ⟨g, cap, cur, h1, h2, h3, _⟩
  · left
    injection h1 with a b c'
    exact ⟨a, c', List.eq_nil_of_length_eq_zero h2⟩
  · right
    injection h1 with a b c'
    refine ⟨g, a, h2, ?_⟩
    rcases Nat.lt_or_ge g w.heap.size with hl | hl
    · exact hl
    · rw [Array.getElem?_eq_none hl] at h3; cases h3
theorem OwB.lies {w : World} {B : Nat} {A : Option Addr} {c : Nat} {L : List BV} (h : OwB w B A c L) : A = none ∨ ∃ k, A = some ⟨k, 0, none⟩ ∧ B ≤ k ∧ k < w.heap.size := by
  rcases h.addr with ⟨h1, _⟩ | h1
  · exact .inl h1
  · exact .inr h1
theorem OwB.cap {w : World} {B : Nat} {A : Option Addr} {c : Nat} {L : List BV} (h : OwB w B A c L) : L.length ≤ c := own_cap h rfl
theorem OwB.row {w : World} {B : Nat} {g c : Nat} {L : List BV} (h : OwB w B (some ⟨g, 0, none⟩) c L) : RowB w g 0 L := fun k r hk => by
  have hl : k < L.length := by
    rcases Nat.lt_or_ge k L.length with h' | h'
    · exact h'
    · rw [List.getElem?_eq_none h'] at hk; cases hk
  have q := fun j (hj : j < 3) => (World.ownsRow.cellAt h (k * 3 + j) (by omega)).trans (cB_get L k r j hk hj)
  refine ⟨?_, ?_, ?_⟩
  · simpa [c3] using q 0 (by omega)
  · simpa [c3] using q 1 (by omega)
  · simpa [c3] using q 2 (by omega)
theorem OwB.free {w : World} {B : Nat} {g c : Nat} {L : List BV} (h : OwB w B (some ⟨g, 0, none⟩) c L) (j : Nat) : w.frozen? ⟨g, j, none⟩ = false := World.ownsRow.frozenAt h j
theorem OwI.free {w : World} {B : Nat} {g c : Nat} {L : List Int} (h : OwI w B (some ⟨g, 0, none⟩) c L) (j : Nat) : w.frozen? ⟨g, j, none⟩ = false := World.ownsRow.frozenAt h j
theorem OwR.free {w : World} {B : Nat} {g c : Nat} {L : List Rc} (h : OwR w B (some ⟨g, 0, none⟩) c L) (j : Nat) : w.frozen? ⟨g, j, none⟩ = false := World.ownsRow.frozenAt h j
theorem OwB.grown {w w' : World} {B : Nat} {A : Option Addr} {c : Nat} {L : List BV} {row : Option Nat} (h : OwB w B A c L) (g : w.grownBy w' row) (hne : A = none ∨ A.map (·.block) ≠ row) : OwB w' B A c L :=
  World.ownsRow.kept h g (by rw [slice_block]; rcases hne with rfl | hne; exact .inl rfl; exact .inr hne)
theorem OwB.bl {w w' : World} {B : Nat} {A : Option Addr} {c : Nat} {L : List BV} (h : OwB w B A c L) (g : Bl w w') : OwB w' B A c L :=
  h.grown g.by (by cases A with | none => exact .inl rfl | some a => exact .inr (by simp))
theorem infoB : (Tryz.prog.info? 287).map (fun i => (i.zero, i.size, i.bytes)) = some (some (.agg #[.int .i64 0, .int .i64 0, .slice none 0 0]), 3, 40) := by kernel_rfl

theorem wp_app_r {ops : Array Oper} {rest : List Oper} {o : Oper} {a : Act} {w : World} {Q : Exit → Act → World → Prop} (hgd : o.guard = none) (s x : Operand)
    (ho : o.op = .call { callee := .builtin .append, args := #[s, x], argTypes := #[32, 32] }) (A : Option Addr) (c : Nat) (L : List Rc) (hs : a.eval s = .slice A L.length c) (B : Nat) (hown : OwR w B A c L)
    (g0 : Nat) (r : Rc) (c0 : Nat) (hx : a.eval x = .slice (some ⟨g0, 0, none⟩) 1 c0) (hAt : At w g0 #[.int .i64 r.a, .int .i64 r.b, .int .i64 r.c, .int .i64 r.d] 31) (hlen : L.length ≤ 1000000000000) (hB : B ≤ w.heap.size)
    (h : ∀ A' c' w', OwR w' B A' c' (L ++ [r]) → Apd w w' A A' → wpList Tryz.prog ops Q rest (a.put o.dst (.slice A' (L.length + 1) c')) w') :
    wpList Tryz.prog ops Q (o :: rest) a w := by
  obtain ⟨i0, hi, hz0, hz1, hz2⟩ := info_parts infoR
  refine wpList_append_lies (P := Tryz.prog) w hgd s x 32 ho B 31 i0 _ 4 32 Tryz.underlying32 hi hz0 hz1 hz2 rfl (by decide) (.slice A L.length c) L.length (cR L) hs hown
    ⟨g0, 0, none⟩ 1 c0 (cR [r]) hx (by rw [cR_len]; rfl) (World.news_of_block hAt) (cR_one _) (by decide) (by unfold maxLen; omega) (by omega) hB w.heap.size rfl ?_
  intro g cap w' h1 h2 h3 h4
  refine h (some ⟨g, 0, none⟩) cap w' ?_ ⟨?_, ?_⟩
  · unfold OwR; rw [cR_app, List.length_append]; exact h1
  · rw [slice_block] at h2; exact h2
  · rw [slice_block] at h3
    rcases h3 with h3 | h3
    · exact .inl h3
    · right; show some g = _; rw [h3]
theorem step_app_r {ops : Array Oper} {o : Oper} {a : Act} {w : World} {K : Act → World → Prop} {Q : Exit → Act → World → Prop} {E : Prop} (hgd : o.guard = none) (s x : Operand)
    (ho : o.op = .call { callee := .builtin .append, args := #[s, x], argTypes := #[32, 32] }) (A : Option Addr) (c : Nat) (L : List Rc) (hs : a.eval s = .slice A L.length c) (B : Nat) (hown : OwR w B A c L)
    (g0 : Nat) (r : Rc) (c0 : Nat) (hx : a.eval x = .slice (some ⟨g0, 0, none⟩) 1 c0) (hAt : At w g0 #[.int .i64 r.a, .int .i64 r.b, .int .i64 r.c, .int .i64 r.d] 31) (hlen : L.length ≤ 1000000000000) (hB : B ≤ w.heap.size)
    (h : ∀ A' c' w', OwR w' B A' c' (L ++ [r]) → Apd w w' A A' → K (a.put o.dst (.slice A' (L.length + 1) c')) w') :
    if Region.wanted o (yielded ops a.tmps) = true then Oper.wp Tryz.prog o a w K Q else E := by
  obtain ⟨i0, hi, hz0, hz1, hz2⟩ := info_parts infoR
  refine step_append_lies (P := Tryz.prog) w hgd s x 32 ho B 31 i0 _ 4 32 Tryz.underlying32 hi hz0 hz1 hz2 rfl (by decide) (.slice A L.length c) L.length (cR L) hs hown
    ⟨g0, 0, none⟩ 1 c0 (cR [r]) hx (by rw [cR_len]; rfl) (World.news_of_block hAt) (cR_one _) (by decide) (by unfold maxLen; omega) (by omega) hB w.heap.size rfl ?_
  intro g cap w' h1 h2 h3 h4
  refine h (some ⟨g, 0, none⟩) cap w' ?_ ⟨?_, ?_⟩
  · unfold OwR; rw [cR_app, List.length_append]; exact h1
  · rw [slice_block] at h2; exact h2
  · rw [slice_block] at h3
    rcases h3 with h3 | h3
    · exact .inl h3
    · right; show some g = _; rw [h3]
theorem wp_app_i {ops : Array Oper} {rest : List Oper} {o : Oper} {a : Act} {w : World} {Q : Exit → Act → World → Prop} (hgd : o.guard = none) (s x : Operand)
    (ho : o.op = .call { callee := .builtin .append, args := #[s, x], argTypes := #[35, 35] }) (A : Option Addr) (c : Nat) (L : List Int) (hs : a.eval s = .slice A L.length c) (B : Nat) (hown : OwI w B A c L)
    (g0 : Nat) (x0 : Int) (c0 : Nat) (hx : a.eval x = .slice (some ⟨g0, 0, none⟩) 1 c0) (hAt : At w g0 #[.int .i64 x0] 3) (hlen : L.length ≤ 1000000000000) (hB : B ≤ w.heap.size)
    (h : ∀ A' c' w', OwI w' B A' c' (L ++ [x0]) → Apd w w' A A' → wpList Tryz.prog ops Q rest (a.put o.dst (.slice A' (L.length + 1) c')) w') :
    wpList Tryz.prog ops Q (o :: rest) a w := by
  obtain ⟨i0, hi, hz0, hz1, hz2⟩ := info_parts infoI
  refine wpList_append_lies (P := Tryz.prog) w hgd s x 35 ho B 3 i0 _ 1 8 Tryz.underlying35 hi hz0 hz1 hz2 rfl (by decide) (.slice A L.length c) L.length (cI L) hs hown
    ⟨g0, 0, none⟩ 1 c0 (cI [x0]) hx (by rw [cI_len]; rfl) (World.news_of_block hAt) (cI_one _) (by decide) (by unfold maxLen; omega) (by omega) hB w.heap.size rfl ?_
  intro g cap w' h1 h2 h3 h4
  refine h (some ⟨g, 0, none⟩) cap w' ?_ ⟨?_, ?_⟩
  · unfold OwI; rw [cI_app, List.length_append]; exact h1
  · rw [slice_block] at h2; exact h2
  · rw [slice_block] at h3
    rcases h3 with h3 | h3
    · exact .inl h3
    · right; show some g = _; rw [h3]
theorem step_app_i {ops : Array Oper} {o : Oper} {a : Act} {w : World} {K : Act → World → Prop} {Q : Exit → Act → World → Prop} {E : Prop} (hgd : o.guard = none) (s x : Operand)
    (ho : o.op = .call { callee := .builtin .append, args := #[s, x], argTypes := #[35, 35] }) (A : Option Addr) (c : Nat) (L : List Int) (hs : a.eval s = .slice A L.length c) (B : Nat) (hown : OwI w B A c L)
    (g0 : Nat) (x0 : Int) (c0 : Nat) (hx : a.eval x = .slice (some ⟨g0, 0, none⟩) 1 c0) (hAt : At w g0 #[.int .i64 x0] 3) (hlen : L.length ≤ 1000000000000) (hB : B ≤ w.heap.size)
    (h : ∀ A' c' w', OwI w' B A' c' (L ++ [x0]) → Apd w w' A A' → K (a.put o.dst (.slice A' (L.length + 1) c')) w') :
    if Region.wanted o (yielded ops a.tmps) = true then Oper.wp Tryz.prog o a w K Q else E := by
  obtain ⟨i0, hi, hz0, hz1, hz2⟩ := info_parts infoI
  refine step_append_lies (P := Tryz.prog) w hgd s x 35 ho B 3 i0 _ 1 8 Tryz.underlying35 hi hz0 hz1 hz2 rfl (by decide) (.slice A L.length c) L.length (cI L) hs hown
    ⟨g0, 0, none⟩ 1 c0 (cI [x0]) hx (by rw [cI_len]; rfl) (World.news_of_block hAt) (cI_one _) (by decide) (by unfold maxLen; omega) (by omega) hB w.heap.size rfl ?_
  intro g cap w' h1 h2 h3 h4
  refine h (some ⟨g, 0, none⟩) cap w' ?_ ⟨?_, ?_⟩
  · unfold OwI; rw [cI_app, List.length_append]; exact h1
  · rw [slice_block] at h2; exact h2
  · rw [slice_block] at h3
    rcases h3 with h3 | h3
    · exact .inl h3
    · right; show some g = _; rw [h3]
theorem wp_app_ii {ops : Array Oper} {rest : List Oper} {o : Oper} {a : Act} {w : World} {Q : Exit → Act → World → Prop} (hgd : o.guard = none) (s x : Operand)
    (ho : o.op = .call { callee := .builtin .append, args := #[s, x], argTypes := #[35, 35] }) (A : Option Addr) (c : Nat) (L : List Int) (hs : a.eval s = .slice A L.length c) (B : Nat) (hown : OwI w B A c L)
    (g0 : Nat) (x0 x1 : Int) (c0 : Nat) (hx : a.eval x = .slice (some ⟨g0, 0, none⟩) 2 c0) (hAt : At w g0 #[.int .i64 x0, .int .i64 x1] 3) (hlen : L.length ≤ 1000000000000) (hB : B ≤ w.heap.size)
    (h : ∀ A' c' w', OwI w' B A' c' (L ++ [x0, x1]) → Apd w w' A A' → wpList Tryz.prog ops Q rest (a.put o.dst (.slice A' (L.length + 2) c')) w') :
    wpList Tryz.prog ops Q (o :: rest) a w := by
  obtain ⟨i0, hi, hz0, hz1, hz2⟩ := info_parts infoI
  refine wpList_append_lies (P := Tryz.prog) w hgd s x 35 ho B 3 i0 _ 1 8 Tryz.underlying35 hi hz0 hz1 hz2 rfl (by decide) (.slice A L.length c) L.length (cI L) hs hown
    ⟨g0, 0, none⟩ 2 c0 (cI [x0, x1]) hx (by rw [cI_len]; rfl) (World.news_of_block hAt) (cI_one _) (by decide) (by unfold maxLen; omega) (by omega) hB w.heap.size rfl ?_
  intro g cap w' h1 h2 h3 h4
  refine h (some ⟨g, 0, none⟩) cap w' ?_ ⟨?_, ?_⟩
  · unfold OwI; rw [cI_app, List.length_append]; exact h1
  · rw [slice_block] at h2; exact h2
  · rw [slice_block] at h3
    rcases h3 with h3 | h3
    · exact .inl h3
    · right; show some g = _; rw [h3]
theorem step_app_ii {ops : Array Oper} {o : Oper} {a : Act} {w : World} {K : Act → World → Prop} {Q : Exit → Act → World → Prop} {E : Prop} (hgd : o.guard = none) (s x : Operand)
    (ho : o.op = .call { callee := .builtin .append, args := #[s, x], argTypes := #[35, 35] }) (A : Option Addr) (c : Nat) (L : List Int) (hs : a.eval s = .slice A L.length c) (B : Nat) (hown : OwI w B A c L)
    (g0 : Nat) (x0 x1 : Int) (c0 : Nat) (hx : a.eval x = .slice (some ⟨g0, 0, none⟩) 2 c0) (hAt : At w g0 #[.int .i64 x0, .int .i64 x1] 3) (hlen : L.length ≤ 1000000000000) (hB : B ≤ w.heap.size)
    (h : ∀ A' c' w', OwI w' B A' c' (L ++ [x0, x1]) → Apd w w' A A' → K (a.put o.dst (.slice A' (L.length + 2) c')) w') :
    if Region.wanted o (yielded ops a.tmps) = true then Oper.wp Tryz.prog o a w K Q else E := by
  obtain ⟨i0, hi, hz0, hz1, hz2⟩ := info_parts infoI
  refine step_append_lies (P := Tryz.prog) w hgd s x 35 ho B 3 i0 _ 1 8 Tryz.underlying35 hi hz0 hz1 hz2 rfl (by decide) (.slice A L.length c) L.length (cI L) hs hown
    ⟨g0, 0, none⟩ 2 c0 (cI [x0, x1]) hx (by rw [cI_len]; rfl) (World.news_of_block hAt) (cI_one _) (by decide) (by unfold maxLen; omega) (by omega) hB w.heap.size rfl ?_
  intro g cap w' h1 h2 h3 h4
  refine h (some ⟨g, 0, none⟩) cap w' ?_ ⟨?_, ?_⟩
  · unfold OwI; rw [cI_app, List.length_append]; exact h1
  · rw [slice_block] at h2; exact h2
  · rw [slice_block] at h3
    rcases h3 with h3 | h3
    · exact .inl h3
    · right; show some g = _; rw [h3]
theorem wp_app_b {ops : Array Oper} {rest : List Oper} {o : Oper} {a : Act} {w : World} {Q : Exit → Act → World → Prop} (hgd : o.guard = none) (s x : Operand)
    (ho : o.op = .call { callee := .builtin .append, args := #[s, x], argTypes := #[279, 279] }) (A : Option Addr) (c : Nat) (L : List BV) (hs : a.eval s = .slice A L.length c) (B : Nat) (hown : OwB w B A c L)
    (g0 : Nat) (r : BV) (c0 : Nat) (hx : a.eval x = .slice (some ⟨g0, 0, none⟩) 1 c0) (hAt : At w g0 #[.int .i64 r.y0, .int .i64 r.y1, r.v] 287) (hone : r.one) (hlen : L.length ≤ 1000000000000) (hB : B ≤ w.heap.size)
    (h : ∀ A' c' w', OwB w' B A' c' (L ++ [r]) → Apd w w' A A' → wpList Tryz.prog ops Q rest (a.put o.dst (.slice A' (L.length + 1) c')) w') :
    wpList Tryz.prog ops Q (o :: rest) a w := by
  obtain ⟨i0, hi, hz0, hz1, hz2⟩ := info_parts infoB
  refine wpList_append_lies (P := Tryz.prog) w hgd s x 279 ho B 287 i0 _ 3 40 Tryz.underlying279 hi hz0 hz1 hz2 rfl (by decide) (.slice A L.length c) L.length (cB L) hs hown
    ⟨g0, 0, none⟩ 1 c0 (cB [r]) hx (by rw [cB_len]; rfl) (World.news_of_block hAt) (cB_one _ (by simpa using hone)) (by decide) (by unfold maxLen; omega) (by omega) hB w.heap.size rfl ?_
  intro g cap w' h1 h2 h3 h4
  refine h (some ⟨g, 0, none⟩) cap w' ?_ ⟨?_, ?_⟩
  · unfold OwB; rw [cB_app, List.length_append]; exact h1
  · rw [slice_block] at h2; exact h2
  · rw [slice_block] at h3
    rcases h3 with h3 | h3
    · exact .inl h3
    · right; show some g = _; rw [h3]
theorem step_app_b {ops : Array Oper} {o : Oper} {a : Act} {w : World} {K : Act → World → Prop} {Q : Exit → Act → World → Prop} {E : Prop} (hgd : o.guard = none) (s x : Operand)
    (ho : o.op = .call { callee := .builtin .append, args := #[s, x], argTypes := #[279, 279] }) (A : Option Addr) (c : Nat) (L : List BV) (hs : a.eval s = .slice A L.length c) (B : Nat) (hown : OwB w B A c L)
    (g0 : Nat) (r : BV) (c0 : Nat) (hx : a.eval x = .slice (some ⟨g0, 0, none⟩) 1 c0) (hAt : At w g0 #[.int .i64 r.y0, .int .i64 r.y1, r.v] 287) (hone : r.one) (hlen : L.length ≤ 1000000000000) (hB : B ≤ w.heap.size)
    (h : ∀ A' c' w', OwB w' B A' c' (L ++ [r]) → Apd w w' A A' → K (a.put o.dst (.slice A' (L.length + 1) c')) w') :
    if Region.wanted o (yielded ops a.tmps) = true then Oper.wp Tryz.prog o a w K Q else E := by
  obtain ⟨i0, hi, hz0, hz1, hz2⟩ := info_parts infoB
  refine step_append_lies (P := Tryz.prog) w hgd s x 279 ho B 287 i0 _ 3 40 Tryz.underlying279 hi hz0 hz1 hz2 rfl (by decide) (.slice A L.length c) L.length (cB L) hs hown
    ⟨g0, 0, none⟩ 1 c0 (cB [r]) hx (by rw [cB_len]; rfl) (World.news_of_block hAt) (cB_one _ (by simpa using hone)) (by decide) (by unfold maxLen; omega) (by omega) hB w.heap.size rfl ?_
  intro g cap w' h1 h2 h3 h4
  refine h (some ⟨g, 0, none⟩) cap w' ?_ ⟨?_, ?_⟩
  · unfold OwB; rw [cB_app, List.length_append]; exact h1
  · rw [slice_block] at h2; exact h2
  · rw [slice_block] at h3
    rcases h3 with h3 | h3
    · exact .inl h3
    · right; show some g = _; rw [h3]

end Go.Proofs.YtablogiielclaaaGreat
namespace Go.Proofs.YtablogiielclaaaGreat
open Go.RowKit Go.Sort

theorem own_ne_at {w : World} {B s n m c g : Nat} {e : TypeId} {A : Option Addr} {xs : List Value} {cs : Array Value} {t : TypeId} (h : w.ownsRow B e s (.slice A m c) n xs) (h' : At w g cs t) (hne : e ≠ t) : some g ≠ A.map (·.block) := by
  rcases h.2 with ⟨h1, _⟩ | ⟨x, cap, cur, h1, _, h3, _⟩
  · injection h1 with h1; subst h1; simp
  · injection h1 with h1
    subst h1
    intro he
    simp at he
    subst he
    unfold At at h'
    rw [h'] at h3
    injection h3 with h3
    injection h3 with _ h4
    exact hne h4.symm
theorem OwI.ne_at {w : World} {B c g : Nat} {A : Option Addr} {L : List Int} {cs : Array Value} {t : TypeId} (h : OwI w B A c L) (h' : At w g cs t) (hne : 3 ≠ t) : some g ≠ A.map (·.block) := own_ne_at h h' hne
theorem OwB.ne_at {w : World} {B c g : Nat} {A : Option Addr} {L : List BV} {cs : Array Value} {t : TypeId} (h : OwB w B A c L) (h' : At w g cs t) (hne : 287 ≠ t) : some g ≠ A.map (·.block) := own_ne_at h h' hne
theorem OwR.ne_at {w : World} {B c g : Nat} {A : Option Addr} {L : List Rc} {cs : Array Value} {t : TypeId} (h : OwR w B A c L) (h' : At w g cs t) (hne : 31 ≠ t) : some g ≠ A.map (·.block) := own_ne_at h h' hne
theorem At.new2 (w : World) (o : Obj) (cs : Array Value) (t : TypeId) : At ((w.alloc o).alloc (.cells cs t)) (w.heap.size + 1) cs t := by
  have := At.new (w.alloc o) cs t
  simp only [World.size_alloc] at this
  exact this

/-- A band: what it is, and how it lies. -/
structure Bn where
  y0 : Int
  y1 : Int
  E : List Int
structure BW where
  y0 : Int
  y1 : Int
  E : List Int
  A : Option Addr
  c : Nat
def BW.bn (r : BW) : Bn := ⟨r.y0, r.y1, r.E⟩
def BW.bv (r : BW) : BV := ⟨r.y0, r.y1, .slice r.A r.E.length r.c⟩
def BW.ok (w : World) (r : BW) : Prop := r.E.length ≤ r.c ∧ Is w r.A r.E
theorem BW.ok.bl {w w' : World} {r : BW} (h : r.ok w) (g : Bl w w') : r.ok w' := ⟨h.1, h.2.bl g⟩
def Bs (w : World) (A : Option Addr) (l : List BW) : Prop := (l = [] ∨ ∃ b off, A = some ⟨b, off, none⟩ ∧ RowB w b off (l.map BW.bv)) ∧ ∀ r ∈ l, r.ok w
theorem Bs.bl {w w' : World} {A : Option Addr} {l : List BW} (h : Bs w A l) (g : Bl w w') : Bs w' A l := by
  refine ⟨?_, fun r hr => (h.2 r hr).bl g⟩
  rcases h.1 with h1 | ⟨b, off, h1, h2⟩
  · exact .inl h1
  · exact .inr ⟨b, off, h1, h2.bl g⟩
theorem Bs.opened {w : World} {A : Option Addr} {l : List BW} (h : Bs w A l) (hn : 0 < l.length) : ∃ b off, A = some ⟨b, off, none⟩ ∧ RowB w b off (l.map BW.bv) := by
  rcases h.1 with h | h
  · subst h; simp at hn
  · exact h
theorem RowB.at_ {w : World} {b off : Nat} {l : List BW} (h : RowB w b off (l.map BW.bv)) {k : Nat} {r : BW} (hk : l[k]? = some r) : w.cell? ⟨b, off + k * 3, none⟩ = some (.int .i64 r.y0) ∧ w.cell? ⟨b, off + k * 3 + 1, none⟩ = some (.int .i64 r.y1) ∧
    w.cell? ⟨b, off + k * 3 + 2, none⟩ = some (.slice r.A r.E.length r.c) := by
  have := h k r.bv (by simp [hk])
  exact this
def edgesL (l : List Bn) (y : Int) : List Int := match l with | [] => [] | b :: _ => if y < b.y0 then [] else b.E
def fromL (y : Int) : List Bn → List Bn
  | [] => []
  | b :: l => if b.y1 ≤ y then fromL y l else b :: l

/-- A slice of ints is handed back, nothing has turned. -/
def RI (w : World) (Q : List Int → Prop) (e : Ending) (w' : World) : Prop := ∃ (A : Option Addr) (c : Nat) (E : List Int), e = .returned (.slice A E.length c) ∧ E.length ≤ c ∧ Is w' A E ∧ Q E ∧ w = w'
def RB (w : World) (Q : List Bn → Prop) (e : Ending) (w' : World) : Prop := ∃ (A : Option Addr) (c : Nat) (l : List BW), e = .returned (.slice A l.length c) ∧ l.length ≤ c ∧ Bs w' A l ∧ Q (l.map BW.bn) ∧ w = w'

/-- A slice of ints is handed back, in memory of the call's own. -/
def RN (w : World) (Q : List Int → Prop) (e : Ending) (w' : World) : Prop := ∃ (A : Option Addr) (c : Nat) (E : List Int), e = .returned (.slice A E.length c) ∧ OwI w' w.heap.size A c E ∧ Q E ∧ Bl w w'

set_option maxHeartbeats 1000000 in
theorem edgesAt1 (A : Option Addr) (c : Nat) (l : List BW) (y : Int) (w : World) (h : Bs w A l) :
    Calls Tryz.prog 214 #[.slice A l.length c, .int .i64 y] w (RI w (fun E => E = edgesL (l.map BW.bn) y)) := by
  cases l with
  | nil =>
    go_enter Tryz.func214, Tryz.ntmps214
    go_wp2
    go_ret
    exact ⟨none, 0, [], rfl, by simp, .inl rfl, rfl, rfl⟩
  | cons r l =>
    obtain ⟨b, off, rfl, hr⟩ := h.opened (by simp)
    obtain ⟨e1, e2, e3⟩ := hr.at_ (k := 0) (r := r) rfl
    obtain ⟨o1, o2⟩ := h.2 r (by simp)
    simp only [Nat.zero_mul, Nat.add_zero] at e1 e2 e3
    clear hr h
    have hn : 0 < (r :: l).length := by simp
    obtain ⟨n, hN⟩ : ∃ n, n = (r :: l).length := ⟨_, rfl⟩
    rw [← hN] at hn ⊢
    have HN := Lib.hid hN
    clear hN
    by_cases hy : y < r.y0
    · go_enter Tryz.func214, Tryz.ntmps214
      go_wp2
      go_ret
      exact ⟨none, 0, [], rfl, by simp, .inl rfl, by simp [edgesL, BW.bn, hy], rfl⟩
    · go_enter Tryz.func214, Tryz.ntmps214
      go_wp2
      go_ret
      exact ⟨r.A, r.c, r.E, rfl, o1, o2, by show r.E = if y < r.y0 then [] else r.E; rw [if_neg (by omega)], rfl⟩

theorem Bs.tail {w : World} {b off : Nat} {r : BW} {l : List BW} (h : Bs w (some ⟨b, off, none⟩) (r :: l)) : Bs w (some ⟨b, off + 3, none⟩) l := by
  refine ⟨.inr ⟨b, off + 3, rfl, fun k q hk => ?_⟩, fun q hq => h.2 q (by simp [hq])⟩
  obtain ⟨b', off', he, hr⟩ := h.opened (by simp)
  injection he with he
  injection he with h1 h2
  subst h1 h2
  have := hr (k + 1) q (by simpa using hk)
  rw [show off + (k + 1) * 3 = off + 3 + k * 3 from by omega] at this
  exact this

set_option maxHeartbeats 1000000 in
theorem from1 (A : Option Addr) (c : Nat) (l : List BW) (y : Int) (w : World) (h : Bs w A l) (hc : l.length ≤ c) (hl : c ≤ 9223372036854775807) :
    Calls Tryz.prog 211 #[.slice A l.length c, .int .i64 y] w (RB w (fun E => E = fromL y (l.map BW.bn))) := by
  go_enter Tryz.func211, Tryz.ntmps211
  go_wp2
  go_loop [0] (fun v => ∃ (A' : Option Addr) (c' : Nat) (l' : List BW), v = .slice A' l'.length c' ∧ l'.length ≤ c' ∧ c' ≤ c ∧ Bs w A' l' ∧ Hid (fromL y (l'.map BW.bn) = fromL y (l.map BW.bn))) (fun v => match v with | .slice _ n _ => n | _ => 0)
  case atStart => exact ⟨A, c, l, rfl, hc, Nat.le_refl _, h, Lib.hid rfl⟩
  case round =>
    obtain ⟨A', c', l', rfl, hc', hcc, h', hq⟩ := hrel
    cases l' with
    | nil =>
      go_wp2
      go_ret
      exact ⟨A', c', [], rfl, by simp, h', hq.out, rfl⟩
    | cons r l' =>
      obtain ⟨b, off, rfl, hr⟩ := h'.opened (by simp)
      obtain ⟨e1, e2, e3⟩ := hr.at_ (k := 0) (r := r) rfl
      simp only [Nat.zero_mul, Nat.add_zero] at e1 e2 e3
      have HR := Lib.hid hr
      clear hr
      have hn : 0 < (r :: l').length := by simp
      obtain ⟨n, hN⟩ : ∃ n, n = (r :: l').length := ⟨_, rfl⟩
      rw [← hN] at hn hc' ⊢
      have HN := Lib.hid hN
      clear hN
      by_cases hy : r.y1 ≤ y
      · by_cases hc1 : c' = 1
        · go_wp2
          have hl' : l' = [] := List.eq_nil_of_length_eq_zero (by have := HN.out; simp at this; omega)
          subst hl'
          refine ⟨⟨some ⟨b, off, none⟩, 0, [], by have := HN.out; simp at this; subst this; rfl, by simp, by omega, ⟨.inl rfl, by simp⟩, Lib.hid ?_⟩, ?_⟩
          · rw [← hq.out]; show fromL y [] = if r.y1 ≤ y then fromL y [] else _; rw [if_pos hy]
          · show n - 1 < n; omega
        · go_wp2
          have hn' : n - 1 = l'.length := by have := HN.out; simp at this; omega
          refine ⟨⟨some ⟨b, off + 3, none⟩, c' - 1, l', by rw [hn'], by omega, by omega, Bs.tail h', Lib.hid ?_⟩, ?_⟩
          · rw [← hq.out]; show fromL y (l'.map BW.bn) = if r.y1 ≤ y then fromL y (l'.map BW.bn) else _; rw [if_pos hy]
          · show n - 1 < n; omega
      · go_wp2
        go_ret
        exact ⟨some ⟨b, off, none⟩, c', r :: l', by rw [← HN.out]; rfl, by rw [← HN.out]; exact hc', h', by show _ = _; rw [← hq.out]; show _ = if r.y1 ≤ y then _ else _; rw [if_neg (by omega)]; rfl, rfl⟩

end Go.Proofs.YtablogiielclaaaGreat
namespace Go.Proofs.YtablogiielclaaaGreat

def inE (E : List Int) (x : Int) : Bool := decide (E.countP (fun e => decide (e ≤ x)) % 2 = 1)
def Inc (E : List Int) : Prop := E.Pairwise (· < ·)

theorem count_all {E : List Int} {x : Int} (h : ∀ e ∈ E, e ≤ x) : E.countP (fun e => decide (e ≤ x)) = E.length := by
  rw [List.countP_eq_length]; intro e he; simpa using h e he
theorem count_none {E : List Int} {x : Int} (h : ∀ e ∈ E, x < e) : E.countP (fun e => decide (e ≤ x)) = 0 := by
  rw [List.countP_eq_zero]; intro e he; have := h e he; simp; omega
theorem inE_all {E : List Int} {x : Int} (h : ∀ e ∈ E, e ≤ x) : inE E x = decide (E.length % 2 = 1) := by unfold inE; rw [count_all h]
theorem inE_none {E : List Int} {x : Int} (h : ∀ e ∈ E, x < e) : inE E x = false := by unfold inE; rw [count_none h]; rfl
theorem inE_nil (x : Int) : inE [] x = false := rfl
theorem inE_app_far {E F : List Int} {x : Int} (h : ∀ e ∈ F, x < e) : inE (E ++ F) x = inE E x := by
  unfold inE; rw [List.countP_append, count_none h]; rfl
theorem inE_split {E : List Int} {i : Nat} {x : Int} (hi : i ≤ E.length) (h1 : ∀ e ∈ E.take i, e ≤ x) (h2 : ∀ e ∈ E.drop i, x < e) : inE E x = decide (i % 2 = 1) := by
  have : E = E.take i ++ E.drop i := (List.take_append_drop i E).symm
  rw [this, inE_app_far h2, inE_all h1, List.length_take, Nat.min_eq_left hi]
theorem top_of : ∀ (E : List Int), ∃ t : Int, ∀ e ∈ E, e ≤ t
  | [] => ⟨0, by simp⟩
  | e :: l => by
    obtain ⟨t, ht⟩ := top_of l
    refine ⟨max e t, fun x hx => ?_⟩
    simp at hx
    rcases hx with rfl | hx
    · omega
    · have := ht x hx; omega

/-- Two rising rows that tell the same of every int are one. -/
theorem inc_ext : ∀ (E F : List Int), Inc E → Inc F → (∀ x, inE E x = inE F x) → E = F
  | [], [], _, _, _ => rfl
  | [], f :: F, _, hF, h => by
    exfalso
    have h1 := h f
    rw [inE_nil] at h1
    have h2 : inE (f :: F) f = true := by
      have := inE_split (E := f :: F) (i := 1) (x := f) (by simp) (by simp) (by simpa using (List.pairwise_cons.1 hF).1)
      rw [this]; rfl
    rw [h2] at h1; cases h1
  | e :: E, [], hE, _, h => by
    exfalso
    have h1 := h e
    rw [inE_nil] at h1
    have h2 : inE (e :: E) e = true := by
      have := inE_split (E := e :: E) (i := 1) (x := e) (by simp) (by simp) (by simpa using (List.pairwise_cons.1 hE).1)
      rw [this]; rfl
    rw [h2] at h1; cases h1
  | e :: E, f :: F, hE, hF, h => by
    have hE' := List.pairwise_cons.1 hE
    have hF' := List.pairwise_cons.1 hF
    have one : ∀ (e f : Int) (E F : List Int), (∀ x ∈ E, e < x) → (∀ x ∈ F, f < x) → e < f → inE (e :: E) e = inE (f :: F) e → False := by
      intro e f E F hE hF hlt hh
      have h2 : inE (e :: E) e = true := by
        have := inE_split (E := e :: E) (i := 1) (x := e) (by simp) (by simp) (by simpa using hE)
        rw [this]; rfl
      have h3 : inE (f :: F) e = false := inE_none (by
        intro x hx; simp at hx
        rcases hx with rfl | hx
        · exact hlt
        · have := hF x hx; omega)
      rw [h2, h3] at hh; cases hh
    have hef : e = f := by
      rcases Int.lt_trichotomy e f with hl | hl | hl
      · exact (one e f E F hE'.1 hF'.1 hl (h e)).elim
      · exact hl
      · exact (one f e F E hF'.1 hE'.1 hl (h f).symm).elim
    subst hef
    have ht : ∀ x, inE E x = inE F x := by
      intro x
      by_cases hx : e ≤ x
      · have := h x
        unfold inE at *
        rw [List.countP_cons_of_pos (by simpa using hx), List.countP_cons_of_pos (by simpa using hx)] at this
        rw [decide_eq_decide] at *
        omega
      · rw [inE_none (fun y hy => by have := hE'.1 y hy; omega), inE_none (fun y hy => by have := hF'.1 y hy; omega)]
    rw [inc_ext E F hE'.2 hF'.2 ht]

/-- How far a merge of two rows has come: i of a, j of b are gone through, O is what was made of them. -/
structure InvM (a b : List Int) (kp : Bool → Bool → Bool) (i j : Nat) (O : List Int) : Prop where
  ia : i ≤ a.length
  jb : j ≤ b.length
  inc : Inc O
  lta : ∀ o ∈ O, ∀ x ∈ a.drop i, o < x
  ltb : ∀ o ∈ O, ∀ x ∈ b.drop j, o < x
  cross : (∀ o ∈ a.take i, ∀ x ∈ b.drop j, o < x) ∧ (∀ o ∈ b.take j, ∀ x ∈ a.drop i, o < x)
  par : ∀ x, (∀ o ∈ a.drop i, x < o) → (∀ o ∈ b.drop j, x < o) → inE O x = kp (inE a x) (inE b x)
  sub : ∀ o ∈ O, o ∈ a ∨ o ∈ b
  len : O.length ≤ i + j
theorem InvM.start {a b : List Int} {kp : Bool → Bool → Bool} (hk : kp false false = false) : InvM a b kp 0 0 [] where
  ia := Nat.zero_le _
  jb := Nat.zero_le _
  inc := List.Pairwise.nil
  lta := by simp
  ltb := by simp
  cross := by simp
  par := fun x h1 h2 => by rw [inE_none (E := a) (by simpa using h1), inE_none (E := b) (by simpa using h2), inE_nil, hk]
  sub := by simp
  len := by simp

theorem inc_take_drop {a : List Int} (h : Inc a) (i : Nat) : ∀ o ∈ a.take i, ∀ x ∈ a.drop i, o < x := by
  have : Inc (a.take i ++ a.drop i) := by rw [List.take_append_drop]; exact h
  exact (List.pairwise_append.1 this).2.2
theorem take_mem {a : List Int} {i : Nat} {o : Int} (h : o ∈ a.take (i + 1)) : o ∈ a.take i ∨ a[i]? = some o := by
  rcases Nat.lt_or_ge i a.length with hl | hl
  · rw [List.take_succ_eq_append_getElem hl, List.mem_append] at h
    rcases h with h | h
    · exact .inl h
    · right; rw [List.mem_singleton] at h; rw [List.getElem?_eq_getElem hl, h]
  · rw [List.take_of_length_le (by omega)] at h
    left; rw [List.take_of_length_le (by omega)]; exact h
theorem drop_mem {a : List Int} {i : Nat} {o : Int} (h : o ∈ a.drop i) : a[i]? = some o ∨ o ∈ a.drop (i + 1) := by
  rcases Nat.lt_or_ge i a.length with hl | hl
  · rw [List.drop_eq_getElem_cons hl, List.mem_cons] at h
    rcases h with h | h
    · left; rw [List.getElem?_eq_getElem hl, h]
    · exact .inr h
  · rw [List.drop_eq_nil_of_le hl] at h; simp at h
theorem drop_sub {a : List Int} {i : Nat} {o : Int} (h : o ∈ a.drop (i + 1)) : o ∈ a.drop i := by
  rw [show i + 1 = 1 + i from by omega, ← List.drop_drop] at h
  exact List.drop_sublist 1 _ |>.mem (by rw [List.drop_drop] at *; simpa [Nat.add_comm] using h)
theorem head_mem {a : List Int} {i : Nat} {x : Int} (h : a[i]? = some x) : x ∈ a.drop i := by
  have hl : i < a.length := by
    rcases Nat.lt_or_ge i a.length with h' | h'
    · exact h'
    · rw [List.getElem?_eq_none h'] at h; cases h
  rw [List.drop_eq_getElem_cons hl]
  rw [List.getElem?_eq_getElem hl] at h
  simp at h; simp [h]
theorem get_mem {a : List Int} {i : Nat} {x : Int} (h : a[i]? = some x) : x ∈ a := List.mem_of_getElem? h
theorem get_lt {α : Type} {a : List α} {i : Nat} {x : α} (h : a[i]? = some x) : i < a.length := by
  rcases Nat.lt_or_ge i a.length with h' | h'
  · exact h'
  · rw [List.getElem?_eq_none h'] at h; cases h

theorem inc_head_le {a : List Int} (ha : Inc a) {i : Nat} {x : Int} (h : a[i]? = some x) : ∀ o ∈ a.drop i, x ≤ o := by
  intro o ho
  rcases drop_mem ho with h1 | h1
  · rw [h] at h1; injection h1 with h1; omega
  · have := inc_take_drop ha (i + 1) x (by
      rw [List.take_succ_eq_append_getElem (get_lt h)]
      rw [List.getElem?_eq_getElem (get_lt h)] at h
      simp at h; simp [h]) o h1
    omega

/-- One more edge x is gone through: the least of what is left of both. -/
theorem InvM.step {a b : List Int} {kp : Bool → Bool → Bool} {i j : Nat} {O : List Int} (h : InvM a b kp i j O) (ha : Inc a) (hb : Inc b) {i' j' : Nat} {x : Int}
    (hi : (i' = i ∧ ∀ o ∈ a.drop i, x < o) ∨ (i' = i + 1 ∧ a[i]? = some x)) (hj : (j' = j ∧ ∀ o ∈ b.drop j, x < o) ∨ (j' = j + 1 ∧ b[j]? = some x))
    (hx : a[i]? = some x ∨ b[j]? = some x) (hij : i + j < i' + j')
    {O' : List Int} (hO : (O' = O ++ [x] ∧ ¬ (kp (decide (i' % 2 = 1)) (decide (j' % 2 = 1)) = decide (O.length % 2 = 1))) ∨ (O' = O ∧ kp (decide (i' % 2 = 1)) (decide (j' % 2 = 1)) = decide (O.length % 2 = 1))) :
    InvM a b kp i' j' O' := by
  have hda : ∀ o ∈ a.drop i', x < o := by
    rcases hi with ⟨rfl, h1⟩ | ⟨rfl, h1⟩
    · exact h1
    · exact fun o ho => inc_take_drop ha (i + 1) x (by rw [List.take_succ_eq_append_getElem (get_lt h1)]; rw [List.getElem?_eq_getElem (get_lt h1)] at h1; simp at h1; simp [h1]) o ho
  have hdb : ∀ o ∈ b.drop j', x < o := by
    rcases hj with ⟨rfl, h1⟩ | ⟨rfl, h1⟩
    · exact h1
    · exact fun o ho => inc_take_drop hb (j + 1) x (by rw [List.take_succ_eq_append_getElem (get_lt h1)]; rw [List.getElem?_eq_getElem (get_lt h1)] at h1; simp at h1; simp [h1]) o ho
  have suba : ∀ o ∈ a.drop i', o ∈ a.drop i := by
    rcases hi with ⟨rfl, _⟩ | ⟨rfl, _⟩
    · exact fun o ho => ho
    · exact fun o ho => drop_sub ho
  have subb : ∀ o ∈ b.drop j', o ∈ b.drop j := by
    rcases hj with ⟨rfl, _⟩ | ⟨rfl, _⟩
    · exact fun o ho => ho
    · exact fun o ho => drop_sub ho
  have tka : ∀ o ∈ a.take i', o ≤ x := by
    intro o ho
    rcases hx with hx | hx
    · rcases hi with ⟨rfl, _⟩ | ⟨rfl, _⟩
      · have := inc_take_drop ha i' o ho x (head_mem hx); omega
      · rcases take_mem ho with h2 | h2
        · have := inc_take_drop ha i o h2 x (head_mem hx); omega
        · rw [hx] at h2; injection h2 with h2; omega
    · rcases hi with ⟨rfl, _⟩ | ⟨rfl, h1⟩
      · have := h.cross.1 o ho x (head_mem hx); omega
      · rcases take_mem ho with h2 | h2
        · have := h.cross.1 o h2 x (head_mem hx); omega
        · rw [h1] at h2; injection h2 with h2; omega
  have tkb : ∀ o ∈ b.take j', o ≤ x := by
    intro o ho
    rcases hx with hx | hx
    · rcases hj with ⟨rfl, _⟩ | ⟨rfl, h1⟩
      · have := h.cross.2 o ho x (head_mem hx); omega
      · rcases take_mem ho with h2 | h2
        · have := h.cross.2 o h2 x (head_mem hx); omega
        · rw [h1] at h2; injection h2 with h2; omega
    · rcases hj with ⟨rfl, _⟩ | ⟨rfl, _⟩
      · have := inc_take_drop hb j' o ho x (head_mem hx); omega
      · rcases take_mem ho with h2 | h2
        · have := inc_take_drop hb j o h2 x (head_mem hx); omega
        · rw [hx] at h2; injection h2 with h2; omega
  have ltx : ∀ o ∈ O, o < x := fun o ho => by
    rcases hx with hx | hx
    · exact h.lta o ho x (head_mem hx)
    · exact h.ltb o ho x (head_mem hx)
  have ia' : i' ≤ a.length := by
    rcases hi with ⟨rfl, _⟩ | ⟨rfl, h1⟩
    · exact h.ia
    · have := get_lt h1; omega
  have jb' : j' ≤ b.length := by
    rcases hj with ⟨rfl, _⟩ | ⟨rfl, h1⟩
    · exact h.jb
    · have := get_lt h1; omega
  have hO' : ∀ o ∈ O', o ≤ x := by
    rcases hO with ⟨rfl, _⟩ | ⟨rfl, _⟩
    · intro o ho; simp at ho; rcases ho with ho | rfl
      · have := ltx o ho; omega
      · omega
    · intro o ho; have := ltx o ho; omega
  refine ⟨ia', jb', ?_, ?_, ?_, ⟨?_, ?_⟩, ?_, ?_, ?_⟩
  · rcases hO with ⟨rfl, _⟩ | ⟨rfl, _⟩
    · exact List.pairwise_append.2 ⟨h.inc, by simp, fun o ho y hy => by simp at hy; subst hy; exact ltx o ho⟩
    · exact h.inc
  · intro o ho y hy; have := hO' o ho; have := hda y hy; omega
  · intro o ho y hy; have := hO' o ho; have := hdb y hy; omega
  · intro o ho y hy; have := tka o ho; have := hdb y hy; omega
  · intro o ho y hy; have := tkb o ho; have := hda y hy; omega
  · intro y h1 h2
    by_cases hy : y < x
    · have e1 : ∀ o ∈ a.drop i, y < o := by
        intro o ho
        rcases hi with ⟨rfl, h3⟩ | ⟨rfl, h3⟩
        · exact h1 o ho
        · rcases drop_mem ho with h4 | h4
          · rw [h3] at h4; injection h4 with h4; omega
          · exact h1 o h4
      have e2 : ∀ o ∈ b.drop j, y < o := by
        intro o ho
        rcases hj with ⟨rfl, h3⟩ | ⟨rfl, h3⟩
        · exact h2 o ho
        · rcases drop_mem ho with h4 | h4
          · rw [h3] at h4; injection h4 with h4; omega
          · exact h2 o h4
      rw [← h.par y e1 e2]
      rcases hO with ⟨rfl, _⟩ | ⟨rfl, _⟩
      · exact inE_app_far (by simpa using hy)
      · rfl
    · rw [inE_split ia' (fun e he => by have := tka e he; omega) h1, inE_split jb' (fun e he => by have := tkb e he; omega) h2, inE_all (fun e he => by have := hO' e he; omega)]
      rcases hO with ⟨rfl, h3⟩ | ⟨rfl, h3⟩
      · rw [List.length_append]
        cases hk : kp (decide (i' % 2 = 1)) (decide (j' % 2 = 1)) with
        | true => rw [hk] at h3; simp at h3; simp; omega
        | false => rw [hk] at h3; simp at h3; simp; omega
      · exact h3.symm
  · rcases hO with ⟨rfl, _⟩ | ⟨rfl, _⟩
    · intro o ho; simp at ho
      rcases ho with ho | rfl
      · exact h.sub o ho
      · rcases hx with hx | hx
        · exact .inl (get_mem hx)
        · exact .inr (get_mem hx)
    · exact h.sub
  · have := h.len
    rcases hO with ⟨rfl, _⟩ | ⟨rfl, _⟩
    · simp; omega
    · omega

/-- What a merge of two rows is. -/
structure Mrg (a b : List Int) (kp : Bool → Bool → Bool) (O : List Int) : Prop where
  inc : Inc O
  par : ∀ x, inE O x = kp (inE a x) (inE b x)
  even : O.length % 2 = 0
  sub : ∀ o ∈ O, o ∈ a ∨ o ∈ b
  len : O.length ≤ a.length + b.length
theorem InvM.done {a b : List Int} {kp : Bool → Bool → Bool} {O : List Int} (h : InvM a b kp a.length b.length O) (hk : kp false false = false) (ha : a.length % 2 = 0) (hb : b.length % 2 = 0) : Mrg a b kp O := by
  have par : ∀ x, inE O x = kp (inE a x) (inE b x) := fun x => h.par x (by simp) (by simp)
  refine ⟨h.inc, par, ?_, h.sub, h.len⟩
  obtain ⟨t, ht⟩ := top_of (a ++ (b ++ O))
  have := par t
  rw [inE_all (fun e he => ht e (by simp [he])), inE_all (fun e he => ht e (by simp [he])), inE_all (fun e he => ht e (by simp [he])), ha, hb] at this
  simp [hk] at this
  omega

end Go.Proofs.YtablogiielclaaaGreat
namespace Go.Proofs.YtablogiielclaaaGreat
open Go.RowKit Go.Sort

def bandE (y0 y1 : Int) : List Int → List Rc
  | a :: b :: E => ⟨a, y0, b, y1⟩ :: bandE y0 y1 E
  | _ => []
def rectsL : List Bn → List Rc
  | [] => []
  | b :: l => bandE b.y0 b.y1 b.E ++ rectsL l
theorem rectsL_app : ∀ l m : List Bn, rectsL (l ++ m) = rectsL l ++ rectsL m
  | [], m => rfl
  | b :: l, m => by show _ ++ rectsL (l ++ m) = _; rw [rectsL_app l m, ← List.append_assoc]; rfl
theorem bandE_get (y0 y1 : Int) : ∀ (E : List Int) (j : Nat) (a b : Int), E[2 * j]? = some a → E[2 * j + 1]? = some b → (bandE y0 y1 E)[j]? = some ⟨a, y0, b, y1⟩
  | x :: y :: E, 0, a, b, h1, h2 => by
    simp at h1 h2; subst h1 h2; rfl
  | x :: y :: E, j + 1, a, b, h1, h2 => by
    show (bandE y0 y1 E)[j]? = _
    refine bandE_get y0 y1 E j a b ?_ ?_
    · rw [show 2 * (j + 1) = 2 * j + 1 + 1 from by omega] at h1; simpa using h1
    · rw [show 2 * (j + 1) + 1 = 2 * j + 1 + 1 + 1 from by omega] at h2; simpa using h2
  | [x], j, a, b, h1, h2 => by simp at h2
  | [], j, a, b, h1, h2 => by simp at h1
theorem bandE_len (y0 y1 : Int) : ∀ (E : List Int), (bandE y0 y1 E).length = E.length / 2
  | [] => rfl
  | [x] => by simp [bandE]
  | x :: y :: E => by show (bandE y0 y1 E).length + 1 = (E.length + 1 + 1) / 2; rw [bandE_len y0 y1 E]; omega
theorem take_more {α : Type} {l : List α} {j : Nat} {x : α} (h : l[j]? = some x) : l.take (j + 1) = l.take j ++ [x] := by
  rw [List.take_add_one, h]; rfl

def RR (w : World) (Q : List Rc → Prop) (e : Ending) (w' : World) : Prop := ∃ (A : Option Addr) (c : Nat) (L : List Rc), e = .returned (.slice A L.length c) ∧ OwR w' w.heap.size A c L ∧ Q L ∧ Bl w w'

set_option maxRecDepth 100000 in
set_option maxHeartbeats 8000000 in
theorem rectsOf1 (A : Option Addr) (c : Nat) (l : List BW) (w : World) (h : Bs w A l) (hl : l.length ≤ 1000000) (hE : ∀ r ∈ l, r.E.length % 2 = 0 ∧ r.E.length ≤ 9000000) (hN : (rectsL (l.map BW.bn)).length ≤ 1000000) :
    Calls Tryz.prog 215 #[.slice A l.length c] w (RR w (fun L => L = rectsL (l.map BW.bn))) := by
  go_enter Tryz.func215, Tryz.ntmps215
  go_wp2
  go_loopw [3, 9] (fun v i wr => ∃ (k : Nat) (A' : Option Addr) (c' : Nat) (O : List Rc), k ≤ l.length ∧ v = .slice A' O.length c' ∧ i = .int .i64 k ∧ OwR wr w.heap.size A' c' O ∧ Hid (O = rectsL ((l.take k).map BW.bn)) ∧ Bl w wr) (fun _ i _ => l.length - (intOf i).toNat)
  case atStart => exact ⟨0, none, 0, [], Nat.zero_le _, rfl, rfl, OwR.nil _ _, Lib.hid rfl, Bl.refl _⟩
  case round =>
    obtain ⟨k, A', c', O, hk, rfl, rfl, own, hO, G⟩ := hrel
    by_cases hlt : k < l.length
    · obtain ⟨⟨ry0, ry1, rE, rA, rc⟩, hr⟩ := list_at hlt
      obtain ⟨b, off, rfl, hrow⟩ := h.opened (by omega)
      obtain ⟨e1, e2, e3⟩ := (hrow.bl G).at_ hr
      obtain ⟨ev, el⟩ := hE _ (List.mem_of_getElem? hr)
      have ok := (h.2 _ (List.mem_of_getElem? hr)).bl G
      dsimp only at e1 e2 e3 ev el
      have htk : l.take (k + 1) = l.take k ++ [(⟨ry0, ry1, rE, rA, rc⟩ : BW)] := take_more hr
      have hpre : (rectsL ((l.take k).map BW.bn)).length + rE.length / 2 ≤ 1000000 := by
        have h1 : l.map BW.bn = (l.take (k + 1)).map BW.bn ++ (l.drop (k + 1)).map BW.bn := by rw [← List.map_append, List.take_append_drop]
        rw [h1, rectsL_app, htk, List.map_append, rectsL_app, List.length_append, List.length_append] at hN
        have h2 : (rectsL ([(⟨ry0, ry1, rE, rA, rc⟩ : BW)].map BW.bn)).length = rE.length / 2 := by
          show (bandE ry0 ry1 rE ++ []).length = _; rw [List.append_nil, bandE_len]
        omega
      replace htk := Lib.hid htk
      rw [← hO.out] at hpre
      replace hr := Lib.hid hr
      have own1 := own.bl ((Bl.refl wr).alloc (.cells #[.int .i64 ry0, .int .i64 ry1, .slice rA rE.length rc] 287))
      have bx := At.new wr #[.int .i64 ry0, .int .i64 ry1, .slice rA rE.length rc] 287
      have G1 := G.alloc (.cells #[.int .i64 ry0, .int .i64 ry1, .slice rA rE.length rc] 287)
      have ok1 := ok.bl ((Bl.refl wr).alloc (.cells #[.int .i64 ry0, .int .i64 ry1, .slice rA rE.length rc] 287))
      have szo := G.size
      obtain ⟨wo, hwo⟩ : ∃ wo : World, wo = wr := ⟨_, rfl⟩
      subst hwo
      go_wp2
      go_loopw [3, 6] (fun v i wr => ∃ (j : Nat) (A2 : Option Addr) (c2 : Nat) (O2 : List Rc), 2 * j ≤ rE.length ∧ v = .slice A2 O2.length c2 ∧ i = .int .i64 ((2 * j : Nat) : Int) ∧ OwR wr w.heap.size A2 c2 O2 ∧ Hid (O2 = O ++ (bandE ry0 ry1 rE).take j) ∧ Bl w wr ∧
        At wr wo.heap.size #[.int .i64 ry0, .int .i64 ry1, .slice rA rE.length rc] 287 ∧ BW.ok wr ⟨ry0, ry1, rE, rA, rc⟩) (fun _ i _ => rE.length - (intOf i).toNat)
      case atStart => exact ⟨0, A', c', O, by omega, rfl, rfl, own1, Lib.hid (by simp), G1, bx, ok1⟩
      case round =>
        obtain ⟨j, A2, c2, O2, hj, rfl, rfl, own2, hO2, G2, bx2, ok2⟩ := hrel
        have k0 := bx2.cell
        by_cases hlt2 : 2 * j < rE.length
        · obtain ⟨xa, hxa⟩ := list_at hlt2
          obtain ⟨xb, hxb⟩ := list_at (show 2 * j + 1 < rE.length by omega)
          obtain ⟨b2, o2, hA2, ri⟩ := ok2.2.opened (by dsimp only; omega)
          dsimp only at hA2 ri
          subst hA2
          have d1 := ri _ _ hxa
          have d2 := ri _ _ hxb
          have hb := Lib.hid (bandE_get ry0 ry1 rE j xa xb hxa hxb)
          have hlO : O2.length ≤ 1000000 := by rw [hO2.out, List.length_append, List.length_take]; omega
          clear hxa hxb ri e1 e2 e3 hrow
          have sz2 := G2.size
          have lb1 : wo.heap.size < wr.heap.size := bx2.lt
          have lb2 : b2 < w.heap.size := by
            have q := h.2 _ (List.mem_of_getElem? hr.out)
            obtain ⟨b3, o3, q1, q2⟩ := q.2.opened (by dsimp only; omega)
            injection q1 with q1
            injection q1 with q1
            subst q1
            obtain ⟨y, hy⟩ := list_at hlt2
            exact World.block_lt_of_cell? w _ (q2 _ _ hy)
          have ne1 : some wo.heap.size ≠ A2.map (·.block) := OwR.ne_at own2 bx2 (by decide)
          have ne2 : some b2 ≠ A2.map (·.block) := by
            rcases own2.lies with rfl | ⟨g', rfl, q1, _⟩
            · simp
            · simp; omega
          obtain ⟨q, hq⟩ : ∃ q, q = 2 * j := ⟨_, rfl⟩
          rw [← hq] at d1 d2 hlt2 ⊢
          have hq1 : q + 1 < rE.length := by omega
          have hq3 : q ≤ 9000000 := by omega
          replace hq := Lib.hid hq
          have hq2 : (q : Int) + 1 < (rE.length : Int) := by omega
          have w1 : IntKind.i64.wrap ((q : Int) + 1) = (q : Int) + 1 := IntWalk.i64_in _ (by omega)
          have w2 : ((q : Int) + 1).toNat = q + 1 := by omega
          have w3 : (0 : Int) ≤ (q : Int) + 1 := by omega
          have n0 := k0 0
          have n1 := k0 1
          have n2 := k0 2
          simp only [List.getElem?_toArray, List.getElem?_cons_zero, List.getElem?_cons_succ] at n0 n1 n2
          clear k0
          go_wp2
          go_region_held3 (fun w' => w'.cell? ⟨wo.heap.size, 0, none⟩ = some (.int .i64 ry0) ∧ w'.cell? ⟨wo.heap.size, 1, none⟩ = some (.int .i64 ry1) ∧ w'.cell? ⟨wo.heap.size, 2, none⟩ = some (.slice (some ⟨b2, o2, none⟩) rE.length rc) ∧
              w'.cell? ⟨b2, o2 + q, none⟩ = some (.int .i64 xa) ∧ w'.cell? ⟨b2, o2 + (q + 1), none⟩ = some (.int .i64 xb))
            (first
              | go_keep
              | (refine ⟨?_, ?_, ?_, ?_, ?_⟩
                 · (rw [ap3.1.cell_far _ (by simp; omega) ne1]; simp [*])
                 · (rw [ap3.1.cell_far _ (by simp; omega) ne1]; simp [*])
                 · (rw [ap3.1.cell_far _ (by simp; omega) ne1]; simp [*])
                 · (rw [ap3.1.cell_far _ (by simp; omega) ne2]; simp [*])
                 · (rw [ap3.1.cell_far _ (by simp; omega) ne2]; simp [*])))
            ((refine step_app_r (by rfl) (.tmp 20) (.tmp 37) (by rfl) A2 c2 O2 (by rfl) w.heap.size ((own2.bl ((Bl.refl wr).alloc _)).bl (Bl.refl _).drew) wr.heap.size ⟨xa, ry0, xb, ry1⟩ 1 (by rfl) (At.drew (At.new wr _ _)) (by omega) (by simp; omega) ?_; intro A3 c3 w3' own5 ap3))
          clear w1 w2 w3 n0 n1 n2 d1 d2
          go_wp2
          go_roundw
          case rel =>
            refine ⟨j + 1, A3, c3, O2 ++ [⟨xa, ry0, xb, ry1⟩], by have := hq.out; omega, by simp, ?_, own5, Lib.hid ?_, ap3.bl ((G2.alloc _).drew) ((own2.bl ((Bl.refl wr).alloc _)).bl (Bl.refl _).drew).lies (Nat.le_refl _), ((bx2.alloc _).drew).grown ap3.1 ne1, ok2.1, ?_⟩
            · rw [show ((2 * (j + 1) : Nat) : Int) = (q : Int) + 2 from by have := hq.out; omega]
            · rw [take_more hb.out, hO2.out, List.append_assoc]
            · exact (ok2.2.bl (((Bl.refl wr).alloc _).drew)).grown ap3.1 (by intro k hk; simp at hk; subst hk; exact ne2)
          case measure => simp [intOf]; omega
        · have hj2 : 2 * j = rE.length := by omega
          have k1 := k0
          go_wp2
          have htk2 : (bandE ry0 ry1 rE).take j = bandE ry0 ry1 rE := List.take_of_length_le (by rw [bandE_len]; omega)
          go_roundw
          case rel =>
            refine ⟨k + 1, A2, c2, O2, by omega, rfl, by go_num, own2, Lib.hid ?_, G2⟩
            rw [htk.out, List.map_append, rectsL_app, ← hO.out, hO2.out, htk2]
            show _ = O ++ (bandE ry0 ry1 rE ++ [])
            rw [List.append_nil]
          case measure => simp [intOf]; omega
    · obtain rfl : k = l.length := by omega
      go_wp2
      go_ret
      exact ⟨A', c', O, rfl, own, by rw [hO.out, List.take_length], G⟩

end Go.Proofs.YtablogiielclaaaGreat
