/-
  What is proved: small words for memory: a world that is another one with new blocks; slices that read as lists of rectangles, of ints, of bands; and how 'append' adds to such a row. No conditions.
-/
import Derived.Test.YtackojmckloacaaA2
import Derived.Test.YtackojmckloacaaGw
import Derived.Deep.AppendLies
import Derived.Laws.OwnMore
import Derived.OwnWalk
import Derived.Lib.Hide
import Derived.LoopTactic
namespace Go.Proofs.Ytackojmckloacaa
open Go.RowKit Go.Sort

/-- The cells of a rectangle, and of a list of them. -/
def c4 (r : Rc) : List Value := [.int .i64 r.a, .int .i64 r.b, .int .i64 r.c, .int .i64 r.d]
def cR : List Rc → List Value
  | [] => []
  | r :: l => c4 r ++ cR l
theorem cR_len : ∀ L : List Rc, (cR L).length = L.length * 4
  | [] => rfl
  | r :: l => by unfold cR; rw [List.length_append, cR_len l]; simp [c4]; omega
theorem cR_app : ∀ L M : List Rc, cR (L ++ M) = cR L ++ cR M
  | [], M => rfl
  | r :: l, M => by show c4 r ++ cR (l ++ M) = (c4 r ++ cR l) ++ cR M; rw [cR_app l M, List.append_assoc]
theorem cR_get : ∀ (L : List Rc) (k : Nat) (r : Rc) (j : Nat), L[k]? = some r → j < 4 → (cR L)[k * 4 + j]? = (c4 r)[j]?
  | [], k, r, j, h, _ => by simp at h
  | r' :: l, 0, r, j, h, hj => by
    simp at h; subst h
    unfold cR
    rw [List.getElem?_append_left (by simp [c4]; omega)]; simp
  | r' :: l, k + 1, r, j, h, hj => by
    unfold cR
    rw [List.getElem?_append_right (by simp [c4]; omega)]
    rw [show (k + 1) * 4 + j - (c4 r').length = k * 4 + j from by simp [c4]; omega]
    exact cR_get l k r j (by simpa using h) hj
theorem cR_one : ∀ (L : List Rc), ∀ u ∈ cR L, u.oneCell' = true
  | [], u, h => by simp [cR] at h
  | r :: l, u, h => by
    unfold cR at h
    rw [List.mem_append] at h
    rcases h with h | h
    · simp [c4] at h; rcases h with h | h | h | h <;> subst h <;> rfl
    · exact cR_one l u h

/-- The cells of a list of ints. -/
def cI (E : List Int) : List Value := E.map (Value.int .i64)
theorem cI_len (E : List Int) : (cI E).length = E.length := by simp [cI]
theorem cI_app (E F : List Int) : cI (E ++ F) = cI E ++ cI F := by simp [cI]
theorem cI_one (E : List Int) : ∀ u ∈ cI E, u.oneCell' = true := by
  intro u h; simp [cI] at h; obtain ⟨x, _, rfl⟩ := h; rfl

/-- From cell off of block b on lie these rectangles; ints. -/
def RowR (w : World) (b off : Nat) (L : List Rc) : Prop := ∀ k r, L[k]? = some r → w.cell? ⟨b, off + k * 4, none⟩ = some (.int .i64 r.a) ∧ w.cell? ⟨b, off + k * 4 + 1, none⟩ = some (.int .i64 r.b) ∧
  w.cell? ⟨b, off + k * 4 + 2, none⟩ = some (.int .i64 r.c) ∧ w.cell? ⟨b, off + k * 4 + 3, none⟩ = some (.int .i64 r.d)
def RowI (w : World) (b off : Nat) (E : List Int) : Prop := ∀ k x, E[k]? = some x → w.cell? ⟨b, off + k, none⟩ = some (.int .i64 x)
def Rs (w : World) (A : Option Addr) (L : List Rc) : Prop := L = [] ∨ ∃ b off, A = some ⟨b, off, none⟩ ∧ RowR w b off L
def Is (w : World) (A : Option Addr) (E : List Int) : Prop := E = [] ∨ ∃ b off, A = some ⟨b, off, none⟩ ∧ RowI w b off E
theorem RowR.bl {w w' : World} {b off : Nat} {L : List Rc} (h : RowR w b off L) (g : Bl w w') : RowR w' b off L := fun k r hk => by
  obtain ⟨h1, h2, h3, h4⟩ := h k r hk
  exact ⟨g.keep h1, g.keep h2, g.keep h3, g.keep h4⟩
theorem RowI.bl {w w' : World} {b off : Nat} {E : List Int} (h : RowI w b off E) (g : Bl w w') : RowI w' b off E := fun k r hk => g.keep (h k r hk)
theorem RowI.grown {w w' : World} {b off : Nat} {E : List Int} {row : Option Nat} (h : RowI w b off E) (g : w.grownBy w' row) (hne : some b ≠ row) : RowI w' b off E := fun k r hk => g.cell (h k r hk) hne
theorem RowR.grown {w w' : World} {b off : Nat} {L : List Rc} {row : Option Nat} (h : RowR w b off L) (g : w.grownBy w' row) (hne : some b ≠ row) : RowR w' b off L := fun k r hk => by
  obtain ⟨h1, h2, h3, h4⟩ := h k r hk
  exact ⟨g.cell h1 hne, g.cell h2 hne, g.cell h3 hne, g.cell h4 hne⟩
theorem Rs.bl {w w' : World} {A : Option Addr} {L : List Rc} (h : Rs w A L) (g : Bl w w') : Rs w' A L := by
  rcases h with h | ⟨b, off, h1, h2⟩
  · exact .inl h
  · exact .inr ⟨b, off, h1, h2.bl g⟩
theorem Is.bl {w w' : World} {A : Option Addr} {E : List Int} (h : Is w A E) (g : Bl w w') : Is w' A E := by
  rcases h with h | ⟨b, off, h1, h2⟩
  · exact .inl h
  · exact .inr ⟨b, off, h1, h2.bl g⟩
theorem Rs.opened {w : World} {A : Option Addr} {L : List Rc} (h : Rs w A L) (hn : 0 < L.length) : ∃ b off, A = some ⟨b, off, none⟩ ∧ RowR w b off L := by
  rcases h with h | h
  · subst h; simp at hn
  · exact h
theorem Is.opened {w : World} {A : Option Addr} {E : List Int} (h : Is w A E) (hn : 0 < E.length) : ∃ b off, A = some ⟨b, off, none⟩ ∧ RowI w b off E := by
  rcases h with h | h
  · subst h; simp at hn
  · exact h
theorem Is.grown {w w' : World} {A : Option Addr} {E : List Int} {row : Option Nat} (h : Is w A E) (g : w.grownBy w' row) (hne : ∀ k, A.map (·.block) = some k → some k ≠ row) : Is w' A E := by
  rcases h with h | ⟨b, off, h1, h2⟩
  · exact .inl h
  · exact .inr ⟨b, off, h1, h2.grown g (hne b (by rw [h1]; rfl))⟩
theorem Rs.nil (w : World) (A : Option Addr) : Rs w A [] := .inl rfl
theorem Is.nil (w : World) (A : Option Addr) : Is w A [] := .inl rfl
/-- Rows that a call owns: of rectangles, of ints. -/
def OwR (w : World) (B : Nat) (A : Option Addr) (c : Nat) (L : List Rc) : Prop := w.ownsRow B 32 4 (.slice A L.length c) L.length (cR L)
def OwI (w : World) (B : Nat) (A : Option Addr) (c : Nat) (E : List Int) : Prop := w.ownsRow B 3 1 (.slice A E.length c) E.length (cI E)
theorem OwR.nil (w : World) (B : Nat) : OwR w B none 0 [] := World.ownsRow_nil _ _ _ _
theorem OwI.nil (w : World) (B : Nat) : OwI w B none 0 [] := World.ownsRow_nil _ _ _ _
theorem OwR.addr {w : World} {B : Nat} {A : Option Addr} {c : Nat} {L : List Rc} (h : OwR w B A c L) : (A = none ∧ c = 0 ∧ L = []) ∨ ∃ g, A = some ⟨g, 0, none⟩ ∧ B ≤ g ∧ g < w.heap.size := by
  rcases h.2 with ⟨h1, h2⟩ | ⟨g, cap, cur, h1, h2, h3, _⟩
  · left
    injection h1 with a b c'
    exact ⟨a, c', List.eq_nil_of_length_eq_zero h2⟩
  · right
    injection h1 with a b c'
    refine ⟨g, a, h2, ?_⟩
    rcases Nat.lt_or_ge g w.heap.size with hl | hl
    · exact hl
    · rw [Array.getElem?_eq_none hl] at h3; cases h3
theorem OwI.addr {w : World} {B : Nat} {A : Option Addr} {c : Nat} {E : List Int} (h : OwI w B A c E) : (A = none ∧ c = 0 ∧ E = []) ∨ ∃ g, A = some ⟨g, 0, none⟩ ∧ B ≤ g ∧ g < w.heap.size := by
  rcases h.2 with ⟨h1, h2⟩ | ⟨g, cap, cur, h1, h2, h3, _⟩
  · left
    injection h1 with a b c'
    exact ⟨a, c', List.eq_nil_of_length_eq_zero h2⟩
  · right
    injection h1 with a b c'
    refine ⟨g, a, h2, ?_⟩
    rcases Nat.lt_or_ge g w.heap.size with hl | hl
    · exact hl
    · rw [Array.getElem?_eq_none hl] at h3; cases h3
theorem OwR.cap {w : World} {B : Nat} {A : Option Addr} {c : Nat} {L : List Rc} (h : OwR w B A c L) : L.length ≤ c := own_cap h rfl
theorem OwI.cap {w : World} {B : Nat} {A : Option Addr} {c : Nat} {E : List Int} (h : OwI w B A c E) : E.length ≤ c := own_cap h rfl
theorem OwR.row {w : World} {B : Nat} {g c : Nat} {L : List Rc} (h : OwR w B (some ⟨g, 0, none⟩) c L) : RowR w g 0 L := fun k r hk => by
  have hl : k < L.length := by
    rcases Nat.lt_or_ge k L.length with h' | h'
    · exact h'
    · rw [List.getElem?_eq_none h'] at hk; cases hk
  have q := fun j (hj : j < 4) => (World.ownsRow.cellAt h (k * 4 + j) (by omega)).trans (cR_get L k r j hk hj)
  refine ⟨?_, ?_, ?_, ?_⟩
  · simpa [c4] using q 0 (by omega)
  · simpa [c4] using q 1 (by omega)
  · simpa [c4] using q 2 (by omega)
  · simpa [c4] using q 3 (by omega)
theorem OwI.row {w : World} {B : Nat} {g c : Nat} {E : List Int} (h : OwI w B (some ⟨g, 0, none⟩) c E) : RowI w g 0 E := fun k x hk => by
  have hl : k < E.length := by
    rcases Nat.lt_or_ge k E.length with h' | h'
    · exact h'
    · rw [List.getElem?_eq_none h'] at hk; cases hk
  have q := World.ownsRow.cellAt h k (by omega)
  rw [Nat.zero_add, q]
  simp [cI, hk]
theorem OwR.rs {w : World} {B : Nat} {A : Option Addr} {c : Nat} {L : List Rc} (h : OwR w B A c L) : Rs w A L := by
  rcases h.addr with ⟨_, _, h'⟩ | ⟨g, rfl, _⟩
  · exact .inl h'
  · exact .inr ⟨g, 0, rfl, h.row⟩
theorem OwI.is {w : World} {B : Nat} {A : Option Addr} {c : Nat} {E : List Int} (h : OwI w B A c E) : Is w A E := by
  rcases h.addr with ⟨_, _, h'⟩ | ⟨g, rfl, _⟩
  · exact .inl h'
  · exact .inr ⟨g, 0, rfl, h.row⟩
theorem OwR.grown {w w' : World} {B : Nat} {A : Option Addr} {c : Nat} {L : List Rc} {row : Option Nat} (h : OwR w B A c L) (g : w.grownBy w' row) (hne : A = none ∨ A.map (·.block) ≠ row) : OwR w' B A c L :=
  World.ownsRow.kept h g (by rw [slice_block]; rcases hne with rfl | hne; exact .inl rfl; exact .inr hne)
theorem OwI.grown {w w' : World} {B : Nat} {A : Option Addr} {c : Nat} {E : List Int} {row : Option Nat} (h : OwI w B A c E) (g : w.grownBy w' row) (hne : A = none ∨ A.map (·.block) ≠ row) : OwI w' B A c E :=
  World.ownsRow.kept h g (by rw [slice_block]; rcases hne with rfl | hne; exact .inl rfl; exact .inr hne)
theorem OwR.bl {w w' : World} {B : Nat} {A : Option Addr} {c : Nat} {L : List Rc} (h : OwR w B A c L) (g : Bl w w') : OwR w' B A c L :=
  h.grown g.by (by cases A with | none => exact .inl rfl | some a => exact .inr (by simp))
theorem OwI.bl {w w' : World} {B : Nat} {A : Option Addr} {c : Nat} {E : List Int} (h : OwI w B A c E) (g : Bl w w') : OwI w' B A c E :=
  h.grown g.by (by cases A with | none => exact .inl rfl | some a => exact .inr (by simp))

/-- What append leaves: the row, where it lies, and what else has turned. -/
def Apd (w w' : World) (A A' : Option Addr) : Prop := w.grownBy w' (A.map (·.block)) ∧ ((A.map (·.block)) = A'.map (·.block) ∨ A'.map (·.block) = some w.heap.size)
theorem Apd.bl {w0 w w' : World} {A A' : Option Addr} {B : Nat} (g : Apd w w' A A') (h : Bl w0 w) (hA : A = none ∨ ∃ k, A = some ⟨k, 0, none⟩ ∧ B ≤ k ∧ k < w.heap.size) (hB : w0.heap.size ≤ B) : Bl w0 w' :=
  h.grown g.1 (fun k hk => by
    rcases hA with rfl | ⟨k', rfl, h1, _⟩
    · cases hk
    · simp at hk; omega)
theorem OwR.lies {w : World} {B : Nat} {A : Option Addr} {c : Nat} {L : List Rc} (h : OwR w B A c L) : A = none ∨ ∃ k, A = some ⟨k, 0, none⟩ ∧ B ≤ k ∧ k < w.heap.size := by
  rcases h.addr with ⟨h1, _⟩ | h1
  · exact .inl h1
  · exact .inr h1
theorem OwI.lies {w : World} {B : Nat} {A : Option Addr} {c : Nat} {E : List Int} (h : OwI w B A c E) : A = none ∨ ∃ k, A = some ⟨k, 0, none⟩ ∧ B ≤ k ∧ k < w.heap.size := by
  rcases h.addr with ⟨h1, _⟩ | h1
  · exact .inl h1
  · exact .inr h1

theorem infoR : (Try.prog.info? 32).map (fun i => (i.zero, i.size, i.bytes)) = some (some (.agg #[.int .i64 0, .int .i64 0, .int .i64 0, .int .i64 0]), 4, 32) := by kernel_rfl
theorem infoI : (Try.prog.info? 3).map (fun i => (i.zero, i.size, i.bytes)) = some (some (.int .i64 0), 1, 8) := by kernel_rfl

end Go.Proofs.Ytackojmckloacaa
