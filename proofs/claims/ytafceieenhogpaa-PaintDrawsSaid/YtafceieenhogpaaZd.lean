/-
  What is proved: small words for memory: a world that is another one with new blocks; slices that read as lists of rectangles, of ints, of bands; and how 'append' adds to such a row. No conditions. what 'append' does to a row of rectangles, of ints, of bands, that the call owns. No conditions but a bound on the length. what the small calls of package region on bands hand back. plain facts on rows of edges: a rising list of ints, and which ints have an odd number of them at or ahead of them; no Go in sight. what 'append' of a whole row of rectangles does to a row of the call's own. No conditions but a bound on the length.
-/
import Derived.Test.YtafceieenhogpaaZa
import Derived.Deep.AppendLies
import Derived.Laws.OwnMore
import Derived.OwnWalk
import Derived.Lib.Hide
import Derived.LoopTactic
import Derived.Handy
namespace Go.Proofs.Ytafceieenhogpaa
open Go.RowKit Go.Sort

/-- What was there is as it was. -/
def Bl (w w' : World) : Prop := Below w.heap.size w w'
theorem Bl.refl (w : World) : Bl w w := Below.refl _ _
theorem Bl.trans {a b c : World} (h : Bl a b) (k : Bl b c) : Bl a c := Below.trans h (Below.mono k h.size)
theorem Gr.bl {a b : World} (h : Gr a b) : Bl a b := h.below
theorem Bl.alloc {a b : World} (h : Bl a b) (o : Obj) : Bl a (b.alloc o) := h.trans ((Gr.refl b).alloc o).bl
theorem Bl.drew {a b : World} (h : Bl a b) : Bl a b.drew := h.trans (Gr.refl b).drew.bl
theorem Bl.drewN {a b : World} (h : Bl a b) (n : Nat) : Bl a (b.drewN n) := h.trans ((Gr.refl b).drewN n).bl
theorem Bl.grow {a b : World} (h : Bl a b) (os : Array Obj) : Bl a (Go.Sort.grow b os) := h.trans ((Gr.refl b).grow os).bl
theorem Bl.gr {a b c : World} (h : Bl a b) (k : Gr b c) : Bl a c := h.trans k.bl
theorem Bl.setCell {a b : World} (h : Bl a b) {p : Addr} (hp : a.heap.size ≤ p.block) (u : Value) : Bl a (b.setCell p u) := Below.setCell h hp u
theorem Bl.size {a b : World} (h : Bl a b) : a.heap.size ≤ b.heap.size := Below.size h
theorem Bl.cell {a b : World} (h : Bl a b) {p : Addr} (hp : p.block < a.heap.size) : b.cell? p = a.cell? p := Below.cell h hp
theorem Bl.frozen {a b : World} (h : Bl a b) {p : Addr} (hp : p.block < a.heap.size) : b.frozen? p = a.frozen? p := Below.frozen h hp
theorem Bl.keep {a b : World} (h : Bl a b) {p : Addr} {v : Value} (hp : a.cell? p = some v) : b.cell? p = some v :=
  (h.cell (World.block_lt_of_cell? a p hp)).trans hp
theorem Bl.grown {a b c : World} {row : Option Nat} (h : Bl a b) (g : b.grownBy c row) (hr : ∀ k, row = some k → a.heap.size ≤ k) : Bl a c :=
  ⟨g.os.trans (Below.os h), g.tape.trans (Below.tape h), g.output.trans (Below.output h), Nat.le_trans h.size g.size,
    fun k hk => (g.block k (Nat.lt_of_lt_of_le hk h.size) (fun e => by have := hr k e.symm; omega)).trans (Below.block h k hk)⟩
theorem At.bl {w w' : World} {b : Nat} {cs : Array Value} {t : TypeId} (h : At w b cs t) (g : Bl w w') : At w' b cs t := by
  have := Below.block g b h.lt
  unfold At at *; rw [this]; exact h
theorem At.grown {w w' : World} {b : Nat} {cs : Array Value} {t : TypeId} {row : Option Nat} (h : At w b cs t) (g : w.grownBy w' row) (hne : some b ≠ row) : At w' b cs t := by
  have := g.block b h.lt hne
  unfold At at *; rw [this]; exact h

/-- The cells of a rectangle, and of a list of them. -/
def c4 (r : Rc) : List Value := [.int .i64 r.a, .int .i64 r.b, .int .i64 r.c, .int .i64 r.d]
def cR : List Rc → List Value
  | [] => []
  | r :: l => c4 r ++ cR l
theorem cR_len : ∀ L : List Rc, (cR L).length = L.length * 4
  | [] => rfl
  | r :: l => by unfold cR; rw [List.length_append, cR_len l]; simp [c4]; omega
theorem cR_app : ∀ L M : List Rc, cR (L ++ M) = cR L ++ cR M
  | [], M => rfl
  | r :: l, M => by show c4 r ++ cR (l ++ M) = (c4 r ++ cR l) ++ cR M; rw [cR_app l M, List.append_assoc]
theorem cR_get : ∀ (L : List Rc) (k : Nat) (r : Rc) (j : Nat), L[k]? = some r → j < 4 → (cR L)[k * 4 + j]? = (c4 r)[j]?
  | [], k, r, j, h, _ => by simp at h
  | r' :: l, 0, r, j, h, hj => by
    simp at h; subst h
    unfold cR
    rw [List.getElem?_append_left (by simp [c4]; omega)]; simp
  | r' :: l, k + 1, r, j, h, hj => by
    unfold cR
    rw [List.getElem?_append_right (by simp [c4]; omega)]
    rw [show (k + 1) * 4 + j - (c4 r').length = k * 4 + j from by simp [c4]; omega]
    exact cR_get l k r j (by simpa using h) hj
theorem cR_one : ∀ (L : List Rc), ∀ u ∈ cR L, u.oneCell' = true
  | [], u, h => by simp [cR] at h
  | r :: l, u, h => by
    unfold cR at h
    rw [List.mem_append] at h
    rcases h with h | h
    · simp [c4] at h; rcases h with h | h | h | h <;> subst h <;> rfl
    · exact cR_one l u h

/-- The cells of a list of ints. -/
def cI (E : List Int) : List Value := E.map (Value.int .i64)
theorem cI_len (E : List Int) : (cI E).length = E.length := by simp [cI]
theorem cI_app (E F : List Int) : cI (E ++ F) = cI E ++ cI F := by simp [cI]
theorem cI_one (E : List Int) : ∀ u ∈ cI E, u.oneCell' = true := by
  intro u h; simp [cI] at h; obtain ⟨x, _, rfl⟩ := h; rfl

/-- From cell off of block b on lie these rectangles; ints. -/
def RowR (w : World) (b off : Nat) (L : List Rc) : Prop := ∀ k r, L[k]? = some r → w.cell? ⟨b, off + k * 4, none⟩ = some (.int .i64 r.a) ∧ w.cell? ⟨b, off + k * 4 + 1, none⟩ = some (.int .i64 r.b) ∧
  w.cell? ⟨b, off + k * 4 + 2, none⟩ = some (.int .i64 r.c) ∧ w.cell? ⟨b, off + k * 4 + 3, none⟩ = some (.int .i64 r.d)
def RowI (w : World) (b off : Nat) (E : List Int) : Prop := ∀ k x, E[k]? = some x → w.cell? ⟨b, off + k, none⟩ = some (.int .i64 x)
def Rs (w : World) (A : Option Addr) (L : List Rc) : Prop := L = [] ∨ ∃ b off, A = some ⟨b, off, none⟩ ∧ RowR w b off L
def Is (w : World) (A : Option Addr) (E : List Int) : Prop := E = [] ∨ ∃ b off, A = some ⟨b, off, none⟩ ∧ RowI w b off E
theorem RowR.bl {w w' : World} {b off : Nat} {L : List Rc} (h : RowR w b off L) (g : Bl w w') : RowR w' b off L := fun k r hk => by
  obtain ⟨h1, h2, h3, h4⟩ := h k r hk
  exact ⟨g.keep h1, g.keep h2, g.keep h3, g.keep h4⟩
theorem RowI.bl {w w' : World} {b off : Nat} {E : List Int} (h : RowI w b off E) (g : Bl w w') : RowI w' b off E := fun k r hk => g.keep (h k r hk)
theorem RowI.grown {w w' : World} {b off : Nat} {E : List Int} {row : Option Nat} (h : RowI w b off E) (g : w.grownBy w' row) (hne : some b ≠ row) : RowI w' b off E := fun k r hk => g.cell (h k r hk) hne
theorem RowR.grown {w w' : World} {b off : Nat} {L : List Rc} {row : Option Nat} (h : RowR w b off L) (g : w.grownBy w' row) (hne : some b ≠ row) : RowR w' b off L := fun k r hk => by
  obtain ⟨h1, h2, h3, h4⟩ := h k r hk
  exact ⟨g.cell h1 hne, g.cell h2 hne, g.cell h3 hne, g.cell h4 hne⟩
theorem Rs.bl {w w' : World} {A : Option Addr} {L : List Rc} (h : Rs w A L) (g : Bl w w') : Rs w' A L := by
  rcases h with h | ⟨b, off, h1, h2⟩
  · exact .inl h
  · exact .inr ⟨b, off, h1, h2.bl g⟩
theorem Is.bl {w w' : World} {A : Option Addr} {E : List Int} (h : Is w A E) (g : Bl w w') : Is w' A E := by
  rcases h with h | ⟨b, off, h1, h2⟩
  · exact .inl h
  · exact .inr ⟨b, off, h1, h2.bl g⟩
theorem Rs.opened {w : World} {A : Option Addr} {L : List Rc} (h : Rs w A L) (hn : 0 < L.length) : ∃ b off, A = some ⟨b, off, none⟩ ∧ RowR w b off L := by
  rcases h with h | h
  · subst h; simp at hn
  · exact h
theorem Is.opened {w : World} {A : Option Addr} {E : List Int} (h : Is w A E) (hn : 0 < E.length) : ∃ b off, A = some ⟨b, off, none⟩ ∧ RowI w b off E := by
  rcases h with h | h
  · subst h; simp at hn
  · exact h
theorem Is.grown {w w' : World} {A : Option Addr} {E : List Int} {row : Option Nat} (h : Is w A E) (g : w.grownBy w' row) (hne : ∀ k, A.map (·.block) = some k → some k ≠ row) : Is w' A E := by
  rcases h with h | ⟨b, off, h1, h2⟩
  · exact .inl h
  · exact .inr ⟨b, off, h1, h2.grown g (hne b (by rw [h1]; rfl))⟩
theorem Rs.nil (w : World) (A : Option Addr) : Rs w A [] := .inl rfl
theorem Is.nil (w : World) (A : Option Addr) : Is w A [] := .inl rfl
theorem list_at {α : Type} {l : List α} {k : Nat} (h : k < l.length) : ∃ x, l[k]? = some x := ⟨l[k], List.getElem?_eq_getElem h⟩

/-- Rows that a call owns: of rectangles, of ints. -/
def OwR (w : World) (B : Nat) (A : Option Addr) (c : Nat) (L : List Rc) : Prop := w.ownsRow B 24 4 (.slice A L.length c) L.length (cR L)
def OwI (w : World) (B : Nat) (A : Option Addr) (c : Nat) (E : List Int) : Prop := w.ownsRow B 3 1 (.slice A E.length c) E.length (cI E)
theorem OwR.nil (w : World) (B : Nat) : OwR w B none 0 [] := World.ownsRow_nil _ _ _ _
theorem OwI.nil (w : World) (B : Nat) : OwI w B none 0 [] := World.ownsRow_nil _ _ _ _
theorem OwR.addr {w : World} {B : Nat} {A : Option Addr} {c : Nat} {L : List Rc} (h : OwR w B A c L) : (A = none ∧ c = 0 ∧ L = []) ∨ ∃ g, A = some ⟨g, 0, none⟩ ∧ B ≤ g ∧ g < w.heap.size := by
  rcases h.2 with ⟨h1, h2⟩ | ⟨g, cap, cur, h1, h2, h3, _⟩
  · left
    injection h1 with a b c'
    exact ⟨a, c', List.eq_nil_of_length_eq_zero h2⟩
  · right
    injection h1 with a b c'
    refine ⟨g, a, h2, ?_⟩
    rcases Nat.lt_or_ge g w.heap.size with hl | hl
    · exact hl
    · rw [Array.getElem?_eq_none hl] at h3; cases h3
theorem OwI.addr {w : World} {B : Nat} {A : Option Addr} {c : Nat} {E : List Int} (h : OwI w B A c E) : (A = none ∧ c = 0 ∧ E = []) ∨ ∃ g, A = some ⟨g, 0, none⟩ ∧ B ≤ g ∧ g < w.heap.size := by
  rcases h.2 with ⟨h1, h2⟩ | ⟨g, cap, cur, h1, h2, h3, _⟩
  · left
    injection h1 with a b c'
    exact ⟨a, c', List.eq_nil_of_length_eq_zero h2⟩
  · right
    injection h1 with a b c'
    refine ⟨g, a, h2, ?_⟩
    rcases Nat.lt_or_ge g w.heap.size with hl | hl
    · exact hl
    · rw [Array.getElem?_eq_none hl] at h3; cases h3
theorem own_cap {w : World} {B s n m c : Nat} {e : TypeId} {A : Option Addr} {xs : List Value} (h : w.ownsRow B e s (.slice A m c) n xs) (_hm : m = n) : n ≤ c := by
  rcases h.2 with ⟨h1, h2⟩ | ⟨g, cap, cur, h1, _, _, h4, _⟩
  · omega
  · injection h1 with a b c'; omega
theorem OwR.cap {w : World} {B : Nat} {A : Option Addr} {c : Nat} {L : List Rc} (h : OwR w B A c L) : L.length ≤ c := own_cap h rfl
theorem OwI.cap {w : World} {B : Nat} {A : Option Addr} {c : Nat} {E : List Int} (h : OwI w B A c E) : E.length ≤ c := own_cap h rfl
theorem OwR.row {w : World} {B : Nat} {g c : Nat} {L : List Rc} (h : OwR w B (some ⟨g, 0, none⟩) c L) : RowR w g 0 L := fun k r hk => by
  have hl : k < L.length := by
    rcases Nat.lt_or_ge k L.length with h' | h'
    · exact h'
    · rw [List.getElem?_eq_none h'] at hk; cases hk
  have q := fun j (hj : j < 4) => (World.ownsRow.cellAt h (k * 4 + j) (by omega)).trans (cR_get L k r j hk hj)
  refine ⟨?_, ?_, ?_, ?_⟩
  · simpa [c4] using q 0 (by omega)
  · simpa [c4] using q 1 (by omega)
  · simpa [c4] using q 2 (by omega)
  · simpa [c4] using q 3 (by omega)
theorem OwI.row {w : World} {B : Nat} {g c : Nat} {E : List Int} (h : OwI w B (some ⟨g, 0, none⟩) c E) : RowI w g 0 E := fun k x hk => by
  have hl : k < E.length := by
    rcases Nat.lt_or_ge k E.length with h' | h'
    · exact h'
    · rw [List.getElem?_eq_none h'] at hk; cases hk
  have q := World.ownsRow.cellAt h k (by omega)
  rw [Nat.zero_add, q]
  simp [cI, hk]
theorem OwR.rs {w : World} {B : Nat} {A : Option Addr} {c : Nat} {L : List Rc} (h : OwR w B A c L) : Rs w A L := by
  rcases h.addr with ⟨_, _, h'⟩ | ⟨g, rfl, _⟩
  · exact .inl h'
  · exact .inr ⟨g, 0, rfl, h.row⟩
theorem OwI.is {w : World} {B : Nat} {A : Option Addr} {c : Nat} {E : List Int} (h : OwI w B A c E) : Is w A E := by
  rcases h.addr with ⟨_, _, h'⟩ | ⟨g, rfl, _⟩
  · exact .inl h'
  · exact .inr ⟨g, 0, rfl, h.row⟩
theorem slice_block (A : Option Addr) (n c : Nat) : (Value.slice A n c).ownBlock = A.map (·.block) := by cases A <;> rfl
theorem OwR.grown {w w' : World} {B : Nat} {A : Option Addr} {c : Nat} {L : List Rc} {row : Option Nat} (h : OwR w B A c L) (g : w.grownBy w' row) (hne : A = none ∨ A.map (·.block) ≠ row) : OwR w' B A c L :=
  World.ownsRow.kept h g (by rw [slice_block]; rcases hne with rfl | hne; exact .inl rfl; exact .inr hne)
theorem OwI.grown {w w' : World} {B : Nat} {A : Option Addr} {c : Nat} {E : List Int} {row : Option Nat} (h : OwI w B A c E) (g : w.grownBy w' row) (hne : A = none ∨ A.map (·.block) ≠ row) : OwI w' B A c E :=
  World.ownsRow.kept h g (by rw [slice_block]; rcases hne with rfl | hne; exact .inl rfl; exact .inr hne)
theorem Bl.by {w w' : World} (h : Bl w w') : w.grownBy w' none := ⟨Below.os h, Below.tape h, Below.output h, h.size, fun k hk _ => Below.block h k hk⟩
theorem OwR.bl {w w' : World} {B : Nat} {A : Option Addr} {c : Nat} {L : List Rc} (h : OwR w B A c L) (g : Bl w w') : OwR w' B A c L :=
  h.grown g.by (by cases A with | none => exact .inl rfl | some a => exact .inr (by simp))
theorem OwI.bl {w w' : World} {B : Nat} {A : Option Addr} {c : Nat} {E : List Int} (h : OwI w B A c E) (g : Bl w w') : OwI w' B A c E :=
  h.grown g.by (by cases A with | none => exact .inl rfl | some a => exact .inr (by simp))

/-- What append leaves: the row, where it lies, and what else has turned. -/
def Apd (w w' : World) (A A' : Option Addr) : Prop := w.grownBy w' (A.map (·.block)) ∧ ((A.map (·.block)) = A'.map (·.block) ∨ A'.map (·.block) = some w.heap.size)
theorem Apd.bl {w0 w w' : World} {A A' : Option Addr} {B : Nat} (g : Apd w w' A A') (h : Bl w0 w) (hA : A = none ∨ ∃ k, A = some ⟨k, 0, none⟩ ∧ B ≤ k ∧ k < w.heap.size) (hB : w0.heap.size ≤ B) : Bl w0 w' :=
  h.grown g.1 (fun k hk => by
    rcases hA with rfl | ⟨k', rfl, h1, _⟩
    · cases hk
    · simp at hk; omega)
theorem OwR.lies {w : World} {B : Nat} {A : Option Addr} {c : Nat} {L : List Rc} (h : OwR w B A c L) : A = none ∨ ∃ k, A = some ⟨k, 0, none⟩ ∧ B ≤ k ∧ k < w.heap.size := by
  rcases h.addr with ⟨h1, _⟩ | h1
  · exact .inl h1
  · exact .inr h1
theorem OwI.lies {w : World} {B : Nat} {A : Option Addr} {c : Nat} {E : List Int} (h : OwI w B A c E) : A = none ∨ ∃ k, A = some ⟨k, 0, none⟩ ∧ B ≤ k ∧ k < w.heap.size := by
  rcases h.addr with ⟨h1, _⟩ | h1
  · exact .inl h1
  · exact .inr h1

theorem infoR : (Try.prog.info? 24).map (fun i => (i.zero, i.size, i.bytes)) = some (some (.agg #[.int .i64 0, .int .i64 0, .int .i64 0, .int .i64 0]), 4, 32) := by kernel_rfl
theorem infoI : (Try.prog.info? 3).map (fun i => (i.zero, i.size, i.bytes)) = some (some (.int .i64 0), 1, 8) := by kernel_rfl

end Go.Proofs.Ytafceieenhogpaa
namespace Go.Proofs.Ytafceieenhogpaa
open Go.RowKit Go.Sort

/-- A band as it lies: its two heights, and the slice of its edges. -/
structure BV where
  y0 : Int
  y1 : Int
  v : Value
def c3 (r : BV) : List Value := [.int .i64 r.y0, .int .i64 r.y1, r.v]
def cB : List BV → List Value
  | [] => []
  | r :: l => c3 r ++ cB l
theorem cB_len : ∀ L : List BV, (cB L).length = L.length * 3
  | [] => rfl
  | r :: l => by unfold cB; rw [List.length_append, cB_len l]; simp [c3]; omega
theorem cB_app : ∀ L M : List BV, cB (L ++ M) = cB L ++ cB M
  | [], M => rfl
  | r :: l, M => by show c3 r ++ cB (l ++ M) = (c3 r ++ cB l) ++ cB M; rw [cB_app l M, List.append_assoc]
theorem cB_get : ∀ (L : List BV) (k : Nat) (r : BV) (j : Nat), L[k]? = some r → j < 3 → (cB L)[k * 3 + j]? = (c3 r)[j]?
  | [], k, r, j, h, _ => by simp at h
  | r' :: l, 0, r, j, h, hj => by
    simp at h; subst h
    unfold cB
    rw [List.getElem?_append_left (by simp [c3]; omega)]; simp
  | r' :: l, k + 1, r, j, h, hj => by
    unfold cB
    rw [List.getElem?_append_right (by simp [c3]; omega)]
    rw [show (k + 1) * 3 + j - (c3 r').length = k * 3 + j from by simp [c3]; omega]
    exact cB_get l k r j (by simpa using h) hj
theorem cB_set : ∀ (L : List BV) (k : Nat) (r r' : BV) (j : Nat) (u : Value), L[k]? = some r → j < 3 → c3 r' = (c3 r).set j u → cB (L.set k r') = (cB L).set (k * 3 + j) u
  | [], k, r, r', j, u, h, _, _ => by simp at h
  | q :: l, 0, r, r', j, u, h, hj, he => by
    simp at h; subst h
    simp only [List.set_cons_zero]
    unfold cB
    rw [he, List.set_append_left _ _ (by simp [c3]; omega)]; simp
  | q :: l, k + 1, r, r', j, u, h, hj, he => by
    simp only [List.set_cons_succ]
    show c3 q ++ cB (l.set k r') = (c3 q ++ cB l).set ((k + 1) * 3 + j) u
    rw [List.set_append_right _ _ (by simp [c3]; omega)]
    rw [show (k + 1) * 3 + j - (c3 q).length = k * 3 + j from by simp [c3]; omega]
    rw [cB_set l k r r' j u (by simpa using h) hj he]
def BV.one (r : BV) : Prop := r.v.oneCell' = true
theorem cB_one : ∀ (L : List BV), (∀ r ∈ L, r.one) → ∀ u ∈ cB L, u.oneCell' = true
  | [], _, u, h => by simp [cB] at h
  | r :: l, hL, u, h => by
    unfold cB at h
    rw [List.mem_append] at h
    rcases h with h | h
    · simp [c3] at h
      rcases h with h | h | h
      · subst h; rfl
      · subst h; rfl
      · subst h; exact hL r (by simp)
    · exact cB_one l (fun q hq => hL q (by simp [hq])) u h
def RowB (w : World) (b off : Nat) (L : List BV) : Prop := ∀ k r, L[k]? = some r → w.cell? ⟨b, off + k * 3, none⟩ = some (.int .i64 r.y0) ∧ w.cell? ⟨b, off + k * 3 + 1, none⟩ = some (.int .i64 r.y1) ∧
  w.cell? ⟨b, off + k * 3 + 2, none⟩ = some r.v
theorem RowB.bl {w w' : World} {b off : Nat} {L : List BV} (h : RowB w b off L) (g : Bl w w') : RowB w' b off L := fun k r hk => by
  obtain ⟨h1, h2, h3⟩ := h k r hk
  exact ⟨g.keep h1, g.keep h2, g.keep h3⟩
theorem RowB.grown {w w' : World} {b off : Nat} {L : List BV} {row : Option Nat} (h : RowB w b off L) (g : w.grownBy w' row) (hne : some b ≠ row) : RowB w' b off L := fun k r hk => by
  obtain ⟨h1, h2, h3⟩ := h k r hk
  exact ⟨g.cell h1 hne, g.cell h2 hne, g.cell h3 hne⟩
def OwB (w : World) (B : Nat) (A : Option Addr) (c : Nat) (L : List BV) : Prop := w.ownsRow B 92 3 (.slice A L.length c) L.length (cB L)
theorem OwB.nil (w : World) (B : Nat) : OwB w B none 0 [] := World.ownsRow_nil _ _ _ _
theorem OwB.addr {w : World} {B : Nat} {A : Option Addr} {c : Nat} {L : List BV} (h : OwB w B A c L) : (A = none ∧ c = 0 ∧ L = []) ∨ ∃ g, A = some ⟨g, 0, none⟩ ∧ B ≤ g ∧ g < w.heap.size := by
  rcases h.2 with ⟨h1, h2⟩ | ⟨g, cap, cur, h1, h2, h3, _⟩
  · left
    injection h1 with a b c'
    exact ⟨a, c', List.eq_nil_of_length_eq_zero h2⟩
  · right
    injection h1 with a b c'
    refine ⟨g, a, h2, ?_⟩
    rcases Nat.lt_or_ge g w.heap.size with hl | hl
    · exact hl
    · rw [Array.getElem?_eq_none hl] at h3; cases h3
theorem OwB.lies {w : World} {B : Nat} {A : Option Addr} {c : Nat} {L : List BV} (h : OwB w B A c L) : A = none ∨ ∃ k, A = some ⟨k, 0, none⟩ ∧ B ≤ k ∧ k < w.heap.size := by
  rcases h.addr with ⟨h1, _⟩ | h1
  · exact .inl h1
  · exact .inr h1
theorem OwB.cap {w : World} {B : Nat} {A : Option Addr} {c : Nat} {L : List BV} (h : OwB w B A c L) : L.length ≤ c := own_cap h rfl
theorem OwB.row {w : World} {B : Nat} {g c : Nat} {L : List BV} (h : OwB w B (some ⟨g, 0, none⟩) c L) : RowB w g 0 L := fun k r hk => by
  have hl : k < L.length := by
    rcases Nat.lt_or_ge k L.length with h' | h'
    · exact h'
    · rw [List.getElem?_eq_none h'] at hk; cases hk
  have q := fun j (hj : j < 3) => (World.ownsRow.cellAt h (k * 3 + j) (by omega)).trans (cB_get L k r j hk hj)
  refine ⟨?_, ?_, ?_⟩
  · simpa [c3] using q 0 (by omega)
  · simpa [c3] using q 1 (by omega)
  · simpa [c3] using q 2 (by omega)
theorem OwB.free {w : World} {B : Nat} {g c : Nat} {L : List BV} (h : OwB w B (some ⟨g, 0, none⟩) c L) (j : Nat) : w.frozen? ⟨g, j, none⟩ = false := World.ownsRow.frozenAt h j
theorem OwI.free {w : World} {B : Nat} {g c : Nat} {L : List Int} (h : OwI w B (some ⟨g, 0, none⟩) c L) (j : Nat) : w.frozen? ⟨g, j, none⟩ = false := World.ownsRow.frozenAt h j
theorem OwR.free {w : World} {B : Nat} {g c : Nat} {L : List Rc} (h : OwR w B (some ⟨g, 0, none⟩) c L) (j : Nat) : w.frozen? ⟨g, j, none⟩ = false := World.ownsRow.frozenAt h j
theorem OwB.grown {w w' : World} {B : Nat} {A : Option Addr} {c : Nat} {L : List BV} {row : Option Nat} (h : OwB w B A c L) (g : w.grownBy w' row) (hne : A = none ∨ A.map (·.block) ≠ row) : OwB w' B A c L :=
  World.ownsRow.kept h g (by rw [slice_block]; rcases hne with rfl | hne; exact .inl rfl; exact .inr hne)
theorem OwB.bl {w w' : World} {B : Nat} {A : Option Addr} {c : Nat} {L : List BV} (h : OwB w B A c L) (g : Bl w w') : OwB w' B A c L :=
  h.grown g.by (by cases A with | none => exact .inl rfl | some a => exact .inr (by simp))
theorem infoB : (Try.prog.info? 92).map (fun i => (i.zero, i.size, i.bytes)) = some (some (.agg #[.int .i64 0, .int .i64 0, .slice none 0 0]), 3, 40) := by kernel_rfl

theorem wp_app_r {ops : Array Oper} {rest : List Oper} {o : Oper} {a : Act} {w : World} {Q : Exit → Act → World → Prop} (hgd : o.guard = none) (s x : Operand)
    (ho : o.op = .call { callee := .builtin .append, args := #[s, x], argTypes := #[22, 22] }) (A : Option Addr) (c : Nat) (L : List Rc) (hs : a.eval s = .slice A L.length c) (B : Nat) (hown : OwR w B A c L)
    (g0 : Nat) (r : Rc) (c0 : Nat) (hx : a.eval x = .slice (some ⟨g0, 0, none⟩) 1 c0) (hAt : At w g0 #[.int .i64 r.a, .int .i64 r.b, .int .i64 r.c, .int .i64 r.d] 24) (hlen : L.length ≤ 1000000000000) (hB : B ≤ w.heap.size)
    (h : ∀ A' c' w', OwR w' B A' c' (L ++ [r]) → Apd w w' A A' → wpList Try.prog ops Q rest (a.put o.dst (.slice A' (L.length + 1) c')) w') :
    wpList Try.prog ops Q (o :: rest) a w := by
  obtain ⟨i0, hi, hz0, hz1, hz2⟩ := info_parts infoR
  refine wpList_append_lies (P := Try.prog) w hgd s x 22 ho B 24 i0 _ 4 32 Try.underlying22 hi hz0 hz1 hz2 rfl (by decide) (.slice A L.length c) L.length (cR L) hs hown
    ⟨g0, 0, none⟩ 1 c0 (cR [r]) hx (by rw [cR_len]; rfl) (World.news_of_block hAt) (cR_one _) (by decide) (by unfold maxLen; omega) (by omega) hB w.heap.size rfl ?_
  intro g cap w' h1 h2 h3 h4
  refine h (some ⟨g, 0, none⟩) cap w' ?_ ⟨?_, ?_⟩
  · unfold OwR; rw [cR_app, List.length_append]; exact h1
  · rw [slice_block] at h2; exact h2
  · rw [slice_block] at h3
    rcases h3 with h3 | h3
    · exact .inl h3
    · right; show some g = _; rw [h3]
theorem step_app_r {ops : Array Oper} {o : Oper} {a : Act} {w : World} {K : Act → World → Prop} {Q : Exit → Act → World → Prop} {E : Prop} (hgd : o.guard = none) (s x : Operand)
    (ho : o.op = .call { callee := .builtin .append, args := #[s, x], argTypes := #[22, 22] }) (A : Option Addr) (c : Nat) (L : List Rc) (hs : a.eval s = .slice A L.length c) (B : Nat) (hown : OwR w B A c L)
    (g0 : Nat) (r : Rc) (c0 : Nat) (hx : a.eval x = .slice (some ⟨g0, 0, none⟩) 1 c0) (hAt : At w g0 #[.int .i64 r.a, .int .i64 r.b, .int .i64 r.c, .int .i64 r.d] 24) (hlen : L.length ≤ 1000000000000) (hB : B ≤ w.heap.size)
    (h : ∀ A' c' w', OwR w' B A' c' (L ++ [r]) → Apd w w' A A' → K (a.put o.dst (.slice A' (L.length + 1) c')) w') :
    if Region.wanted o (yielded ops a.tmps) = true then Oper.wp Try.prog o a w K Q else E := by
  obtain ⟨i0, hi, hz0, hz1, hz2⟩ := info_parts infoR
  refine step_append_lies (P := Try.prog) w hgd s x 22 ho B 24 i0 _ 4 32 Try.underlying22 hi hz0 hz1 hz2 rfl (by decide) (.slice A L.length c) L.length (cR L) hs hown
    ⟨g0, 0, none⟩ 1 c0 (cR [r]) hx (by rw [cR_len]; rfl) (World.news_of_block hAt) (cR_one _) (by decide) (by unfold maxLen; omega) (by omega) hB w.heap.size rfl ?_
  intro g cap w' h1 h2 h3 h4
  refine h (some ⟨g, 0, none⟩) cap w' ?_ ⟨?_, ?_⟩
  · unfold OwR; rw [cR_app, List.length_append]; exact h1
  · rw [slice_block] at h2; exact h2
  · rw [slice_block] at h3
    rcases h3 with h3 | h3
    · exact .inl h3
    · right; show some g = _; rw [h3]
theorem wp_app_i {ops : Array Oper} {rest : List Oper} {o : Oper} {a : Act} {w : World} {Q : Exit → Act → World → Prop} (hgd : o.guard = none) (s x : Operand)
    (ho : o.op = .call { callee := .builtin .append, args := #[s, x], argTypes := #[90, 90] }) (A : Option Addr) (c : Nat) (L : List Int) (hs : a.eval s = .slice A L.length c) (B : Nat) (hown : OwI w B A c L)
    (g0 : Nat) (x0 : Int) (c0 : Nat) (hx : a.eval x = .slice (some ⟨g0, 0, none⟩) 1 c0) (hAt : At w g0 #[.int .i64 x0] 3) (hlen : L.length ≤ 1000000000000) (hB : B ≤ w.heap.size)
    (h : ∀ A' c' w', OwI w' B A' c' (L ++ [x0]) → Apd w w' A A' → wpList Try.prog ops Q rest (a.put o.dst (.slice A' (L.length + 1) c')) w') :
    wpList Try.prog ops Q (o :: rest) a w := by
  obtain ⟨i0, hi, hz0, hz1, hz2⟩ := info_parts infoI
  refine wpList_append_lies (P := Try.prog) w hgd s x 90 ho B 3 i0 _ 1 8 Try.underlying90 hi hz0 hz1 hz2 rfl (by decide) (.slice A L.length c) L.length (cI L) hs hown
    ⟨g0, 0, none⟩ 1 c0 (cI [x0]) hx (by rw [cI_len]; rfl) (World.news_of_block hAt) (cI_one _) (by decide) (by unfold maxLen; omega) (by omega) hB w.heap.size rfl ?_
  intro g cap w' h1 h2 h3 h4
  refine h (some ⟨g, 0, none⟩) cap w' ?_ ⟨?_, ?_⟩
  · unfold OwI; rw [cI_app, List.length_append]; exact h1
  · rw [slice_block] at h2; exact h2
  · rw [slice_block] at h3
    rcases h3 with h3 | h3
    · exact .inl h3
    · right; show some g = _; rw [h3]
theorem step_app_i {ops : Array Oper} {o : Oper} {a : Act} {w : World} {K : Act → World → Prop} {Q : Exit → Act → World → Prop} {E : Prop} (hgd : o.guard = none) (s x : Operand)
    (ho : o.op = .call { callee := .builtin .append, args := #[s, x], argTypes := #[90, 90] }) (A : Option Addr) (c : Nat) (L : List Int) (hs : a.eval s = .slice A L.length c) (B : Nat) (hown : OwI w B A c L)
    (g0 : Nat) (x0 : Int) (c0 : Nat) (hx : a.eval x = .slice (some ⟨g0, 0, none⟩) 1 c0) (hAt : At w g0 #[.int .i64 x0] 3) (hlen : L.length ≤ 1000000000000) (hB : B ≤ w.heap.size)
    (h : ∀ A' c' w', OwI w' B A' c' (L ++ [x0]) → Apd w w' A A' → K (a.put o.dst (.slice A' (L.length + 1) c')) w') :
    if Region.wanted o (yielded ops a.tmps) = true then Oper.wp Try.prog o a w K Q else E := by
  obtain ⟨i0, hi, hz0, hz1, hz2⟩ := info_parts infoI
  refine step_append_lies (P := Try.prog) w hgd s x 90 ho B 3 i0 _ 1 8 Try.underlying90 hi hz0 hz1 hz2 rfl (by decide) (.slice A L.length c) L.length (cI L) hs hown
    ⟨g0, 0, none⟩ 1 c0 (cI [x0]) hx (by rw [cI_len]; rfl) (World.news_of_block hAt) (cI_one _) (by decide) (by unfold maxLen; omega) (by omega) hB w.heap.size rfl ?_
  intro g cap w' h1 h2 h3 h4
  refine h (some ⟨g, 0, none⟩) cap w' ?_ ⟨?_, ?_⟩
  · unfold OwI; rw [cI_app, List.length_append]; exact h1
  · rw [slice_block] at h2; exact h2
  · rw [slice_block] at h3
    rcases h3 with h3 | h3
    · exact .inl h3
    · right; show some g = _; rw [h3]
theorem wp_app_ii {ops : Array Oper} {rest : List Oper} {o : Oper} {a : Act} {w : World} {Q : Exit → Act → World → Prop} (hgd : o.guard = none) (s x : Operand)
    (ho : o.op = .call { callee := .builtin .append, args := #[s, x], argTypes := #[90, 90] }) (A : Option Addr) (c : Nat) (L : List Int) (hs : a.eval s = .slice A L.length c) (B : Nat) (hown : OwI w B A c L)
    (g0 : Nat) (x0 x1 : Int) (c0 : Nat) (hx : a.eval x = .slice (some ⟨g0, 0, none⟩) 2 c0) (hAt : At w g0 #[.int .i64 x0, .int .i64 x1] 3) (hlen : L.length ≤ 1000000000000) (hB : B ≤ w.heap.size)
    (h : ∀ A' c' w', OwI w' B A' c' (L ++ [x0, x1]) → Apd w w' A A' → wpList Try.prog ops Q rest (a.put o.dst (.slice A' (L.length + 2) c')) w') :
    wpList Try.prog ops Q (o :: rest) a w := by
  obtain ⟨i0, hi, hz0, hz1, hz2⟩ := info_parts infoI
  refine wpList_append_lies (P := Try.prog) w hgd s x 90 ho B 3 i0 _ 1 8 Try.underlying90 hi hz0 hz1 hz2 rfl (by decide) (.slice A L.length c) L.length (cI L) hs hown
    ⟨g0, 0, none⟩ 2 c0 (cI [x0, x1]) hx (by rw [cI_len]; rfl) (World.news_of_block hAt) (cI_one _) (by decide) (by unfold maxLen; omega) (by omega) hB w.heap.size rfl ?_
  intro g cap w' h1 h2 h3 h4
  refine h (some ⟨g, 0, none⟩) cap w' ?_ ⟨?_, ?_⟩
  · unfold OwI; rw [cI_app, List.length_append]; exact h1
  · rw [slice_block] at h2; exact h2
  · rw [slice_block] at h3
    rcases h3 with h3 | h3
    · exact .inl h3
    · right; show some g = _; rw [h3]
theorem step_app_ii {ops : Array Oper} {o : Oper} {a : Act} {w : World} {K : Act → World → Prop} {Q : Exit → Act → World → Prop} {E : Prop} (hgd : o.guard = none) (s x : Operand)
    (ho : o.op = .call { callee := .builtin .append, args := #[s, x], argTypes := #[90, 90] }) (A : Option Addr) (c : Nat) (L : List Int) (hs : a.eval s = .slice A L.length c) (B : Nat) (hown : OwI w B A c L)
    (g0 : Nat) (x0 x1 : Int) (c0 : Nat) (hx : a.eval x = .slice (some ⟨g0, 0, none⟩) 2 c0) (hAt : At w g0 #[.int .i64 x0, .int .i64 x1] 3) (hlen : L.length ≤ 1000000000000) (hB : B ≤ w.heap.size)
    (h : ∀ A' c' w', OwI w' B A' c' (L ++ [x0, x1]) → Apd w w' A A' → K (a.put o.dst (.slice A' (L.length + 2) c')) w') :
    if Region.wanted o (yielded ops a.tmps) = true then Oper.wp Try.prog o a w K Q else E := by
  obtain ⟨i0, hi, hz0, hz1, hz2⟩ := info_parts infoI
  refine step_append_lies (P := Try.prog) w hgd s x 90 ho B 3 i0 _ 1 8 Try.underlying90 hi hz0 hz1 hz2 rfl (by decide) (.slice A L.length c) L.length (cI L) hs hown
    ⟨g0, 0, none⟩ 2 c0 (cI [x0, x1]) hx (by rw [cI_len]; rfl) (World.news_of_block hAt) (cI_one _) (by decide) (by unfold maxLen; omega) (by omega) hB w.heap.size rfl ?_
  intro g cap w' h1 h2 h3 h4
  refine h (some ⟨g, 0, none⟩) cap w' ?_ ⟨?_, ?_⟩
  · unfold OwI; rw [cI_app, List.length_append]; exact h1
  · rw [slice_block] at h2; exact h2
  · rw [slice_block] at h3
    rcases h3 with h3 | h3
    · exact .inl h3
    · right; show some g = _; rw [h3]
theorem wp_app_b {ops : Array Oper} {rest : List Oper} {o : Oper} {a : Act} {w : World} {Q : Exit → Act → World → Prop} (hgd : o.guard = none) (s x : Operand)
    (ho : o.op = .call { callee := .builtin .append, args := #[s, x], argTypes := #[87, 87] }) (A : Option Addr) (c : Nat) (L : List BV) (hs : a.eval s = .slice A L.length c) (B : Nat) (hown : OwB w B A c L)
    (g0 : Nat) (r : BV) (c0 : Nat) (hx : a.eval x = .slice (some ⟨g0, 0, none⟩) 1 c0) (hAt : At w g0 #[.int .i64 r.y0, .int .i64 r.y1, r.v] 92) (hone : r.one) (hlen : L.length ≤ 1000000000000) (hB : B ≤ w.heap.size)
    (h : ∀ A' c' w', OwB w' B A' c' (L ++ [r]) → Apd w w' A A' → wpList Try.prog ops Q rest (a.put o.dst (.slice A' (L.length + 1) c')) w') :
    wpList Try.prog ops Q (o :: rest) a w := by
  obtain ⟨i0, hi, hz0, hz1, hz2⟩ := info_parts infoB
  refine wpList_append_lies (P := Try.prog) w hgd s x 87 ho B 92 i0 _ 3 40 Try.underlying87 hi hz0 hz1 hz2 rfl (by decide) (.slice A L.length c) L.length (cB L) hs hown
    ⟨g0, 0, none⟩ 1 c0 (cB [r]) hx (by rw [cB_len]; rfl) (World.news_of_block hAt) (cB_one _ (by simpa using hone)) (by decide) (by unfold maxLen; omega) (by omega) hB w.heap.size rfl ?_
  intro g cap w' h1 h2 h3 h4
  refine h (some ⟨g, 0, none⟩) cap w' ?_ ⟨?_, ?_⟩
  · unfold OwB; rw [cB_app, List.length_append]; exact h1
  · rw [slice_block] at h2; exact h2
  · rw [slice_block] at h3
    rcases h3 with h3 | h3
    · exact .inl h3
    · right; show some g = _; rw [h3]
theorem step_app_b {ops : Array Oper} {o : Oper} {a : Act} {w : World} {K : Act → World → Prop} {Q : Exit → Act → World → Prop} {E : Prop} (hgd : o.guard = none) (s x : Operand)
    (ho : o.op = .call { callee := .builtin .append, args := #[s, x], argTypes := #[87, 87] }) (A : Option Addr) (c : Nat) (L : List BV) (hs : a.eval s = .slice A L.length c) (B : Nat) (hown : OwB w B A c L)
    (g0 : Nat) (r : BV) (c0 : Nat) (hx : a.eval x = .slice (some ⟨g0, 0, none⟩) 1 c0) (hAt : At w g0 #[.int .i64 r.y0, .int .i64 r.y1, r.v] 92) (hone : r.one) (hlen : L.length ≤ 1000000000000) (hB : B ≤ w.heap.size)
    (h : ∀ A' c' w', OwB w' B A' c' (L ++ [r]) → Apd w w' A A' → K (a.put o.dst (.slice A' (L.length + 1) c')) w') :
    if Region.wanted o (yielded ops a.tmps) = true then Oper.wp Try.prog o a w K Q else E := by
  obtain ⟨i0, hi, hz0, hz1, hz2⟩ := info_parts infoB
  refine step_append_lies (P := Try.prog) w hgd s x 87 ho B 92 i0 _ 3 40 Try.underlying87 hi hz0 hz1 hz2 rfl (by decide) (.slice A L.length c) L.length (cB L) hs hown
    ⟨g0, 0, none⟩ 1 c0 (cB [r]) hx (by rw [cB_len]; rfl) (World.news_of_block hAt) (cB_one _ (by simpa using hone)) (by decide) (by unfold maxLen; omega) (by omega) hB w.heap.size rfl ?_
  intro g cap w' h1 h2 h3 h4
  refine h (some ⟨g, 0, none⟩) cap w' ?_ ⟨?_, ?_⟩
  · unfold OwB; rw [cB_app, List.length_append]; exact h1
  · rw [slice_block] at h2; exact h2
  · rw [slice_block] at h3
    rcases h3 with h3 | h3
    · exact .inl h3
    · right; show some g = _; rw [h3]

end Go.Proofs.Ytafceieenhogpaa
namespace Go.Proofs.Ytafceieenhogpaa
open Go.RowKit Go.Sort

theorem own_ne_at {w : World} {B s n m c g : Nat} {e : TypeId} {A : Option Addr} {xs : List Value} {cs : Array Value} {t : TypeId} (h : w.ownsRow B e s (.slice A m c) n xs) (h' : At w g cs t) (hne : e ≠ t) : some g ≠ A.map (·.block) := by
  rcases h.2 with ⟨h1, _⟩ | ⟨x, cap, cur, h1, _, h3, _⟩
  · injection h1 with h1; subst h1; simp
  · injection h1 with h1
    subst h1
    intro he
    simp at he
    subst he
    unfold At at h'
    rw [h'] at h3
    injection h3 with h3
    injection h3 with _ h4
    exact hne h4.symm
theorem OwI.ne_at {w : World} {B c g : Nat} {A : Option Addr} {L : List Int} {cs : Array Value} {t : TypeId} (h : OwI w B A c L) (h' : At w g cs t) (hne : 3 ≠ t) : some g ≠ A.map (·.block) := own_ne_at h h' hne
theorem OwB.ne_at {w : World} {B c g : Nat} {A : Option Addr} {L : List BV} {cs : Array Value} {t : TypeId} (h : OwB w B A c L) (h' : At w g cs t) (hne : 92 ≠ t) : some g ≠ A.map (·.block) := own_ne_at h h' hne
theorem OwR.ne_at {w : World} {B c g : Nat} {A : Option Addr} {L : List Rc} {cs : Array Value} {t : TypeId} (h : OwR w B A c L) (h' : At w g cs t) (hne : 24 ≠ t) : some g ≠ A.map (·.block) := own_ne_at h h' hne
theorem At.new2 (w : World) (o : Obj) (cs : Array Value) (t : TypeId) : At ((w.alloc o).alloc (.cells cs t)) (w.heap.size + 1) cs t := by
  have := At.new (w.alloc o) cs t
  simp only [World.size_alloc] at this
  exact this

/-- A band: what it is, and how it lies. -/
structure Bn where
  y0 : Int
  y1 : Int
  E : List Int
structure BW where
  y0 : Int
  y1 : Int
  E : List Int
  A : Option Addr
  c : Nat
def BW.bn (r : BW) : Bn := ⟨r.y0, r.y1, r.E⟩
def BW.bv (r : BW) : BV := ⟨r.y0, r.y1, .slice r.A r.E.length r.c⟩
def BW.ok (w : World) (r : BW) : Prop := r.E.length ≤ r.c ∧ Is w r.A r.E
theorem BW.ok.bl {w w' : World} {r : BW} (h : r.ok w) (g : Bl w w') : r.ok w' := ⟨h.1, h.2.bl g⟩
def Bs (w : World) (A : Option Addr) (l : List BW) : Prop := (l = [] ∨ ∃ b off, A = some ⟨b, off, none⟩ ∧ RowB w b off (l.map BW.bv)) ∧ ∀ r ∈ l, r.ok w
theorem Bs.bl {w w' : World} {A : Option Addr} {l : List BW} (h : Bs w A l) (g : Bl w w') : Bs w' A l := by
  refine ⟨?_, fun r hr => (h.2 r hr).bl g⟩
  rcases h.1 with h1 | ⟨b, off, h1, h2⟩
  · exact .inl h1
  · exact .inr ⟨b, off, h1, h2.bl g⟩
theorem Bs.opened {w : World} {A : Option Addr} {l : List BW} (h : Bs w A l) (hn : 0 < l.length) : ∃ b off, A = some ⟨b, off, none⟩ ∧ RowB w b off (l.map BW.bv) := by
  rcases h.1 with h | h
  · subst h; simp at hn
  · exact h
theorem RowB.at_ {w : World} {b off : Nat} {l : List BW} (h : RowB w b off (l.map BW.bv)) {k : Nat} {r : BW} (hk : l[k]? = some r) : w.cell? ⟨b, off + k * 3, none⟩ = some (.int .i64 r.y0) ∧ w.cell? ⟨b, off + k * 3 + 1, none⟩ = some (.int .i64 r.y1) ∧
    w.cell? ⟨b, off + k * 3 + 2, none⟩ = some (.slice r.A r.E.length r.c) := by
  have := h k r.bv (by simp [hk])
  exact this
def edgesL (l : List Bn) (y : Int) : List Int := match l with | [] => [] | b :: _ => if y < b.y0 then [] else b.E
def fromL (y : Int) : List Bn → List Bn
  | [] => []
  | b :: l => if b.y1 ≤ y then fromL y l else b :: l

/-- A slice of ints is handed back, nothing has turned. -/
def RI (w : World) (Q : List Int → Prop) (e : Ending) (w' : World) : Prop := ∃ (A : Option Addr) (c : Nat) (E : List Int), e = .returned (.slice A E.length c) ∧ E.length ≤ c ∧ Is w' A E ∧ Q E ∧ w = w'
def RB (w : World) (Q : List Bn → Prop) (e : Ending) (w' : World) : Prop := ∃ (A : Option Addr) (c : Nat) (l : List BW), e = .returned (.slice A l.length c) ∧ l.length ≤ c ∧ Bs w' A l ∧ Q (l.map BW.bn) ∧ w = w'

/-- A slice of ints is handed back, in memory of the call's own. -/
def RN (w : World) (Q : List Int → Prop) (e : Ending) (w' : World) : Prop := ∃ (A : Option Addr) (c : Nat) (E : List Int), e = .returned (.slice A E.length c) ∧ OwI w' w.heap.size A c E ∧ Q E ∧ Bl w w'

set_option maxHeartbeats 1000000 in
theorem edgesAt1 (A : Option Addr) (c : Nat) (l : List BW) (y : Int) (w : World) (h : Bs w A l) :
    Calls Try.prog 117 #[.slice A l.length c, .int .i64 y] w (RI w (fun E => E = edgesL (l.map BW.bn) y)) := by
  cases l with
  | nil =>
    go_enter Try.func117, Try.ntmps117
    go_wp2
    go_ret
    exact ⟨none, 0, [], rfl, by simp, .inl rfl, rfl, rfl⟩
  | cons r l =>
    obtain ⟨b, off, rfl, hr⟩ := h.opened (by simp)
    obtain ⟨e1, e2, e3⟩ := hr.at_ (k := 0) (r := r) rfl
    obtain ⟨o1, o2⟩ := h.2 r (by simp)
    simp only [Nat.zero_mul, Nat.add_zero] at e1 e2 e3
    clear hr h
    have hn : 0 < (r :: l).length := by simp
    obtain ⟨n, hN⟩ : ∃ n, n = (r :: l).length := ⟨_, rfl⟩
    rw [← hN] at hn ⊢
    have HN := Lib.hid hN
    clear hN
    by_cases hy : y < r.y0
    · go_enter Try.func117, Try.ntmps117
      go_wp2
      go_ret
      exact ⟨none, 0, [], rfl, by simp, .inl rfl, by simp [edgesL, BW.bn, hy], rfl⟩
    · go_enter Try.func117, Try.ntmps117
      go_wp2
      go_ret
      exact ⟨r.A, r.c, r.E, rfl, o1, o2, by show r.E = if y < r.y0 then [] else r.E; rw [if_neg (by omega)], rfl⟩

theorem Bs.tail {w : World} {b off : Nat} {r : BW} {l : List BW} (h : Bs w (some ⟨b, off, none⟩) (r :: l)) : Bs w (some ⟨b, off + 3, none⟩) l := by
  refine ⟨.inr ⟨b, off + 3, rfl, fun k q hk => ?_⟩, fun q hq => h.2 q (by simp [hq])⟩
  obtain ⟨b', off', he, hr⟩ := h.opened (by simp)
  injection he with he
  injection he with h1 h2
  subst h1 h2
  have := hr (k + 1) q (by simpa using hk)
  rw [show off + (k + 1) * 3 = off + 3 + k * 3 from by omega] at this
  exact this

set_option maxHeartbeats 1000000 in
theorem from1 (A : Option Addr) (c : Nat) (l : List BW) (y : Int) (w : World) (h : Bs w A l) (hc : l.length ≤ c) (hl : c ≤ 9223372036854775807) :
    Calls Try.prog 114 #[.slice A l.length c, .int .i64 y] w (RB w (fun E => E = fromL y (l.map BW.bn))) := by
  go_enter Try.func114, Try.ntmps114
  go_wp2
  go_loop [0] (fun v => ∃ (A' : Option Addr) (c' : Nat) (l' : List BW), v = .slice A' l'.length c' ∧ l'.length ≤ c' ∧ c' ≤ c ∧ Bs w A' l' ∧ Hid (fromL y (l'.map BW.bn) = fromL y (l.map BW.bn))) (fun v => match v with | .slice _ n _ => n | _ => 0)
  case atStart => exact ⟨A, c, l, rfl, hc, Nat.le_refl _, h, Lib.hid rfl⟩
  case round =>
    obtain ⟨A', c', l', rfl, hc', hcc, h', hq⟩ := hrel
    cases l' with
    | nil =>
      go_wp2
      go_ret
      exact ⟨A', c', [], rfl, by simp, h', hq.out, rfl⟩
    | cons r l' =>
      obtain ⟨b, off, rfl, hr⟩ := h'.opened (by simp)
      obtain ⟨e1, e2, e3⟩ := hr.at_ (k := 0) (r := r) rfl
      simp only [Nat.zero_mul, Nat.add_zero] at e1 e2 e3
      have HR := Lib.hid hr
      clear hr
      have hn : 0 < (r :: l').length := by simp
      obtain ⟨n, hN⟩ : ∃ n, n = (r :: l').length := ⟨_, rfl⟩
      rw [← hN] at hn hc' ⊢
      have HN := Lib.hid hN
      clear hN
      by_cases hy : r.y1 ≤ y
      · by_cases hc1 : c' = 1
        · go_wp2
          have hl' : l' = [] := List.eq_nil_of_length_eq_zero (by have := HN.out; simp at this; omega)
          subst hl'
          refine ⟨⟨some ⟨b, off, none⟩, 0, [], by have := HN.out; simp at this; subst this; rfl, by simp, by omega, ⟨.inl rfl, by simp⟩, Lib.hid ?_⟩, ?_⟩
          · rw [← hq.out]; show fromL y [] = if r.y1 ≤ y then fromL y [] else _; rw [if_pos hy]
          · show n - 1 < n; omega
        · go_wp2
          have hn' : n - 1 = l'.length := by have := HN.out; simp at this; omega
          refine ⟨⟨some ⟨b, off + 3, none⟩, c' - 1, l', by rw [hn'], by omega, by omega, Bs.tail h', Lib.hid ?_⟩, ?_⟩
          · rw [← hq.out]; show fromL y (l'.map BW.bn) = if r.y1 ≤ y then fromL y (l'.map BW.bn) else _; rw [if_pos hy]
          · show n - 1 < n; omega
      · go_wp2
        go_ret
        exact ⟨some ⟨b, off, none⟩, c', r :: l', by rw [← HN.out]; rfl, by rw [← HN.out]; exact hc', h', by show _ = _; rw [← hq.out]; show _ = if r.y1 ≤ y then _ else _; rw [if_neg (by omega)]; rfl, rfl⟩

end Go.Proofs.Ytafceieenhogpaa
namespace Go.Proofs.Ytafceieenhogpaa

def inE (E : List Int) (x : Int) : Bool := decide (E.countP (fun e => decide (e ≤ x)) % 2 = 1)
def Inc (E : List Int) : Prop := E.Pairwise (· < ·)

theorem count_all {E : List Int} {x : Int} (h : ∀ e ∈ E, e ≤ x) : E.countP (fun e => decide (e ≤ x)) = E.length := by
  rw [List.countP_eq_length]; intro e he; simpa using h e he
theorem count_none {E : List Int} {x : Int} (h : ∀ e ∈ E, x < e) : E.countP (fun e => decide (e ≤ x)) = 0 := by
  rw [List.countP_eq_zero]; intro e he; have := h e he; simp; omega
theorem inE_all {E : List Int} {x : Int} (h : ∀ e ∈ E, e ≤ x) : inE E x = decide (E.length % 2 = 1) := by unfold inE; rw [count_all h]
theorem inE_none {E : List Int} {x : Int} (h : ∀ e ∈ E, x < e) : inE E x = false := by unfold inE; rw [count_none h]; rfl
theorem inE_nil (x : Int) : inE [] x = false := rfl
theorem inE_app_far {E F : List Int} {x : Int} (h : ∀ e ∈ F, x < e) : inE (E ++ F) x = inE E x := by
  unfold inE; rw [List.countP_append, count_none h]; rfl
theorem inE_split {E : List Int} {i : Nat} {x : Int} (hi : i ≤ E.length) (h1 : ∀ e ∈ E.take i, e ≤ x) (h2 : ∀ e ∈ E.drop i, x < e) : inE E x = decide (i % 2 = 1) := by
  have : E = E.take i ++ E.drop i := (List.take_append_drop i E).symm
  rw [this, inE_app_far h2, inE_all h1, List.length_take, Nat.min_eq_left hi]
theorem top_of : ∀ (E : List Int), ∃ t : Int, ∀ e ∈ E, e ≤ t
  | [] => ⟨0, by simp⟩
  | e :: l => by
    obtain ⟨t, ht⟩ := top_of l
    refine ⟨max e t, fun x hx => ?_⟩
    simp at hx
    rcases hx with rfl | hx
    · omega
    · have := ht x hx; omega

/-- Two rising rows that tell the same of every int are one. -/
theorem inc_ext : ∀ (E F : List Int), Inc E → Inc F → (∀ x, inE E x = inE F x) → E = F
  | [], [], _, _, _ => rfl
  | [], f :: F, _, hF, h => by
    exfalso
    have h1 := h f
    rw [inE_nil] at h1
    have h2 : inE (f :: F) f = true := by
      have := inE_split (E := f :: F) (i := 1) (x := f) (by simp) (by simp) (by simpa using (List.pairwise_cons.1 hF).1)
      rw [this]; rfl
    rw [h2] at h1; cases h1
  | e :: E, [], hE, _, h => by
    exfalso
    have h1 := h e
    rw [inE_nil] at h1
    have h2 : inE (e :: E) e = true := by
      have := inE_split (E := e :: E) (i := 1) (x := e) (by simp) (by simp) (by simpa using (List.pairwise_cons.1 hE).1)
      rw [this]; rfl
    rw [h2] at h1; cases h1
  | e :: E, f :: F, hE, hF, h => by
    have hE' := List.pairwise_cons.1 hE
    have hF' := List.pairwise_cons.1 hF
    have one : ∀ (e f : Int) (E F : List Int), (∀ x ∈ E, e < x) → (∀ x ∈ F, f < x) → e < f → inE (e :: E) e = inE (f :: F) e → False := by
      intro e f E F hE hF hlt hh
      have h2 : inE (e :: E) e = true := by
        have := inE_split (E := e :: E) (i := 1) (x := e) (by simp) (by simp) (by simpa using hE)
        rw [this]; rfl
      have h3 : inE (f :: F) e = false := inE_none (by
        intro x hx; simp at hx
        rcases hx with rfl | hx
        · exact hlt
        · have := hF x hx; omega)
      rw [h2, h3] at hh; cases hh
    have hef : e = f := by
      rcases Int.lt_trichotomy e f with hl | hl | hl
      · exact (one e f E F hE'.1 hF'.1 hl (h e)).elim
      · exact hl
      · exact (one f e F E hF'.1 hE'.1 hl (h f).symm).elim
    subst hef
    have ht : ∀ x, inE E x = inE F x := by
      intro x
      by_cases hx : e ≤ x
      · have := h x
        unfold inE at *
        rw [List.countP_cons_of_pos (by simpa using hx), List.countP_cons_of_pos (by simpa using hx)] at this
        rw [decide_eq_decide] at *
        omega
      · rw [inE_none (fun y hy => by have := hE'.1 y hy; omega), inE_none (fun y hy => by have := hF'.1 y hy; omega)]
    rw [inc_ext E F hE'.2 hF'.2 ht]

/-- How far a merge of two rows has come: i of a, j of b are gone through, O is what was made of them. -/
structure InvM (a b : List Int) (kp : Bool → Bool → Bool) (i j : Nat) (O : List Int) : Prop where
  ia : i ≤ a.length
  jb : j ≤ b.length
  inc : Inc O
  lta : ∀ o ∈ O, ∀ x ∈ a.drop i, o < x
  ltb : ∀ o ∈ O, ∀ x ∈ b.drop j, o < x
  cross : (∀ o ∈ a.take i, ∀ x ∈ b.drop j, o < x) ∧ (∀ o ∈ b.take j, ∀ x ∈ a.drop i, o < x)
  par : ∀ x, (∀ o ∈ a.drop i, x < o) → (∀ o ∈ b.drop j, x < o) → inE O x = kp (inE a x) (inE b x)
  sub : ∀ o ∈ O, o ∈ a ∨ o ∈ b
  len : O.length ≤ i + j
theorem InvM.start {a b : List Int} {kp : Bool → Bool → Bool} (hk : kp false false = false) : InvM a b kp 0 0 [] where
  ia := Nat.zero_le _
  jb := Nat.zero_le _
  inc := List.Pairwise.nil
  lta := by simp
  ltb := by simp
  cross := by simp
  par := fun x h1 h2 => by rw [inE_none (E := a) (by simpa using h1), inE_none (E := b) (by simpa using h2), inE_nil, hk]
  sub := by simp
  len := by simp

theorem inc_take_drop {a : List Int} (h : Inc a) (i : Nat) : ∀ o ∈ a.take i, ∀ x ∈ a.drop i, o < x := by
  have : Inc (a.take i ++ a.drop i) := by rw [List.take_append_drop]; exact h
  exact (List.pairwise_append.1 this).2.2
theorem take_mem {a : List Int} {i : Nat} {o : Int} (h : o ∈ a.take (i + 1)) : o ∈ a.take i ∨ a[i]? = some o := by
  rcases Nat.lt_or_ge i a.length with hl | hl
  · rw [List.take_succ_eq_append_getElem hl, List.mem_append] at h
    rcases h with h | h
    · exact .inl h
    · right; rw [List.mem_singleton] at h; rw [List.getElem?_eq_getElem hl, h]
  · rw [List.take_of_length_le (by omega)] at h
    left; rw [List.take_of_length_le (by omega)]; exact h
theorem drop_mem {a : List Int} {i : Nat} {o : Int} (h : o ∈ a.drop i) : a[i]? = some o ∨ o ∈ a.drop (i + 1) := by
  rcases Nat.lt_or_ge i a.length with hl | hl
  · rw [List.drop_eq_getElem_cons hl, List.mem_cons] at h
    rcases h with h | h
    · left; rw [List.getElem?_eq_getElem hl, h]
    · exact .inr h
  · rw [List.drop_eq_nil_of_le hl] at h; simp at h
theorem drop_sub {a : List Int} {i : Nat} {o : Int} (h : o ∈ a.drop (i + 1)) : o ∈ a.drop i := by
  rw [show i + 1 = 1 + i from by omega, ← List.drop_drop] at h
  exact List.drop_sublist 1 _ |>.mem (by rw [List.drop_drop] at *; simpa [Nat.add_comm] using h)
theorem head_mem {a : List Int} {i : Nat} {x : Int} (h : a[i]? = some x) : x ∈ a.drop i := by
  have hl : i < a.length := by
    rcases Nat.lt_or_ge i a.length with h' | h'
    · exact h'
    · rw [List.getElem?_eq_none h'] at h; cases h
  rw [List.drop_eq_getElem_cons hl]
  rw [List.getElem?_eq_getElem hl] at h
  simp at h; simp [h]
theorem get_mem {a : List Int} {i : Nat} {x : Int} (h : a[i]? = some x) : x ∈ a := List.mem_of_getElem? h
theorem get_lt {α : Type} {a : List α} {i : Nat} {x : α} (h : a[i]? = some x) : i < a.length := by
  rcases Nat.lt_or_ge i a.length with h' | h'
  · exact h'
  · rw [List.getElem?_eq_none h'] at h; cases h

theorem inc_head_le {a : List Int} (ha : Inc a) {i : Nat} {x : Int} (h : a[i]? = some x) : ∀ o ∈ a.drop i, x ≤ o := by
  intro o ho
  rcases drop_mem ho with h1 | h1
  · rw [h] at h1; injection h1 with h1; omega
  · have := inc_take_drop ha (i + 1) x (by
      rw [List.take_succ_eq_append_getElem (get_lt h)]
      rw [List.getElem?_eq_getElem (get_lt h)] at h
      simp at h; simp [h]) o h1
    omega

/-- One more edge x is gone through: the least of what is left of both. -/
theorem InvM.step {a b : List Int} {kp : Bool → Bool → Bool} {i j : Nat} {O : List Int} (h : InvM a b kp i j O) (ha : Inc a) (hb : Inc b) {i' j' : Nat} {x : Int}
    (hi : (i' = i ∧ ∀ o ∈ a.drop i, x < o) ∨ (i' = i + 1 ∧ a[i]? = some x)) (hj : (j' = j ∧ ∀ o ∈ b.drop j, x < o) ∨ (j' = j + 1 ∧ b[j]? = some x))
    (hx : a[i]? = some x ∨ b[j]? = some x) (hij : i + j < i' + j')
    {O' : List Int} (hO : (O' = O ++ [x] ∧ ¬ (kp (decide (i' % 2 = 1)) (decide (j' % 2 = 1)) = decide (O.length % 2 = 1))) ∨ (O' = O ∧ kp (decide (i' % 2 = 1)) (decide (j' % 2 = 1)) = decide (O.length % 2 = 1))) :
    InvM a b kp i' j' O' := by
  have hda : ∀ o ∈ a.drop i', x < o := by
    rcases hi with ⟨rfl, h1⟩ | ⟨rfl, h1⟩
    · exact h1
    · exact fun o ho => inc_take_drop ha (i + 1) x (by rw [List.take_succ_eq_append_getElem (get_lt h1)]; rw [List.getElem?_eq_getElem (get_lt h1)] at h1; simp at h1; simp [h1]) o ho
  have hdb : ∀ o ∈ b.drop j', x < o := by
    rcases hj with ⟨rfl, h1⟩ | ⟨rfl, h1⟩
    · exact h1
    · exact fun o ho => inc_take_drop hb (j + 1) x (by rw [List.take_succ_eq_append_getElem (get_lt h1)]; rw [List.getElem?_eq_getElem (get_lt h1)] at h1; simp at h1; simp [h1]) o ho
  have suba : ∀ o ∈ a.drop i', o ∈ a.drop i := by
    rcases hi with ⟨rfl, _⟩ | ⟨rfl, _⟩
    · exact fun o ho => ho
    · exact fun o ho => drop_sub ho
  have subb : ∀ o ∈ b.drop j', o ∈ b.drop j := by
    rcases hj with ⟨rfl, _⟩ | ⟨rfl, _⟩
    · exact fun o ho => ho
    · exact fun o ho => drop_sub ho
  have tka : ∀ o ∈ a.take i', o ≤ x := by
    intro o ho
    rcases hx with hx | hx
    · rcases hi with ⟨rfl, _⟩ | ⟨rfl, _⟩
      · have := inc_take_drop ha i' o ho x (head_mem hx); omega
      · rcases take_mem ho with h2 | h2
        · have := inc_take_drop ha i o h2 x (head_mem hx); omega
        · rw [hx] at h2; injection h2 with h2; omega
    · rcases hi with ⟨rfl, _⟩ | ⟨rfl, h1⟩
      · have := h.cross.1 o ho x (head_mem hx); omega
      · rcases take_mem ho with h2 | h2
        · have := h.cross.1 o h2 x (head_mem hx); omega
        · rw [h1] at h2; injection h2 with h2; omega
  have tkb : ∀ o ∈ b.take j', o ≤ x := by
    intro o ho
    rcases hx with hx | hx
    · rcases hj with ⟨rfl, _⟩ | ⟨rfl, h1⟩
      · have := h.cross.2 o ho x (head_mem hx); omega
      · rcases take_mem ho with h2 | h2
        · have := h.cross.2 o h2 x (head_mem hx); omega
        · rw [h1] at h2; injection h2 with h2; omega
    · rcases hj with ⟨rfl, _⟩ | ⟨rfl, _⟩
      · have := inc_take_drop hb j' o ho x (head_mem hx); omega
      · rcases take_mem ho with h2 | h2
        · have := inc_take_drop hb j o h2 x (head_mem hx); omega
        · rw [hx] at h2; injection h2 with h2; omega
  have ltx : ∀ o ∈ O, o < x := fun o ho => by
    rcases hx with hx | hx
    · exact h.lta o ho x (head_mem hx)
    · exact h.ltb o ho x (head_mem hx)
  have ia' : i' ≤ a.length := by
    rcases hi with ⟨rfl, _⟩ | ⟨rfl, h1⟩
    · exact h.ia
    · have := get_lt h1; omega
  have jb' : j' ≤ b.length := by
    rcases hj with ⟨rfl, _⟩ | ⟨rfl, h1⟩
    · exact h.jb
    · have := get_lt h1; omega
  have hO' : ∀ o ∈ O', o ≤ x := by
    rcases hO with ⟨rfl, _⟩ | ⟨rfl, _⟩
    · intro o ho; simp at ho; rcases ho with ho | rfl
      · have := ltx o ho; omega
      · omega
    · intro o ho; have := ltx o ho; omega
  refine ⟨ia', jb', ?_, ?_, ?_, ⟨?_, ?_⟩, ?_, ?_, ?_⟩
  · rcases hO with ⟨rfl, _⟩ | ⟨rfl, _⟩
    · exact List.pairwise_append.2 ⟨h.inc, by simp, fun o ho y hy => by simp at hy; subst hy; exact ltx o ho⟩
    · exact h.inc
  · intro o ho y hy; have := hO' o ho; have := hda y hy; omega
  · intro o ho y hy; have := hO' o ho; have := hdb y hy; omega
  · intro o ho y hy; have := tka o ho; have := hdb y hy; omega
  · intro o ho y hy; have := tkb o ho; have := hda y hy; omega
  · intro y h1 h2
    by_cases hy : y < x
    · have e1 : ∀ o ∈ a.drop i, y < o := by
        intro o ho
        rcases hi with ⟨rfl, h3⟩ | ⟨rfl, h3⟩
        · exact h1 o ho
        · rcases drop_mem ho with h4 | h4
          · rw [h3] at h4; injection h4 with h4; omega
          · exact h1 o h4
      have e2 : ∀ o ∈ b.drop j, y < o := by
        intro o ho
        rcases hj with ⟨rfl, h3⟩ | ⟨rfl, h3⟩
        · exact h2 o ho
        · rcases drop_mem ho with h4 | h4
          · rw [h3] at h4; injection h4 with h4; omega
          · exact h2 o h4
      rw [← h.par y e1 e2]
      rcases hO with ⟨rfl, _⟩ | ⟨rfl, _⟩
      · exact inE_app_far (by simpa using hy)
      · rfl
    · rw [inE_split ia' (fun e he => by have := tka e he; omega) h1, inE_split jb' (fun e he => by have := tkb e he; omega) h2, inE_all (fun e he => by have := hO' e he; omega)]
      rcases hO with ⟨rfl, h3⟩ | ⟨rfl, h3⟩
      · rw [List.length_append]
        cases hk : kp (decide (i' % 2 = 1)) (decide (j' % 2 = 1)) with
        | true => rw [hk] at h3; simp at h3; simp; omega
        | false => rw [hk] at h3; simp at h3; simp; omega
      · exact h3.symm
  · rcases hO with ⟨rfl, _⟩ | ⟨rfl, _⟩
    · intro o ho; simp at ho
      rcases ho with ho | rfl
      · exact h.sub o ho
      · rcases hx with hx | hx
        · exact .inl (get_mem hx)
        · exact .inr (get_mem hx)
    · exact h.sub
  · have := h.len
    rcases hO with ⟨rfl, _⟩ | ⟨rfl, _⟩
    · simp; omega
    · omega

/-- What a merge of two rows is. -/
structure Mrg (a b : List Int) (kp : Bool → Bool → Bool) (O : List Int) : Prop where
  inc : Inc O
  par : ∀ x, inE O x = kp (inE a x) (inE b x)
  even : O.length % 2 = 0
  sub : ∀ o ∈ O, o ∈ a ∨ o ∈ b
  len : O.length ≤ a.length + b.length
theorem InvM.done {a b : List Int} {kp : Bool → Bool → Bool} {O : List Int} (h : InvM a b kp a.length b.length O) (hk : kp false false = false) (ha : a.length % 2 = 0) (hb : b.length % 2 = 0) : Mrg a b kp O := by
  have par : ∀ x, inE O x = kp (inE a x) (inE b x) := fun x => h.par x (by simp) (by simp)
  refine ⟨h.inc, par, ?_, h.sub, h.len⟩
  obtain ⟨t, ht⟩ := top_of (a ++ (b ++ O))
  have := par t
  rw [inE_all (fun e he => ht e (by simp [he])), inE_all (fun e he => ht e (by simp [he])), inE_all (fun e he => ht e (by simp [he])), ha, hb] at this
  simp [hk] at this
  omega

end Go.Proofs.Ytafceieenhogpaa
namespace Go.Proofs.Ytafceieenhogpaa
open Go.RowKit Go.Sort

theorem wp_app_rs {ops : Array Oper} {rest : List Oper} {o : Oper} {a : Act} {w : World} {Q : Exit → Act → World → Prop} (hgd : o.guard = none) (s x : Operand)
    (ho : o.op = .call { callee := .builtin .append, args := #[s, x], argTypes := #[22, 22] }) (A : Option Addr) (c : Nat) (L : List Rc) (hs : a.eval s = .slice A L.length c) (B : Nat) (hown : OwR w B A c L)
    (g0 : Nat) (M : List Rc) (c0 : Nat) (B0 : Nat) (hx : a.eval x = .slice (some ⟨g0, 0, none⟩) M.length c0) (hM : OwR w B0 (some ⟨g0, 0, none⟩) c0 M) (hm : 0 < M.length) (hlen : L.length + M.length ≤ 1000000000000) (hB : B ≤ w.heap.size)
    (h : ∀ A' c' w', OwR w' B A' c' (L ++ M) → Apd w w' A A' → wpList Try.prog ops Q rest (a.put o.dst (.slice A' (L.length + M.length) c')) w') :
    wpList Try.prog ops Q (o :: rest) a w := by
  obtain ⟨i0, hi, hz0, hz1, hz2⟩ := info_parts infoR
  refine wpList_append_lies (P := Try.prog) w hgd s x 22 ho B 24 i0 _ 4 32 Try.underlying22 hi hz0 hz1 hz2 rfl (by decide) (.slice A L.length c) L.length (cR L) hs hown
    ⟨g0, 0, none⟩ M.length c0 (cR M) hx (cR_len M) (World.ownsRow.cells hM rfl) (cR_one _) hm (by unfold maxLen; omega) (by omega) hB w.heap.size rfl ?_
  intro g cap w' h1 h2 h3 h4
  refine h (some ⟨g, 0, none⟩) cap w' ?_ ⟨?_, ?_⟩
  · unfold OwR; rw [cR_app, List.length_append]; exact h1
  · rw [slice_block] at h2; exact h2
  · rw [slice_block] at h3
    rcases h3 with h3 | h3
    · exact .inl h3
    · right; show some g = _; rw [h3]
theorem wp_app_r0 {ops : Array Oper} {rest : List Oper} {o : Oper} {a : Act} {w : World} {Q : Exit → Act → World → Prop} (hgd : o.guard = none) (s x : Operand)
    (ho : o.op = .call { callee := .builtin .append, args := #[s, x], argTypes := #[22, 22] }) (A : Option Addr) (c : Nat) (L : List Rc) (hs : a.eval s = .slice A L.length c) (B : Nat) (hown : OwR w B A c L)
    (hx : a.eval x = .slice none 0 0) (h : wpList Try.prog ops Q rest (a.put o.dst (.slice A L.length c)) w) :
    wpList Try.prog ops Q (o :: rest) a w := by
  obtain ⟨i0, hi, hz0, hz1, hz2⟩ := info_parts infoR
  have hr := run_append_owned_none (P := Try.prog) w B 22 o.type 24 i0 4 Try.underlying22 hi (.slice A L.length c) L.length (cR L) hown
  refine wpList_plain hgd fun K hK => ?_
  unfold Oper.wp execOp
  simp only [ho, resolve, invoke, builtin, Sem.run_bind, Sem.run_pure, Result.andThen_ok, List.map_toArray, List.map_cons, List.map_nil, hs, hx, hr]
  exact hK _ _ h

end Go.Proofs.Ytafceieenhogpaa
