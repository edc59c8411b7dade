/-
  What is proved: small words for memory: what was there is as it was; slices that read as bytes; what 'append' does to them. No conditions but bounds on lengths.
-/
import Derived.Test.YthkbenhlhldglaaDoorMa
import Derived.Deep.AppendLies
import Derived.ArgAppend
import Derived.Laws.OwnMore
import Derived.Shelf.Bytes.SlEqualAll
import Derived.Laws.BytesArg
import Derived.OwnWalk
import Derived.Carry
import Derived.Deep.Slices
import Derived.Deep.Fields
import Derived.Lib.Hide
import Derived.LoopTactic
import Derived.IntWalk
import Derived.Laws.BitsAllLaws
import Derived.Handy
import Derived.Deep.QuietTactic
import Derived.BigQuiet
import Derived.WalkMore
namespace Go.Proofs.YthkbenhlhldglaaDoor
open Go.ChangeShapes Go.WideShapes Go.ChangeAt Go.RowKit Go.Joins Go.Sort Go.Deep

/-- What was there is as it was. -/
def Bl (w w' : World) : Prop := Below w.heap.size w w'
theorem Bl.refl (w : World) : Bl w w := Below.refl _ _
theorem Bl.trans {a b c : World} (h : Bl a b) (k : Bl b c) : Bl a c := Below.trans h (Below.mono k h.size)
theorem Gr.bl {a b : World} (h : Gr a b) : Bl a b := h.below
theorem Bl.alloc {a b : World} (h : Bl a b) (o : Obj) : Bl a (b.alloc o) := h.trans ((Gr.refl b).alloc o).bl
theorem Bl.drew {a b : World} (h : Bl a b) : Bl a b.drew := h.trans (Gr.refl b).drew.bl
theorem Bl.drewN {a b : World} (h : Bl a b) (n : Nat) : Bl a (b.drewN n) := h.trans ((Gr.refl b).drewN n).bl
theorem Bl.grow {a b : World} (h : Bl a b) (os : Array Obj) : Bl a (Go.Sort.grow b os) := h.trans ((Gr.refl b).grow os).bl
theorem Bl.gr {a b c : World} (h : Bl a b) (k : Gr b c) : Bl a c := h.trans k.bl
theorem Bl.setCell {a b : World} (h : Bl a b) {p : Addr} (hp : a.heap.size ≤ p.block) (u : Value) : Bl a (b.setCell p u) := Below.setCell h hp u
theorem Bl.size {a b : World} (h : Bl a b) : a.heap.size ≤ b.heap.size := Below.size h
theorem Bl.cell {a b : World} (h : Bl a b) {p : Addr} (hp : p.block < a.heap.size) : b.cell? p = a.cell? p := Below.cell h hp
theorem Bl.frozen {a b : World} (h : Bl a b) {p : Addr} (hp : p.block < a.heap.size) : b.frozen? p = a.frozen? p := Below.frozen h hp
theorem Bl.keep {a b : World} (h : Bl a b) {p : Addr} {v : Value} (hp : a.cell? p = some v) : b.cell? p = some v :=
  (h.cell (World.block_lt_of_cell? a p hp)).trans hp
theorem Bl.grown {a b c : World} {row : Option Nat} (h : Bl a b) (g : b.grownBy c row) (hr : ∀ k, row = some k → a.heap.size ≤ k) : Bl a c :=
  ⟨g.os.trans (Below.os h), g.tape.trans (Below.tape h), g.output.trans (Below.output h), Nat.le_trans h.size g.size,
    fun k hk => (g.block k (Nat.lt_of_lt_of_le hk h.size) (fun e => by have := hr k e.symm; omega)).trans (Below.block h k hk)⟩
theorem At.bl {w w' : World} {b : Nat} {cs : Array Value} {t : TypeId} (h : At w b cs t) (g : Bl w w') : At w' b cs t := by
  have := Below.block g b h.lt
  unfold At at *; rw [this]; exact h
theorem At.grown {w w' : World} {b : Nat} {cs : Array Value} {t : TypeId} {row : Option Nat} (h : At w b cs t) (g : w.grownBy w' row) (hne : some b ≠ row) : At w' b cs t := by
  have := g.block b h.lt hne
  unfold At at *; rw [this]; exact h

theorem list_at {α : Type} {l : List α} {k : Nat} (h : k < l.length) : ∃ x, l[k]? = some x := ⟨l[k], List.getElem?_eq_getElem h⟩

theorem own_cap {w : World} {B s n m c : Nat} {e : TypeId} {A : Option Addr} {xs : List Value} (h : w.ownsRow B e s (.slice A m c) n xs) (_hm : m = n) : n ≤ c := by
  rcases h.2 with ⟨h1, h2⟩ | ⟨g, cap, cur, h1, _, _, h4, _⟩
  · omega
  · injection h1 with a b c'; omega
theorem slice_block (A : Option Addr) (n c : Nat) : (Value.slice A n c).ownBlock = A.map (·.block) := by cases A <;> rfl
theorem Bl.by {w w' : World} (h : Bl w w') : w.grownBy w' none := ⟨Below.os h, Below.tape h, Below.output h, h.size, fun k hk _ => Below.block h k hk⟩
theorem By.trans {a b c : World} {row : Option Nat} (h : a.grownBy b row) (k : b.grownBy c row) : a.grownBy c row :=
  ⟨k.os.trans h.os, k.tape.trans h.tape, k.output.trans h.output, Nat.le_trans h.size k.size, fun i hi hne => (k.block i (Nat.lt_of_lt_of_le hi h.size) hne).trans (h.block i hi hne)⟩
theorem By.refl (w : World) (row : Option Nat) : w.grownBy w row := ⟨rfl, rfl, rfl, Nat.le_refl _, fun _ _ _ => rfl⟩
theorem Bl.byr {a b : World} (h : Bl a b) (row : Option Nat) : a.grownBy b row := ⟨Below.os h, Below.tape h, Below.output h, h.size, fun k hk _ => Below.block h k hk⟩
theorem By.set {a b : World} {p : Addr} (h : a.grownBy b (some p.block)) (u : Value) : a.grownBy (b.setCell p u) (some p.block) :=
  ⟨h.os, h.tape, h.output, by simpa using h.size, fun k hk hne => (Below.heap_setCell _ _ _ _ (fun e => hne (congrArg some e))).trans (h.block k hk hne)⟩
theorem By.none {a b : World} (h : a.grownBy b none) : Bl a b := ⟨h.os, h.tape, h.output, h.size, fun k hk => h.block k hk (by simp)⟩

/-- Bytes as they lie. -/
def RowB (w : World) (b off : Nat) (L : List Int) : Prop := ∀ i x, L[i]? = some x → w.cell? ⟨b, off + i, none⟩ = some (.int .u8 x)
def RwB (w : World) (A : Option Addr) (L : List Int) : Prop := L = [] ∨ ∃ b off, A = some ⟨b, off, none⟩ ∧ RowB w b off L
/-- A slice that reads so. -/
def Sv (w : World) (v : Value) (L : List Int) : Prop := ∃ A c, v = .slice A L.length c ∧ (A = none → c = 0) ∧ L.length ≤ c ∧ c ≤ maxLen ∧ RwB w A L
theorem RwB.opened {w : World} {A : Option Addr} {L : List Int} (h : RwB w A L) (hn : 0 < L.length) : ∃ b off, A = some ⟨b, off, none⟩ ∧ RowB w b off L := by
  rcases h with h | h
  · subst h; simp at hn
  · exact h
/-- Where bytes lie, if there are any. -/
def AdB (A : Option Addr) (L : List Int) : Prop := L = [] ∨ ∃ b off, A = some ⟨b, off, none⟩
theorem RwB.ad {w : World} {A : Option Addr} {L : List Int} (h : RwB w A L) : AdB A L := by
  rcases h with h | ⟨b, off, h, _⟩
  · exact .inl h
  · exact .inr ⟨b, off, h⟩
theorem RowB.drop {w : World} {b off : Nat} {L : List Int} (h : RowB w b off L) (n : Nat) : RowB w b (off + n) (L.drop n) := fun i x hi => by
  rw [List.getElem?_drop] at hi
  rw [Nat.add_assoc]; exact h _ _ hi
theorem RowB.take {w : World} {b off : Nat} {L : List Int} (h : RowB w b off L) (n : Nat) : RowB w b off (L.take n) := fun i x hi => by
  rw [List.getElem?_take] at hi
  split at hi
  · exact h _ _ hi
  · cases hi
theorem RowB.lt {w : World} {b off : Nat} {L : List Int} (h : RowB w b off L) (hn : 0 < L.length) : b < w.heap.size := by
  obtain ⟨x, hx⟩ := list_at hn
  exact World.block_lt_of_cell? w _ (h 0 x hx)
/-- No bytes, or they lie in another block than this one. -/
def Far (L : List Int) (v : Value) (row : Option Nat) : Prop := L = [] ∨ v.ownBlock = none ∨ v.ownBlock ≠ row
theorem RwB.by {w w' : World} {A : Option Addr} {L : List Int} (h : RwB w A L) {row : Option Nat} (g : w.grownBy w' row) (hne : L = [] ∨ A = none ∨ A.map (·.block) ≠ row) : RwB w' A L := by
  rcases h with h | ⟨b, off, rfl, hr⟩
  · exact .inl h
  · rcases hne with hne | hne | hne
    · exact .inl hne
    · cases hne
    · exact .inr ⟨b, off, rfl, fun i x hi => g.cell (hr i x hi) hne⟩
theorem RwB.bl {w w' : World} {A : Option Addr} {L : List Int} (h : RwB w A L) (g : Bl w w') : RwB w' A L :=
  h.by (g.byr none) (by cases A <;> simp)
theorem Sv.by {w w' : World} {v : Value} {L : List Int} (h : Sv w v L) {row : Option Nat} (g : w.grownBy w' row) (hne : Far L v row) : Sv w' v L := by
  obtain ⟨A, c, rfl, h1, h2, h3, h4⟩ := h
  refine ⟨A, c, rfl, h1, h2, h3, h4.by g ?_⟩
  rcases hne with hne | hne | hne
  · exact .inl hne
  · rw [slice_block] at hne
    cases A with
    | none => exact .inr (.inl rfl)
    | some a => cases hne
  · rw [slice_block] at hne; exact .inr (.inr hne)
theorem Sv.bl {w w' : World} {v : Value} {L : List Int} (h : Sv w v L) (g : Bl w w') : Sv w' v L := by
  obtain ⟨A, c, rfl, h1, h2, h3, h4⟩ := h
  exact ⟨A, c, rfl, h1, h2, h3, h4.bl g⟩
theorem Sv.lt {w : World} {v : Value} {L : List Int} (h : Sv w v L) {k : Nat} (hk : v.ownBlock = some k) (hn : L ≠ []) : k < w.heap.size := by
  obtain ⟨A, c, rfl, h1, h2, h3, h4⟩ := h
  rcases h4 with h4 | ⟨b, off, rfl, hr⟩
  · exact absurd h4 hn
  · rw [slice_block] at hk
    cases hk
    exact hr.lt (by cases L with | nil => exact absurd rfl hn | cons a l => simp)
theorem Sv.nil (w : World) : Sv w (.slice none 0 0) [] := ⟨none, 0, rfl, fun _ => rfl, Nat.le_refl _, Nat.zero_le _, .inl rfl⟩

theorem infoBy : (Tryd.prog.info? 5).map (fun i => (i.zero, i.size, i.bytes)) = some (some (.int .u8 0), 1, 1) := by kernel_rfl
theorem cellsByte : Tryd.prog.cellsOf 5 = 1 := by kernel_rfl
theorem cellsInt : Tryd.prog.cellsOf 3 = 1 := by kernel_rfl
def cB (L : List Int) : List Value := L.map (Value.int .u8)
theorem cB_len (L : List Int) : (cB L).length = L.length := by simp [cB]
theorem cB_one (L : List Int) : ∀ u ∈ cB L, u.oneCell' = true := by
  intro u h; simp [cB] at h; obtain ⟨x, _, rfl⟩ := h; rfl
theorem add_lit' (b off j : Nat) : (⟨b, off, none⟩ : Addr).add j = ⟨b, off + j, none⟩ := by unfold Addr.add; split <;> simp_all
theorem RowB.news {w : World} {b off : Nat} {L : List Int} (h : RowB w b off L) : ∀ (j : Nat) (u : Value), (cB L)[j]? = some u → w.cell? (Addr.add ⟨b, off, none⟩ j) = some u := by
  intro j u hj
  unfold cB at hj
  rw [List.getElem?_map] at hj
  cases hx : L[j]? with
  | none => rw [hx] at hj; cases hj
  | some x => rw [hx] at hj; cases hj; rw [add_lit']; exact h j x hx

theorem RwB.blk {w : World} {g : Nat} {L : List Int} {t : TypeId} (h : At w g (cB L).toArray t) : RwB w (some ⟨g, 0, none⟩) L := by
  refine .inr ⟨g, 0, rfl, fun i x hi => ?_⟩
  rw [Nat.zero_add, h.cell i]
  simp [cB, hi]
/-- A row of bytes that a call owns. -/
def OwB (w : World) (B : Nat) (A : Option Addr) (c : Nat) (L : List Int) : Prop := w.ownsRow B 5 1 (.slice A L.length c) L.length (cB L)
theorem OwB.nil (w : World) (B : Nat) : OwB w B none 0 [] := World.ownsRow_nil _ _ _ _
theorem own_addr {w : World} {B s n c : Nat} {e : TypeId} {A : Option Addr} {xs : List Value} (h : w.ownsRow B e s (.slice A n c) n xs) : (A = none ∧ c = 0 ∧ n = 0) ∨ ∃ g, A = some ⟨g, 0, none⟩ ∧ B ≤ g ∧ g < w.heap.size := by
  rcases h.2 with ⟨h1, h2⟩ | ⟨g, cap, cur, h1, h2, h3, _⟩
  · left
    injection h1 with a b c'
    exact ⟨a, c', h2⟩
  · right
    injection h1 with a b c'
    refine ⟨g, a, h2, ?_⟩
    rcases Nat.lt_or_ge g w.heap.size with hl | hl
    · exact hl
    · rw [Array.getElem?_eq_none hl] at h3; cases h3
theorem own_caps {w : World} {B s n c : Nat} {e : TypeId} {A : Option Addr} {xs : List Value} (h : w.ownsRow B e s (.slice A n c) n xs) : n ≤ c ∧ c ≤ maxLen ∧ (A = none → c = 0) := by
  rcases h.2 with ⟨h1, h2⟩ | ⟨g, cap, cur, h1, h2, h3, h4, h5, _⟩
  · injection h1 with a b c'
    subst c'
    exact ⟨by omega, Nat.zero_le _, fun _ => rfl⟩
  · injection h1 with a b c'
    subst c'
    exact ⟨h4, h5, fun h => by rw [a] at h; cases h⟩
theorem OwB.lies {w : World} {B : Nat} {A : Option Addr} {c : Nat} {L : List Int} (h : OwB w B A c L) : A = none ∨ ∃ g, A = some ⟨g, 0, none⟩ ∧ B ≤ g ∧ g < w.heap.size := by
  rcases own_addr h with ⟨h1, _⟩ | h1
  · exact .inl h1
  · exact .inr h1
theorem OwB.rwb {w : World} {B : Nat} {A : Option Addr} {c : Nat} {L : List Int} (h : OwB w B A c L) : RwB w A L := by
  rcases own_addr h with ⟨_, _, h1⟩ | ⟨g, rfl, _⟩
  · exact .inl (List.eq_nil_of_length_eq_zero h1)
  · refine .inr ⟨g, 0, rfl, fun i x hi => ?_⟩
    have hl : i < L.length := by
      rcases Nat.lt_or_ge i L.length with h' | h'
      · exact h'
      · rw [List.getElem?_eq_none h'] at hi; cases hi
    have q := World.ownsRow.cellAt h i (by omega)
    rw [Nat.zero_add, q]
    simp [cB, hi]
theorem OwB.sv {w : World} {B : Nat} {A : Option Addr} {c : Nat} {L : List Int} (h : OwB w B A c L) : Sv w (.slice A L.length c) L :=
  ⟨A, c, rfl, (own_caps h).2.2, (own_caps h).1, (own_caps h).2.1, h.rwb⟩
theorem OwB.by {w w' : World} {B : Nat} {A : Option Addr} {c : Nat} {L : List Int} {row : Option Nat} (h : OwB w B A c L) (g : w.grownBy w' row) (hne : A = none ∨ A.map (·.block) ≠ row) : OwB w' B A c L :=
  World.ownsRow.kept h g (by rw [slice_block]; rcases hne with rfl | hne; exact .inl rfl; exact .inr hne)
theorem OwB.bl {w w' : World} {B : Nat} {A : Option Addr} {c : Nat} {L : List Int} (h : OwB w B A c L) (g : Bl w w') : OwB w' B A c L :=
  h.by (g.byr none) (by cases A with | none => exact .inl rfl | some a => exact .inr (by simp))
/-- What else has turned, where a row was added to. -/
theorem app_bl {w0 w w' : World} {A : Option Addr} {B : Nat} (g : w.grownBy w' (A.map (·.block))) (h : Bl w0 w) (hA : A = none ∨ ∃ k, A = some ⟨k, 0, none⟩ ∧ B ≤ k ∧ k < w.heap.size) (hB : w0.heap.size ≤ B) : Bl w0 w' :=
  h.grown g (fun k hk => by
    rcases hA with rfl | ⟨k', rfl, h1, _⟩
    · cases hk
    · simp at hk; omega)

theorem run_app_empty {w : World} {B : Nat} {t ty e : TypeId} {i : TypeInfo} {size : Nat} (ht : Tryd.prog.underlying t = some (.slice e)) (hi : Tryd.prog.info? e = some i)
    {v : Value} {n : Nat} {xs : List Value} (hown : w.ownsRow B e size v n xs) (a : Option Addr) (c : Nat) (hac : a = none → c = 0) :
    (Builtin.append_ #[t, t] ty #[v, .slice a 0 c]).run Tryd.prog w = .ok v w := by
  cases a with
  | none => obtain rfl := hac rfl; exact run_append_owned_none w B t ty e i size ht hi v n xs hown
  | some a =>
    have hl : (loadCells a 0).run Tryd.prog w = .ok #[] w := by simpa using run_loadCells_list (P := Tryd.prog) w a [] (by simp)
    rcases hown.2 with ⟨rfl, rfl⟩ | ⟨g, cap, cur, rfl, _, _, hnc, _⟩
    · simp [Builtin.append_, run_underlying ht, sizeOf, typeInfo, hi, Builtin.lenOf, Builtin.firstCells, hl]
    · simp [Builtin.append_, run_underlying ht, sizeOf, typeInfo, hi, Builtin.lenOf, Builtin.firstCells, hl, hnc, storeCells]

/-- Bytes are added to a row of bytes that the call owns. -/
theorem run_app_b {w : World} {B : Nat} {A : Option Addr} {c : Nat} {L : List Int} (hown : OwB w B A c L) {A1 : Option Addr} {c1 : Nat} {M : List Int} (h1 : A1 = none → c1 = 0) (hM : RwB w A1 M) (hlen : L.length + M.length ≤ 1000000000000) (hB : B ≤ w.heap.size) (ty : TypeId) :
    ∃ A' c' w', (Builtin.append_ #[22, 22] ty #[.slice A L.length c, .slice A1 M.length c1]).run Tryd.prog w = .ok (.slice A' (L.length + M.length) c') w' ∧ OwB w' B A' c' (L ++ M) ∧ w.grownBy w' (A.map (·.block)) ∧ (A'.map (·.block) = A.map (·.block) ∨ A'.map (·.block) = some w.heap.size) := by
  obtain ⟨i0, hi, hz0, hz1, hz2⟩ := info_parts infoBy
  by_cases hm : M.length = 0
  · obtain rfl : M = [] := List.eq_nil_of_length_eq_zero hm
    refine ⟨A, c, w, run_app_empty (B := B) Tryd.underlying22 hi hown A1 c1 h1, by simpa using hown, By.refl _ _, .inl rfl⟩
  · obtain ⟨b, off, rfl, hrow⟩ := hM.opened (by omega)
    obtain ⟨g, cap, w', hr, q1, q2, q3, q4⟩ := run_append_lies (P := Tryd.prog) w 22 ty B 5 i0 _ 1 1 Tryd.underlying22 hi hz0 hz1 hz2 rfl (by decide) (.slice A L.length c) L.length (cB L) hown
      ⟨b, off, none⟩ M.length c1 (cB M) (by rw [cB_len]; simp) hrow.news (cB_one _) (by omega) (by unfold maxLen; omega) (by omega) hB w.heap.size rfl
    rw [slice_block] at q2 q3
    refine ⟨some ⟨g, 0, none⟩, cap, w', hr, ?_, q2, ?_⟩
    · unfold OwB; rw [show cB (L ++ M) = cB L ++ cB M by simp [cB], List.length_append]; exact q1
    · rcases q3 with q3 | q3
      · exact .inl q3.symm
      · right; rw [q3]; rfl
theorem wp_app_b {ops : Array Oper} {rest : List Oper} {o : Oper} {a : Act} {w : World} {Q : Exit → Act → World → Prop} (hgd : o.guard = none) (s x : Operand)
    (ho : o.op = .call { callee := .builtin .append, args := #[s, x], argTypes := #[22, 22] }) (A : Option Addr) (c : Nat) (L : List Int) (hs : a.eval s = .slice A L.length c) (B : Nat) (hown : OwB w B A c L)
    (A1 : Option Addr) (M : List Int) (c1 : Nat) (hx : a.eval x = .slice A1 M.length c1) (h1 : A1 = none → c1 = 0) (hM : RwB w A1 M) (hlen : L.length + M.length ≤ 1000000000000) (hB : B ≤ w.heap.size)
    (h : ∀ A' c' w', OwB w' B A' c' (L ++ M) → w.grownBy w' (A.map (·.block)) → (A'.map (·.block) = A.map (·.block) ∨ A'.map (·.block) = some w.heap.size) → wpList Tryd.prog ops Q rest (a.put o.dst (.slice A' (L.length + M.length) c')) w') :
    wpList Tryd.prog ops Q (o :: rest) a w := by
  refine wpList_plain hgd fun K hK => ?_
  obtain ⟨A', c', w', hr, q1, q2, q3⟩ := run_app_b hown h1 hM hlen hB o.type
  unfold Oper.wp execOp
  simp only [ho, resolve, invoke, builtin, Sem.run_bind, Sem.run_pure, Result.andThen_ok, List.map_toArray, List.map_cons, List.map_nil, hs, hx, hr]
  exact hK _ _ (h A' c' w' q1 q2 q3)

theorem step_app_b {ops : Array Oper} {o : Oper} {a : Act} {w : World} {K : Act → World → Prop} {Q : Exit → Act → World → Prop} {E : Prop} (hgd : o.guard = none) (s x : Operand)
    (ho : o.op = .call { callee := .builtin .append, args := #[s, x], argTypes := #[22, 22] }) (A : Option Addr) (c : Nat) (L : List Int) (hs : a.eval s = .slice A L.length c) (B : Nat) (hown : OwB w B A c L)
    (A1 : Option Addr) (M : List Int) (c1 : Nat) (hx : a.eval x = .slice A1 M.length c1) (h1 : A1 = none → c1 = 0) (hM : RwB w A1 M) (hlen : L.length + M.length ≤ 1000000000000) (hB : B ≤ w.heap.size)
    (h : ∀ A' c' w', OwB w' B A' c' (L ++ M) → w.grownBy w' (A.map (·.block)) → (A'.map (·.block) = A.map (·.block) ∨ A'.map (·.block) = some w.heap.size) → K (a.put o.dst (.slice A' (L.length + M.length) c')) w') :
    if Region.wanted o (yielded ops a.tmps) = true then Oper.wp Tryd.prog o a w K Q else E := by
  have hw : Region.wanted o (yielded ops a.tmps) = true := by simp [Region.wanted, hgd]
  rw [if_pos hw]
  obtain ⟨A', c', w', hr, q1, q2, q3⟩ := run_app_b hown h1 hM hlen hB o.type
  unfold Oper.wp execOp
  simp only [ho, resolve, invoke, builtin, Sem.run_bind, Sem.run_pure, Result.andThen_ok, List.map_toArray, List.map_cons, List.map_nil, hs, hx, hr]
  exact h A' c' w' q1 q2 q3

/-- Bytes are added to a slice that has no room. -/
theorem run_app_full {w : World} {A : Option Addr} {L : List Int} (hL : RwB w A L) (h0 : A = none → L = []) {A1 : Option Addr} {c1 : Nat} {M : List Int} (h1 : A1 = none → c1 = 0) (hM : RwB w A1 M) (hlen : L.length + M.length ≤ 1000000000000) (ty : TypeId) :
    ∃ v' w', (Builtin.append_ #[22, 22] ty #[.slice A L.length L.length, .slice A1 M.length c1]).run Tryd.prog w = .ok v' w' ∧ Sv w' v' (L ++ M) ∧ Bl w w' ∧ ((M = [] ∧ v'.ownBlock = A.map (·.block)) ∨ ∃ k, v'.ownBlock = some k ∧ w.heap.size ≤ k) := by
  obtain ⟨i0, hi, hz0, hz1, hz2⟩ := info_parts infoBy
  by_cases hm : M.length = 0
  · obtain rfl : M = [] := List.eq_nil_of_length_eq_zero hm
    refine ⟨.slice A L.length L.length, w, ?_, ⟨A, L.length, by simp, fun h => by rw [h0 h]; rfl, by simp, by unfold maxLen; simp at hlen; omega, by simpa using hL⟩, Bl.refl _, .inl ⟨rfl, slice_block _ _ _⟩⟩
    have hlc : ∀ a, (loadCells a 0).run Tryd.prog w = .ok #[] w := fun a => by simpa using run_loadCells_list (P := Tryd.prog) w a [] (by simp)
    have hn1 := h1
    cases A1 with
    | none =>
      obtain rfl := hn1 rfl
      cases A with
      | none => obtain rfl := h0 rfl; simp [Builtin.append_, run_underlying Tryd.underlying22, sizeOf, typeInfo, hi, Builtin.lenOf, Builtin.firstCells]
      | some a => simp [Builtin.append_, run_underlying Tryd.underlying22, sizeOf, typeInfo, hi, Builtin.lenOf, Builtin.firstCells, storeCells]
    | some a1 =>
      cases A with
      | none => obtain rfl := h0 rfl; simp [Builtin.append_, run_underlying Tryd.underlying22, sizeOf, typeInfo, hi, Builtin.lenOf, Builtin.firstCells, hlc]
      | some a => simp [Builtin.append_, run_underlying Tryd.underlying22, sizeOf, typeInfo, hi, Builtin.lenOf, Builtin.firstCells, hlc, storeCells]
  · obtain ⟨b, off, rfl, hrow⟩ := hM.opened (by omega)
    have fin : ∀ v' w', w'.ownsRow w.heap.size 5 1 v' (L.length + M.length) (cB L ++ cB M) → w.grownBy w' none → Sv w' v' (L ++ M) ∧ Bl w w' ∧ ((M = [] ∧ v'.ownBlock = A.map (·.block)) ∨ ∃ k, v'.ownBlock = some k ∧ w.heap.size ≤ k) := by
      intro v' w' q1 q2
      obtain ⟨g, cap, rfl, hlow, _⟩ := q1.form (by omega)
      have q3 : OwB w' w.heap.size (some ⟨g, 0, none⟩) cap (L ++ M) := by unfold OwB; rw [show cB (L ++ M) = cB L ++ cB M by simp [cB], List.length_append]; exact q1
      have q4 := q3.sv
      rw [List.length_append] at q4
      exact ⟨q4, By.none q2, .inr ⟨g, rfl, hlow⟩⟩
    cases A with
    | none =>
      obtain rfl := h0 rfl
      obtain ⟨v', w', hr, q1, q2, _⟩ := run_append_own (P := Tryd.prog) w w.heap.size 22 ty 5 i0 _ 1 1 Tryd.underlying22 hi hz0 hz1 hz2 rfl (by decide) (.slice none 0 0) 0 [] (World.ownsRow_nil w _ _ _)
        ⟨b, off, none⟩ M.length c1 (cB M) (by rw [cB_len]; simp) hrow.news (cB_one _) (by unfold maxLen; simp at hlen; omega) (by simp at hlen; omega) (Nat.le_refl _)
      have q1' : w'.ownsRow w.heap.size 5 1 v' (([] : List Int).length + M.length) (cB [] ++ cB M) := by simpa [cB] using q1
      exact ⟨v', w', hr, fin v' w' q1' (by simpa [Value.ownBlock] using q2)⟩
    | some a =>
      have hol : ∀ j u, (cB L)[j]? = some u → w.cell? (a.add j) = some u := by
        rcases hL with rfl | ⟨b', off', hb, hr'⟩
        · intro j u hj; simp [cB] at hj
        · cases hb; exact hr'.news
      obtain ⟨v', w', hr, q1, q2⟩ := run_append_arg_grows (P := Tryd.prog) w 22 ty 5 i0 _ 1 1 Tryd.underlying22 hi hz0 hz1 hz2 rfl (by decide) a L.length L.length (cB L) (by rw [cB_len]; simp) hol
        ⟨b, off, none⟩ M.length c1 (cB M) (by rw [cB_len]; simp) hrow.news (by omega) (by unfold maxLen; omega) (by omega)
      exact ⟨v', w', hr, fin v' w' q1 q2⟩

theorem step_app_full {ops : Array Oper} {o : Oper} {a : Act} {w : World} {K : Act → World → Prop} {Q : Exit → Act → World → Prop} {E : Prop} (hgd : o.guard = none) (s x : Operand)
    (ho : o.op = .call { callee := .builtin .append, args := #[s, x], argTypes := #[22, 22] }) (A : Option Addr) (L : List Int) (hs : a.eval s = .slice A L.length L.length) (hL : RwB w A L) (h0 : A = none → L = [])
    (A1 : Option Addr) (M : List Int) (c1 : Nat) (hx : a.eval x = .slice A1 M.length c1) (h1 : A1 = none → c1 = 0) (hM : RwB w A1 M) (hlen : L.length + M.length ≤ 1000000000000)
    (h : ∀ v' w', Sv w' v' (L ++ M) → Bl w w' → ((M = [] ∧ v'.ownBlock = A.map (·.block)) ∨ ∃ k, v'.ownBlock = some k ∧ w.heap.size ≤ k) → K (a.put o.dst v') w') :
    if Region.wanted o (yielded ops a.tmps) = true then Oper.wp Tryd.prog o a w K Q else E := by
  have hw : Region.wanted o (yielded ops a.tmps) = true := by simp [Region.wanted, hgd]
  rw [if_pos hw]
  obtain ⟨v', w', hr, q1, q2, q3⟩ := run_app_full hL h0 h1 hM hlen o.type
  unfold Oper.wp execOp
  simp only [ho, resolve, invoke, builtin, Sem.run_bind, Sem.run_pure, Result.andThen_ok, List.map_toArray, List.map_cons, List.map_nil, hs, hx, hr]
  exact h v' w' q1 q2 q3

/-- Bytes made a text. -/
theorem Sv.text {w : World} {A : Option Addr} {c : Nat} {L : List Int} (h : RwB w A L) : (convert 22 9 (.slice A L.length c)).run Tryd.prog w = .ok (.string (strOfNums L)) w := by
  rcases h with rfl | ⟨b, off, rfl, hr⟩
  · exact run_convert_bytes_zero w 22 5 Tryd.underlying22 Tryd.underlying5 A c 9 Tryd.underlying9
  · refine run_convert_bytes_arg (P := Tryd.prog) w 22 5 Tryd.underlying22 Tryd.underlying5 b off _ c _ rfl (fun i hi => ?_) 9 Tryd.underlying9
    obtain ⟨x, hx⟩ := list_at hi
    rw [hr i x hx, List.getD_eq_getElem?_getD, hx]; rfl

/-- Bytes that were just built. -/
theorem builtB (L : List Int) (B : Nat) (w : World) (h : L.length ≤ 1000000) (hB : B ≤ w.heap.size) : OwB (w.alloc (.cells (cB L).toArray 5)) B (some ⟨w.heap.size, 0, none⟩) L.length L := by
  refine ⟨by rw [cB_len, Nat.mul_one], .inr ⟨w.heap.size, L.length, (cB L).toArray, rfl, hB, ?_, Nat.le_refl _, by unfold maxLen; omega, by simp [cB], by rw [Nat.mul_one]; simp [cB, List.take_of_length_le]⟩⟩
  unfold World.alloc; simp

end Go.Proofs.YthkbenhlhldglaaDoor
