/-
  What is proved: small words for memory: what was there is as it was; rows of elements of one shape; what 'append' does to such a row that a call owns. No conditions but bounds on lengths.
-/
import Derived.Test.YtgjoipndhlngnaaVl
import Derived.Deep.AppendLies
import Derived.ArgAppend
import Derived.Laws.OwnMore
import Derived.OwnWalk
import Derived.Carry
import Derived.Deep.Slices
import Derived.Deep.Fields
import Derived.Lib.Hide
import Derived.LoopTactic
import Derived.IntWalk
import Derived.Handy
import Derived.Deep.QuietTactic
import Derived.BigQuiet
import Derived.WalkMore
namespace Go.Proofs.Ytgjoipndhlngnaa
open Go.ChangeShapes Go.WideShapes Go.ChangeAt Go.RowKit Go.Joins Go.Sort Go.Deep

/-- What was there is as it was. -/
def Bl (w w' : World) : Prop := Below w.heap.size w w'
theorem Bl.refl (w : World) : Bl w w := Below.refl _ _
theorem Bl.trans {a b c : World} (h : Bl a b) (k : Bl b c) : Bl a c := Below.trans h (Below.mono k h.size)
theorem Gr.bl {a b : World} (h : Gr a b) : Bl a b := h.below
theorem Bl.alloc {a b : World} (h : Bl a b) (o : Obj) : Bl a (b.alloc o) := h.trans ((Gr.refl b).alloc o).bl
theorem Bl.drew {a b : World} (h : Bl a b) : Bl a b.drew := h.trans (Gr.refl b).drew.bl
theorem Bl.drewN {a b : World} (h : Bl a b) (n : Nat) : Bl a (b.drewN n) := h.trans ((Gr.refl b).drewN n).bl
theorem Bl.grow {a b : World} (h : Bl a b) (os : Array Obj) : Bl a (Go.Sort.grow b os) := h.trans ((Gr.refl b).grow os).bl
theorem Bl.gr {a b c : World} (h : Bl a b) (k : Gr b c) : Bl a c := h.trans k.bl
theorem Bl.setCell {a b : World} (h : Bl a b) {p : Addr} (hp : a.heap.size ≤ p.block) (u : Value) : Bl a (b.setCell p u) := Below.setCell h hp u
theorem Bl.size {a b : World} (h : Bl a b) : a.heap.size ≤ b.heap.size := Below.size h
theorem Bl.cell {a b : World} (h : Bl a b) {p : Addr} (hp : p.block < a.heap.size) : b.cell? p = a.cell? p := Below.cell h hp
theorem Bl.frozen {a b : World} (h : Bl a b) {p : Addr} (hp : p.block < a.heap.size) : b.frozen? p = a.frozen? p := Below.frozen h hp
theorem Bl.keep {a b : World} (h : Bl a b) {p : Addr} {v : Value} (hp : a.cell? p = some v) : b.cell? p = some v :=
  (h.cell (World.block_lt_of_cell? a p hp)).trans hp
theorem Bl.grown {a b c : World} {row : Option Nat} (h : Bl a b) (g : b.grownBy c row) (hr : ∀ k, row = some k → a.heap.size ≤ k) : Bl a c :=
  ⟨g.os.trans (Below.os h), g.tape.trans (Below.tape h), g.output.trans (Below.output h), Nat.le_trans h.size g.size,
    fun k hk => (g.block k (Nat.lt_of_lt_of_le hk h.size) (fun e => by have := hr k e.symm; omega)).trans (Below.block h k hk)⟩
theorem At.bl {w w' : World} {b : Nat} {cs : Array Value} {t : TypeId} (h : At w b cs t) (g : Bl w w') : At w' b cs t := by
  have := Below.block g b h.lt
  unfold At at *; rw [this]; exact h
theorem At.grown {w w' : World} {b : Nat} {cs : Array Value} {t : TypeId} {row : Option Nat} (h : At w b cs t) (g : w.grownBy w' row) (hne : some b ≠ row) : At w' b cs t := by
  have := g.block b h.lt hne
  unfold At at *; rw [this]; exact h

theorem list_at {α : Type} {l : List α} {k : Nat} (h : k < l.length) : ∃ x, l[k]? = some x := ⟨l[k], List.getElem?_eq_getElem h⟩

theorem own_cap {w : World} {B s n m c : Nat} {e : TypeId} {A : Option Addr} {xs : List Value} (h : w.ownsRow B e s (.slice A m c) n xs) (_hm : m = n) : n ≤ c := by
  rcases h.2 with ⟨h1, h2⟩ | ⟨g, cap, cur, h1, _, _, h4, _⟩
  · omega
  · injection h1 with a b c'; omega
theorem slice_block (A : Option Addr) (n c : Nat) : (Value.slice A n c).ownBlock = A.map (·.block) := by cases A <;> rfl
theorem Bl.by {w w' : World} (h : Bl w w') : w.grownBy w' none := ⟨Below.os h, Below.tape h, Below.output h, h.size, fun k hk _ => Below.block h k hk⟩
theorem By.trans {a b c : World} {row : Option Nat} (h : a.grownBy b row) (k : b.grownBy c row) : a.grownBy c row :=
  ⟨k.os.trans h.os, k.tape.trans h.tape, k.output.trans h.output, Nat.le_trans h.size k.size, fun i hi hne => (k.block i (Nat.lt_of_lt_of_le hi h.size) hne).trans (h.block i hi hne)⟩
theorem By.refl (w : World) (row : Option Nat) : w.grownBy w row := ⟨rfl, rfl, rfl, Nat.le_refl _, fun _ _ _ => rfl⟩
theorem Bl.byr {a b : World} (h : Bl a b) (row : Option Nat) : a.grownBy b row := ⟨Below.os h, Below.tape h, Below.output h, h.size, fun k hk _ => Below.block h k hk⟩
theorem By.set {a b : World} {p : Addr} (h : a.grownBy b (some p.block)) (u : Value) : a.grownBy (b.setCell p u) (some p.block) :=
  ⟨h.os, h.tape, h.output, by simpa using h.size, fun k hk hne => (Below.heap_setCell _ _ _ _ (fun e => hne (congrArg some e))).trans (h.block k hk hne)⟩
theorem By.none {a b : World} (h : a.grownBy b none) : Bl a b := ⟨h.os, h.tape, h.output, h.size, fun k hk => h.block k hk (by simp)⟩

theorem add_lit' (b off j : Nat) : (⟨b, off, none⟩ : Addr).add j = ⟨b, off + j, none⟩ := by unfold Addr.add; split <;> simp_all
theorem own_addr {w : World} {B s n c : Nat} {e : TypeId} {A : Option Addr} {xs : List Value} (h : w.ownsRow B e s (.slice A n c) n xs) : (A = none ∧ c = 0 ∧ n = 0) ∨ ∃ g, A = some ⟨g, 0, none⟩ ∧ B ≤ g ∧ g < w.heap.size := by
  rcases h.2 with ⟨h1, h2⟩ | ⟨g, cap, cur, h1, h2, h3, _⟩
  · left
    injection h1 with a b c'
    exact ⟨a, c', h2⟩
  · right
    injection h1 with a b c'
    refine ⟨g, a, h2, ?_⟩
    rcases Nat.lt_or_ge g w.heap.size with hl | hl
    · exact hl
    · rw [Array.getElem?_eq_none hl] at h3; cases h3
theorem own_caps {w : World} {B s n c : Nat} {e : TypeId} {A : Option Addr} {xs : List Value} (h : w.ownsRow B e s (.slice A n c) n xs) : n ≤ c ∧ c ≤ maxLen ∧ (A = none → c = 0) := by
  rcases h.2 with ⟨h1, h2⟩ | ⟨g, cap, cur, h1, h2, h3, h4, h5, _⟩
  · injection h1 with a b c'
    subst c'
    exact ⟨by omega, Nat.zero_le _, fun _ => rfl⟩
  · injection h1 with a b c'
    subst c'
    exact ⟨h4, h5, fun h => by rw [a] at h; cases h⟩
/-- What else has turned, where a row was added to. -/
theorem app_bl {w0 w w' : World} {A : Option Addr} {B : Nat} (g : w.grownBy w' (A.map (·.block))) (h : Bl w0 w) (hA : A = none ∨ ∃ k, A = some ⟨k, 0, none⟩ ∧ B ≤ k ∧ k < w.heap.size) (hB : w0.heap.size ≤ B) : Bl w0 w' :=
  h.grown g (fun k hk => by
    rcases hA with rfl | ⟨k', rfl, h1, _⟩
    · cases hk
    · simp at hk; omega)

theorem run_app_empty {w : World} {B : Nat} {t ty e : TypeId} {i : TypeInfo} {size : Nat} (ht : Try.prog.underlying t = some (.slice e)) (hi : Try.prog.info? e = some i)
    {v : Value} {n : Nat} {xs : List Value} (hown : w.ownsRow B e size v n xs) (a : Option Addr) (c : Nat) (hac : a = none → c = 0) :
    (Builtin.append_ #[t, t] ty #[v, .slice a 0 c]).run Try.prog w = .ok v w := by
  cases a with
  | none => obtain rfl := hac rfl; exact run_append_owned_none w B t ty e i size ht hi v n xs hown
  | some a =>
    have hl : (loadCells a 0).run Try.prog w = .ok #[] w := by simpa using run_loadCells_list (P := Try.prog) w a [] (by simp)
    rcases hown.2 with ⟨rfl, rfl⟩ | ⟨g, cap, cur, rfl, _, _, hnc, _⟩
    · simp [Builtin.append_, run_underlying ht, sizeOf, typeInfo, hi, Builtin.lenOf, Builtin.firstCells, hl]
    · simp [Builtin.append_, run_underlying ht, sizeOf, typeInfo, hi, Builtin.lenOf, Builtin.firstCells, hl, hnc, storeCells]

theorem slice_nil_block : (Value.slice none 0 0).ownBlock = none := rfl
theorem own_empty {w : World} {B e size : Nat} {A : Option Addr} {n c : Nat} {xs : List Value} (h : w.ownsRow B e size (.slice A n c) n xs) (hA : A = none) : n = 0 ∧ c = 0 := by
  rcases own_addr h with ⟨_, h1, h2⟩ | ⟨g, h1, _⟩
  · exact ⟨h2, h1⟩
  · rw [hA] at h1; cases h1

/-- New cells: none, or they lie. -/
def News (w : World) (A1 : Option Addr) (m : Nat) (news : List Value) : Prop := (m = 0 ∧ news = []) ∨ ∃ b off, A1 = some ⟨b, off, none⟩ ∧ ∀ j u, news[j]? = some u → w.cell? ⟨b, off + j, none⟩ = some u
theorem News.at {w : World} {g : Nat} {xs : List Value} {t : TypeId} (m : Nat) (h : At w g xs.toArray t) : News w (some ⟨g, 0, none⟩) m xs := by
  refine .inr ⟨g, 0, rfl, fun j u hj => ?_⟩
  rw [Nat.zero_add, h.cell j]
  simpa using hj
/-- Cells are added to a row that the call owns. -/
theorem run_app_gen {t e size bytes : Nat} {z : Value} (ht : Try.prog.underlying t = some (.slice e)) (hinfo : (Try.prog.info? e).map (fun i => (i.zero, i.size, i.bytes)) = some (some z, size, bytes)) (hzs : z.cells.size = size) (hsz : 0 < size)
    {w : World} {B n c : Nat} {A : Option Addr} {xs : List Value} (hown : w.ownsRow B e size (.slice A n c) n xs) {A1 : Option Addr} {m c1 : Nat} {news : List Value} (h1 : A1 = none → c1 = 0) (hl : news.length = m * size) (hN : News w A1 m news)
    (hone : ∀ u ∈ news, u.oneCell' = true) (hlen : n + m ≤ 1000000000) (hby : bytes ≤ 1000) (hB : B ≤ w.heap.size) (ty : TypeId) :
    ∃ A' c' w', (Builtin.append_ #[t, t] ty #[.slice A n c, .slice A1 m c1]).run Try.prog w = .ok (.slice A' (n + m) c') w' ∧ w'.ownsRow B e size (.slice A' (n + m) c') (n + m) (xs ++ news) ∧ w.grownBy w' (A.map (·.block)) ∧ (A'.map (·.block) = A.map (·.block) ∨ A'.map (·.block) = some w.heap.size) := by
  obtain ⟨i0, hi, hz0, hz1, hz2⟩ := info_parts hinfo
  by_cases hm : m = 0
  · subst hm
    obtain rfl : news = [] := List.eq_nil_of_length_eq_zero (by rw [hl, Nat.zero_mul])
    exact ⟨A, c, w, run_app_empty (B := B) ht hi hown A1 c1 h1, by simpa using hown, By.refl _ _, .inl rfl⟩
  · obtain ⟨b, off, rfl, hrow⟩ : ∃ b off, A1 = some ⟨b, off, none⟩ ∧ ∀ j u, news[j]? = some u → w.cell? ⟨b, off + j, none⟩ = some u := by
      rcases hN with h | h
      · exact absurd h.1 hm
      · exact h
    have hb : (n + m) * bytes ≤ 140737488355328 := Nat.le_trans (Nat.mul_le_mul hlen hby) (by omega)
    obtain ⟨g, cap, w', hr, q1, q2, q3, q4⟩ := run_append_lies (P := Try.prog) w t ty B e i0 z size bytes ht hi hz0 hz1 hz2 hzs hsz (.slice A n c) n xs hown
      ⟨b, off, none⟩ m c1 news hl (fun j u hj => by rw [add_lit']; exact hrow j u hj) hone (by omega) (by unfold maxLen; omega) hb hB w.heap.size rfl
    rw [slice_block] at q2 q3
    refine ⟨some ⟨g, 0, none⟩, cap, w', hr, q1, q2, ?_⟩
    rcases q3 with q3 | q3
    · exact .inl q3.symm
    · right; rw [q3]; rfl
theorem wp_app_gen {t e size bytes : Nat} {z : Value} (ht : Try.prog.underlying t = some (.slice e)) (hinfo : (Try.prog.info? e).map (fun i => (i.zero, i.size, i.bytes)) = some (some z, size, bytes)) (hzs : z.cells.size = size) (hsz : 0 < size) (hby : bytes ≤ 1000)
    {ops : Array Oper} {rest : List Oper} {o : Oper} {a : Act} {w : World} {Q : Exit → Act → World → Prop} (hgd : o.guard = none) (s x : Operand)
    (ho : o.op = .call { callee := .builtin .append, args := #[s, x], argTypes := #[t, t] }) (A : Option Addr) (n c : Nat) (xs : List Value) (hs : a.eval s = .slice A n c) (B : Nat) (hown : w.ownsRow B e size (.slice A n c) n xs)
    (A1 : Option Addr) (m c1 : Nat) (news : List Value) (hx : a.eval x = .slice A1 m c1) (h1 : A1 = none → c1 = 0) (hl : news.length = m * size) (hN : News w A1 m news) (hone : ∀ u ∈ news, u.oneCell' = true) (hlen : n + m ≤ 1000000000) (hB : B ≤ w.heap.size)
    (h : ∀ A' c' w', w'.ownsRow B e size (.slice A' (n + m) c') (n + m) (xs ++ news) → w.grownBy w' (A.map (·.block)) → (A'.map (·.block) = A.map (·.block) ∨ A'.map (·.block) = some w.heap.size) → wpList Try.prog ops Q rest (a.put o.dst (.slice A' (n + m) c')) w') :
    wpList Try.prog ops Q (o :: rest) a w := by
  refine wpList_plain hgd fun K hK => ?_
  obtain ⟨A', c', w', hr, q1, q2, q3⟩ := run_app_gen ht hinfo hzs hsz hown h1 hl hN hone hlen hby hB o.type
  unfold Oper.wp execOp
  simp only [ho, resolve, invoke, builtin, Sem.run_bind, Sem.run_pure, Result.andThen_ok, List.map_toArray, List.map_cons, List.map_nil, hs, hx, hr]
  exact hK _ _ (h A' c' w' q1 q2 q3)

theorem step_app_gen {t e size bytes : Nat} {z : Value} (ht : Try.prog.underlying t = some (.slice e)) (hinfo : (Try.prog.info? e).map (fun i => (i.zero, i.size, i.bytes)) = some (some z, size, bytes)) (hzs : z.cells.size = size) (hsz : 0 < size) (hby : bytes ≤ 1000)
    {ops : Array Oper} {o : Oper} {a : Act} {w : World} {K : Act → World → Prop} {Q : Exit → Act → World → Prop} {E : Prop} (hgd : o.guard = none) (s x : Operand)
    (ho : o.op = .call { callee := .builtin .append, args := #[s, x], argTypes := #[t, t] }) (A : Option Addr) (n c : Nat) (xs : List Value) (hs : a.eval s = .slice A n c) (B : Nat) (hown : w.ownsRow B e size (.slice A n c) n xs)
    (A1 : Option Addr) (m c1 : Nat) (news : List Value) (hx : a.eval x = .slice A1 m c1) (h1 : A1 = none → c1 = 0) (hl : news.length = m * size) (hN : News w A1 m news) (hone : ∀ u ∈ news, u.oneCell' = true) (hlen : n + m ≤ 1000000000) (hB : B ≤ w.heap.size)
    (h : ∀ A' c' w', w'.ownsRow B e size (.slice A' (n + m) c') (n + m) (xs ++ news) → w.grownBy w' (A.map (·.block)) → (A'.map (·.block) = A.map (·.block) ∨ A'.map (·.block) = some w.heap.size) → K (a.put o.dst (.slice A' (n + m) c')) w') :
    if Region.wanted o (yielded ops a.tmps) = true then Oper.wp Try.prog o a w K Q else E := by
  have hw : Region.wanted o (yielded ops a.tmps) = true := by simp [Region.wanted, hgd]
  rw [if_pos hw]
  obtain ⟨A', c', w', hr, q1, q2, q3⟩ := run_app_gen ht hinfo hzs hsz hown h1 hl hN hone hlen hby hB o.type
  unfold Oper.wp execOp
  simp only [ho, resolve, invoke, builtin, Sem.run_bind, Sem.run_pure, Result.andThen_ok, List.map_toArray, List.map_cons, List.map_nil, hs, hx, hr]
  exact h A' c' w' q1 q2 q3


/-- How an element of a row lies: so many cells, each of one value. -/
structure Shp (α : Type) where
  n : Nat
  c : α → List Value
  len : ∀ x, (c x).length = n
  one : ∀ x, ∀ u ∈ c x, u.oneCell' = true
  pos : 0 < n
namespace Shp
variable {α : Type} (S : Shp α)
/-- The cells of a list. -/
def cs (l : List α) : List Value := l.flatMap S.c
theorem cs_nil : S.cs [] = [] := rfl
theorem cs_cons (x : α) (l : List α) : S.cs (x :: l) = S.c x ++ S.cs l := rfl
theorem cs_one (x : α) : S.cs [x] = S.c x := by simp [cs]
theorem cs_app (l m : List α) : S.cs (l ++ m) = S.cs l ++ S.cs m := by simp [cs]
theorem cs_len : ∀ l : List α, (S.cs l).length = l.length * S.n
  | [] => by simp [cs]
  | x :: l => by rw [cs_cons, List.length_append, S.len, cs_len l, List.length_cons, Nat.add_mul]; omega
theorem cs_get : ∀ (l : List α) (k : Nat) (x : α) (j : Nat), l[k]? = some x → j < S.n → (S.cs l)[k * S.n + j]? = (S.c x)[j]?
  | [], k, x, j, h, _ => by simp at h
  | y :: l, 0, x, j, h, hj => by
    simp at h; subst h
    rw [cs_cons, List.getElem?_append_left (by rw [S.len]; omega), Nat.zero_mul, Nat.zero_add]
  | y :: l, k + 1, x, j, h, hj => by
    rw [cs_cons, List.getElem?_append_right (by rw [S.len, Nat.add_mul]; omega)]
    rw [show (k + 1) * S.n + j - (S.c y).length = k * S.n + j from by rw [S.len, Nat.add_mul]; omega]
    exact cs_get l k x j (by simpa using h) hj
theorem cs_ones (l : List α) : ∀ u ∈ S.cs l, u.oneCell' = true := by
  intro u h
  simp only [cs, List.mem_flatMap] at h
  obtain ⟨x, _, hx⟩ := h
  exact S.one x u hx
/-- From cell off of block b on lie these elements. -/
def Row (w : World) (b off : Nat) (l : List α) : Prop := ∀ k x, l[k]? = some x → ∀ j u, (S.c x)[j]? = some u → w.cell? ⟨b, off + k * S.n + j, none⟩ = some u
/-- A slice of this address reads so. -/
def Rd (w : World) (A : Option Addr) (l : List α) : Prop := l = [] ∨ ∃ b off, A = some ⟨b, off, none⟩ ∧ S.Row w b off l
/-- The call owns this row. -/
def Ow (T : TypeId) (w : World) (B : Nat) (A : Option Addr) (c : Nat) (l : List α) : Prop := w.ownsRow B T S.n (.slice A l.length c) l.length (S.cs l)
variable {S}
theorem Row.by {w w' : World} {b off : Nat} {l : List α} (h : S.Row w b off l) {row : Option Nat} (g : w.grownBy w' row) (hne : some b ≠ row) : S.Row w' b off l := fun k x hk j u hj => g.cell (h k x hk j u hj) hne
theorem Row.bl {w w' : World} {b off : Nat} {l : List α} (h : S.Row w b off l) (g : Bl w w') : S.Row w' b off l := fun k x hk j u hj => g.keep (h k x hk j u hj)
theorem Row.drop {w : World} {b off : Nat} {l : List α} (h : S.Row w b off l) (n : Nat) : S.Row w b (off + n * S.n) (l.drop n) := fun k x hk j u hj => by
  rw [List.getElem?_drop] at hk
  rw [show off + n * S.n + k * S.n + j = off + (n + k) * S.n + j from by rw [Nat.add_mul]; omega]
  exact h _ _ hk j u hj
theorem Row.take {w : World} {b off : Nat} {l : List α} (h : S.Row w b off l) (n : Nat) : S.Row w b off (l.take n) := fun k x hk => by
  rw [List.getElem?_take] at hk
  split at hk
  · exact h _ _ hk
  · cases hk
theorem Row.lt {w : World} {b off : Nat} {l : List α} (h : S.Row w b off l) (hl : 0 < l.length) : b < w.heap.size := by
  obtain ⟨x, hx⟩ := list_at hl
  have h1 := S.len x
  have h2 := S.pos
  obtain ⟨u, hu⟩ := list_at (l := S.c x) (k := 0) (by omega)
  exact World.block_lt_of_cell? w _ (h 0 x hx 0 u hu)
theorem Row.news {w : World} {b off : Nat} {l : List α} (h : S.Row w b off l) : ∀ (j : Nat) (u : Value), (S.cs l)[j]? = some u → w.cell? ⟨b, off + j, none⟩ = some u := by
  intro j u hj
  have hl : j < l.length * S.n := by
    rw [← S.cs_len]
    rcases Nat.lt_or_ge j (S.cs l).length with h' | h'
    · exact h'
    · rw [List.getElem?_eq_none h'] at hj; cases hj
  have hp := S.pos
  have hd : j / S.n < l.length := Nat.div_lt_of_lt_mul (by rw [Nat.mul_comm]; exact hl)
  obtain ⟨x, hx⟩ := list_at hd
  have hm := Nat.mod_lt j hp
  have he : j / S.n * S.n + j % S.n = j := by rw [Nat.mul_comm]; exact Nat.div_add_mod j S.n
  have hg := S.cs_get l (j / S.n) x (j % S.n) hx hm
  rw [he, hj] at hg
  have := h (j / S.n) x hx (j % S.n) u hg.symm
  rw [Nat.add_assoc, he] at this
  exact this
theorem Rd.nil (w : World) (A : Option Addr) : S.Rd w A [] := .inl rfl
theorem Rd.opened {w : World} {A : Option Addr} {l : List α} (h : S.Rd w A l) (hl : 0 < l.length) : ∃ b off, A = some ⟨b, off, none⟩ ∧ S.Row w b off l := by
  rcases h with h | h
  · subst h; simp at hl
  · exact h
theorem Rd.by {w w' : World} {A : Option Addr} {l : List α} (h : S.Rd w A l) {row : Option Nat} (g : w.grownBy w' row) (hne : l = [] ∨ A = none ∨ A.map (·.block) ≠ row) : S.Rd w' A l := by
  rcases h with h | ⟨b, off, rfl, hr⟩
  · exact .inl h
  · rcases hne with hne | hne | hne
    · exact .inl hne
    · cases hne
    · exact .inr ⟨b, off, rfl, hr.by g hne⟩
theorem Rd.bl {w w' : World} {A : Option Addr} {l : List α} (h : S.Rd w A l) (g : Bl w w') : S.Rd w' A l := by
  rcases h with h | ⟨b, off, h1, h2⟩
  · exact .inl h
  · exact .inr ⟨b, off, h1, h2.bl g⟩
theorem Rd.lt {w : World} {A : Option Addr} {l : List α} (h : S.Rd w A l) (hl : l ≠ []) {k : Nat} (hk : A.map (·.block) = some k) : k < w.heap.size := by
  rcases h with h | ⟨b, off, rfl, hr⟩
  · exact absurd h hl
  · cases hk
    exact hr.lt (by cases l with | nil => exact absurd rfl hl | cons => simp)
/-- Elements that lie in a block of another kind are not in the way: block k is no row of cells. -/
theorem Rd.apart {w w' : World} {A : Option Addr} {l : List α} (h : S.Rd w A l) {k : Nat} (g : w.grownBy w' (some k)) (hk : ∀ i, w.cell? ⟨k, i, none⟩ = none) : S.Rd w' A l := by
  rcases h with h | ⟨b, off, rfl, hr⟩
  · exact .inl h
  · refine .inr ⟨b, off, rfl, fun i x hi j u hj => g.cell (hr i x hi j u hj) (fun e => ?_)⟩
    have h2 := hr i x hi j u hj
    have h3 : b = k := by simpa using e
    subst h3
    rw [hk] at h2
    cases h2
variable {T : TypeId}
theorem Ow.nil (w : World) (B : Nat) : S.Ow T w B none 0 [] := World.ownsRow_nil _ _ _ _
theorem Ow.lies {w : World} {B c : Nat} {A : Option Addr} {l : List α} (h : S.Ow T w B A c l) : A = none ∨ ∃ g, A = some ⟨g, 0, none⟩ ∧ B ≤ g ∧ g < w.heap.size := by
  rcases own_addr h with ⟨h1, _⟩ | h1
  · exact .inl h1
  · exact .inr h1
theorem Ow.rd {w : World} {B c : Nat} {A : Option Addr} {l : List α} (h : S.Ow T w B A c l) : S.Rd w A l := by
  rcases own_addr h with ⟨_, _, h1⟩ | ⟨g, rfl, _⟩
  · exact .inl (List.eq_nil_of_length_eq_zero h1)
  · refine .inr ⟨g, 0, rfl, fun k x hk j u hj => ?_⟩
    have hl : k < l.length := by
      rcases Nat.lt_or_ge k l.length with h' | h'
      · exact h'
      · rw [List.getElem?_eq_none h'] at hk; cases hk
    have hj' : j < S.n := by
      rw [← S.len x]
      rcases Nat.lt_or_ge j (S.c x).length with h' | h'
      · exact h'
      · rw [List.getElem?_eq_none h'] at hj; cases hj
    have q := World.ownsRow.cellAt h (k * S.n + j) (by
      have : (k + 1) * S.n ≤ l.length * S.n := Nat.mul_le_mul_right _ hl
      rw [Nat.add_mul] at this; omega)
    rw [Nat.zero_add, q, S.cs_get l k x j hk hj', hj]
theorem Ow.caps {w : World} {B c : Nat} {A : Option Addr} {l : List α} (h : S.Ow T w B A c l) : l.length ≤ c ∧ c ≤ maxLen ∧ (A = none → c = 0) := own_caps h
theorem Ow.by {w w' : World} {B c : Nat} {A : Option Addr} {l : List α} {row : Option Nat} (h : S.Ow T w B A c l) (g : w.grownBy w' row) (hne : A = none ∨ A.map (·.block) ≠ row) : S.Ow T w' B A c l :=
  World.ownsRow.kept h g (by rw [slice_block]; rcases hne with rfl | hne; exact .inl rfl; exact .inr hne)
theorem Ow.bl {w w' : World} {B c : Nat} {A : Option Addr} {l : List α} (h : S.Ow T w B A c l) (g : Bl w w') : S.Ow T w' B A c l :=
  h.by (g.byr none) (by cases A with | none => exact .inl rfl | some a => exact .inr (by simp))
theorem Ow.low {w : World} {B B' c : Nat} {A : Option Addr} {l : List α} (h : S.Ow T w B A c l) (hB : B' ≤ B) : S.Ow T w B' A c l := by
  obtain ⟨h0, h⟩ := h
  refine ⟨h0, ?_⟩
  rcases h with h | ⟨g, cap, cur, h1, h2, h3⟩
  · exact .inl h
  · exact .inr ⟨g, cap, cur, h1, Nat.le_trans hB h2, h3⟩
theorem Ow.above {w : World} {B c : Nat} {A : Option Addr} {l : List α} (h : S.Ow T w B A c l) {j : Nat} (hj : A.map (·.block) = some j) : B ≤ j := by
  rcases h.lies with h | ⟨g, rfl, h1, _⟩
  · subst h; cases hj
  · cases hj; exact h1
theorem Ow.app_bl {w0 w w1 w' : World} {B c : Nat} {A : Option Addr} {l : List α} (h : S.Ow T w B A c l) (g : w1.grownBy w' (A.map (·.block))) (h0 : Bl w0 w1) (hB : w0.heap.size ≤ B) : Bl w0 w' :=
  h0.grown g (fun k hk => by have := h.above hk; omega)
theorem Ow.set {w : World} {B c : Nat} {A : Option Addr} {l : List α} (h : S.Ow T w B A c l) {p : Addr} (hp : p.block < B) (u : Value) : S.Ow T (w.setCell p u) B A c l :=
  h.by (By.set (By.refl w _) u) (by
    rcases h.lies with h | ⟨g, rfl, h1, _⟩
    · exact .inl h
    · exact .inr (by simp; omega))
theorem Row.toNews {w : World} {A : Option Addr} {l : List α} (h : S.Rd w A l) : News w A l.length (S.cs l) := by
  rcases h with rfl | ⟨b, off, rfl, hr⟩
  · exact .inl ⟨rfl, rfl⟩
  · exact .inr ⟨b, off, rfl, hr.news⟩
/-- A slice's elements are added to a row that the call owns. -/
theorem wp_app {ts bytes : Nat} {z : Value} (ht : Try.prog.underlying ts = some (.slice T)) (hinfo : (Try.prog.info? T).map (fun i => (i.zero, i.size, i.bytes)) = some (some z, S.n, bytes)) (hzs : z.cells.size = S.n) (hby : bytes ≤ 1000)
    {ops : Array Oper} {rest : List Oper} {o : Oper} {a : Act} {w : World} {Q : Exit → Act → World → Prop} (hgd : o.guard = none) (s x : Operand)
    (ho : o.op = .call { callee := .builtin .append, args := #[s, x], argTypes := #[ts, ts] }) (A : Option Addr) (c : Nat) (l : List α) (hs : a.eval s = .slice A l.length c) (B : Nat) (hown : S.Ow T w B A c l)
    (A1 : Option Addr) (c1 : Nat) (m : List α) (hx : a.eval x = .slice A1 m.length c1) (h1 : A1 = none → c1 = 0) (hM : S.Rd w A1 m) (hlen : l.length + m.length ≤ 1000000000) (hB : B ≤ w.heap.size)
    (h : ∀ A' c' w', S.Ow T w' B A' c' (l ++ m) → w.grownBy w' (A.map (·.block)) → (A'.map (·.block) = A.map (·.block) ∨ A'.map (·.block) = some w.heap.size) → wpList Try.prog ops Q rest (a.put o.dst (.slice A' (l.length + m.length) c')) w') :
    wpList Try.prog ops Q (o :: rest) a w :=
  wp_app_gen ht hinfo hzs S.pos hby hgd s x ho A l.length c (S.cs l) hs B hown A1 m.length c1 (S.cs m) hx h1 (S.cs_len m) (Row.toNews hM) (S.cs_ones m) hlen hB
    (fun A' c' w' q1 q2 q3 => h A' c' w' (by unfold Ow; rw [S.cs_app, List.length_append]; exact q1) q2 q3)
theorem step_app {ts bytes : Nat} {z : Value} (ht : Try.prog.underlying ts = some (.slice T)) (hinfo : (Try.prog.info? T).map (fun i => (i.zero, i.size, i.bytes)) = some (some z, S.n, bytes)) (hzs : z.cells.size = S.n) (hby : bytes ≤ 1000)
    {ops : Array Oper} {o : Oper} {a : Act} {w : World} {K : Act → World → Prop} {Q : Exit → Act → World → Prop} {E : Prop} (hgd : o.guard = none) (s x : Operand)
    (ho : o.op = .call { callee := .builtin .append, args := #[s, x], argTypes := #[ts, ts] }) (A : Option Addr) (c : Nat) (l : List α) (hs : a.eval s = .slice A l.length c) (B : Nat) (hown : S.Ow T w B A c l)
    (A1 : Option Addr) (c1 : Nat) (m : List α) (hx : a.eval x = .slice A1 m.length c1) (h1 : A1 = none → c1 = 0) (hM : S.Rd w A1 m) (hlen : l.length + m.length ≤ 1000000000) (hB : B ≤ w.heap.size)
    (h : ∀ A' c' w', S.Ow T w' B A' c' (l ++ m) → w.grownBy w' (A.map (·.block)) → (A'.map (·.block) = A.map (·.block) ∨ A'.map (·.block) = some w.heap.size) → K (a.put o.dst (.slice A' (l.length + m.length) c')) w') :
    if Region.wanted o (yielded ops a.tmps) = true then Oper.wp Try.prog o a w K Q else E :=
  step_app_gen ht hinfo hzs S.pos hby hgd s x ho A l.length c (S.cs l) hs B hown A1 m.length c1 (S.cs m) hx h1 (S.cs_len m) (Row.toNews hM) (S.cs_ones m) hlen hB
    (fun A' c' w' q1 q2 q3 => h A' c' w' (by unfold Ow; rw [S.cs_app, List.length_append]; exact q1) q2 q3)
/-- One element that was just built. -/
theorem Rd.new1 {w : World} {g : Nat} {x : α} {t : TypeId} {xs : Array Value} (h : At w g xs t) (hx : xs.toList = S.c x) : S.Rd w (some ⟨g, 0, none⟩) [x] := by
  refine .inr ⟨g, 0, rfl, fun k y hk j u hj => ?_⟩
  cases k with
  | zero =>
    simp at hk; subst hk
    rw [show 0 + 0 * S.n + j = j from by simp, h.cell]
    rw [← Array.getElem?_toList, hx]; exact hj
  | succ k => simp at hk
end Shp

end Go.Proofs.Ytgjoipndhlngnaa
