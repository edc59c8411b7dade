/-
  What is proved: small words for memory; rows of signs as the document's package lays them; what 'append' does to such a row. No conditions but a bound on the length.
-/
import Derived.Test.YtcfckhelpnielaaGr
import Derived.Test.YtcfckhelpnielaaVa
import Derived.Deep.AppendLies
import Derived.Laws.OwnMore
import Derived.OwnWalk
import Derived.Lib.Hide
import Derived.LoopTactic
namespace Go.Proofs.Ytcfckhelpnielaa
open Go.RowKit Go.Sort

/-- What was there is as it was. -/
def Bl (w w' : World) : Prop := Below w.heap.size w w'
theorem Bl.refl (w : World) : Bl w w := Below.refl _ _
theorem Bl.trans {a b c : World} (h : Bl a b) (k : Bl b c) : Bl a c := Below.trans h (Below.mono k h.size)
theorem Gr.bl {a b : World} (h : Gr a b) : Bl a b := h.below
theorem Bl.alloc {a b : World} (h : Bl a b) (o : Obj) : Bl a (b.alloc o) := h.trans ((Gr.refl b).alloc o).bl
theorem Bl.drew {a b : World} (h : Bl a b) : Bl a b.drew := h.trans (Gr.refl b).drew.bl
theorem Bl.drewN {a b : World} (h : Bl a b) (n : Nat) : Bl a (b.drewN n) := h.trans ((Gr.refl b).drewN n).bl
theorem Bl.grow {a b : World} (h : Bl a b) (os : Array Obj) : Bl a (Go.Sort.grow b os) := h.trans ((Gr.refl b).grow os).bl
theorem Bl.gr {a b c : World} (h : Bl a b) (k : Gr b c) : Bl a c := h.trans k.bl
theorem Bl.setCell {a b : World} (h : Bl a b) {p : Addr} (hp : a.heap.size ≤ p.block) (u : Value) : Bl a (b.setCell p u) := Below.setCell h hp u
theorem Bl.size {a b : World} (h : Bl a b) : a.heap.size ≤ b.heap.size := Below.size h
theorem Bl.cell {a b : World} (h : Bl a b) {p : Addr} (hp : p.block < a.heap.size) : b.cell? p = a.cell? p := Below.cell h hp
theorem Bl.frozen {a b : World} (h : Bl a b) {p : Addr} (hp : p.block < a.heap.size) : b.frozen? p = a.frozen? p := Below.frozen h hp
theorem Bl.keep {a b : World} (h : Bl a b) {p : Addr} {v : Value} (hp : a.cell? p = some v) : b.cell? p = some v :=
  (h.cell (World.block_lt_of_cell? a p hp)).trans hp
theorem Bl.grown {a b c : World} {row : Option Nat} (h : Bl a b) (g : b.grownBy c row) (hr : ∀ k, row = some k → a.heap.size ≤ k) : Bl a c :=
  ⟨g.os.trans (Below.os h), g.tape.trans (Below.tape h), g.output.trans (Below.output h), Nat.le_trans h.size g.size,
    fun k hk => (g.block k (Nat.lt_of_lt_of_le hk h.size) (fun e => by have := hr k e.symm; omega)).trans (Below.block h k hk)⟩
theorem At.bl {w w' : World} {b : Nat} {cs : Array Value} {t : TypeId} (h : At w b cs t) (g : Bl w w') : At w' b cs t := by
  have := Below.block g b h.lt
  unfold At at *; rw [this]; exact h
theorem At.grown {w w' : World} {b : Nat} {cs : Array Value} {t : TypeId} {row : Option Nat} (h : At w b cs t) (g : w.grownBy w' row) (hne : some b ≠ row) : At w' b cs t := by
  have := g.block b h.lt hne
  unfold At at *; rw [this]; exact h

theorem list_at {α : Type} {l : List α} {k : Nat} (h : k < l.length) : ∃ x, l[k]? = some x := ⟨l[k], List.getElem?_eq_getElem h⟩

theorem own_cap {w : World} {B s n m c : Nat} {e : TypeId} {A : Option Addr} {xs : List Value} (h : w.ownsRow B e s (.slice A m c) n xs) (_hm : m = n) : n ≤ c := by
  rcases h.2 with ⟨h1, h2⟩ | ⟨g, cap, cur, h1, _, _, h4, _⟩
  · omega
  · injection h1 with a b c'; omega
theorem slice_block (A : Option Addr) (n c : Nat) : (Value.slice A n c).ownBlock = A.map (·.block) := by cases A <;> rfl
theorem Bl.by {w w' : World} (h : Bl w w') : w.grownBy w' none := ⟨Below.os h, Below.tape h, Below.output h, h.size, fun k hk _ => Below.block h k hk⟩
/-- What append leaves: the row, where it lies, and what else has turned. -/
def Apd (w w' : World) (A A' : Option Addr) : Prop := w.grownBy w' (A.map (·.block)) ∧ ((A.map (·.block)) = A'.map (·.block) ∨ A'.map (·.block) = some w.heap.size)
theorem Apd.bl {w0 w w' : World} {A A' : Option Addr} {B : Nat} (g : Apd w w' A A') (h : Bl w0 w) (hA : A = none ∨ ∃ k, A = some ⟨k, 0, none⟩ ∧ B ≤ k ∧ k < w.heap.size) (hB : w0.heap.size ≤ B) : Bl w0 w' :=
  h.grown g.1 (fun k hk => by
    rcases hA with rfl | ⟨k', rfl, h1, _⟩
    · cases hk
    · simp at hk; omega)

/-- A sign as it lies: its place, how many bytes, its number, whether it is broken. -/
structure Pl where
  p : Nat
  n : Nat
  r : Int
  bad : Bool
def c4s (x : Pl) : List Value := [.int .i64 x.p, .int .i64 x.n, .int .i64 x.r, .bool x.bad]
def cS : List Pl → List Value
  | [] => []
  | r :: l => c4s r ++ cS l
theorem cS_len : ∀ L : List Pl, (cS L).length = L.length * 4
  | [] => rfl
  | r :: l => by unfold cS; rw [List.length_append, cS_len l]; simp [c4s]; omega
theorem cS_app : ∀ L M : List Pl, cS (L ++ M) = cS L ++ cS M
  | [], M => rfl
  | r :: l, M => by show c4s r ++ cS (l ++ M) = (c4s r ++ cS l) ++ cS M; rw [cS_app l M, List.append_assoc]
theorem cS_get : ∀ (L : List Pl) (k : Nat) (r : Pl) (j : Nat), L[k]? = some r → j < 4 → (cS L)[k * 4 + j]? = (c4s r)[j]?
  | [], k, r, j, h, _ => by simp at h
  | r' :: l, 0, r, j, h, hj => by
    simp at h; subst h
    unfold cS
    rw [List.getElem?_append_left (by simp [c4s]; omega)]; simp
  | r' :: l, k + 1, r, j, h, hj => by
    unfold cS
    rw [List.getElem?_append_right (by simp [c4s]; omega)]
    rw [show (k + 1) * 4 + j - (c4s r').length = k * 4 + j from by simp [c4s]; omega]
    exact cS_get l k r j (by simpa using h) hj
theorem cS_one : ∀ (L : List Pl), ∀ u ∈ cS L, u.oneCell' = true
  | [], u, h => by simp [cS] at h
  | r :: l, u, h => by
    unfold cS at h
    rw [List.mem_append] at h
    rcases h with h | h
    · simp [c4s] at h; rcases h with h | h | h | h <;> subst h <;> rfl
    · exact cS_one l u h
/-- From cell off of block b on lie these signs. -/
def RowS (w : World) (b off : Nat) (L : List Pl) : Prop := ∀ k r, L[k]? = some r → w.cell? ⟨b, off + k * 4, none⟩ = some (.int .i64 r.p) ∧ w.cell? ⟨b, off + k * 4 + 1, none⟩ = some (.int .i64 r.n) ∧
  w.cell? ⟨b, off + k * 4 + 2, none⟩ = some (.int .i64 r.r) ∧ w.cell? ⟨b, off + k * 4 + 3, none⟩ = some (.bool r.bad)
def Ss (w : World) (A : Option Addr) (L : List Pl) : Prop := L = [] ∨ ∃ b off, A = some ⟨b, off, none⟩ ∧ RowS w b off L
theorem RowS.bl {w w' : World} {b off : Nat} {L : List Pl} (h : RowS w b off L) (g : Bl w w') : RowS w' b off L := fun k r hk => by
  obtain ⟨h1, h2, h3, h4⟩ := h k r hk
  exact ⟨g.keep h1, g.keep h2, g.keep h3, g.keep h4⟩
theorem Ss.bl {w w' : World} {A : Option Addr} {L : List Pl} (h : Ss w A L) (g : Bl w w') : Ss w' A L := by
  rcases h with h | ⟨b, off, h1, h2⟩
  · exact .inl h
  · exact .inr ⟨b, off, h1, h2.bl g⟩
theorem Ss.opened {w : World} {A : Option Addr} {L : List Pl} (h : Ss w A L) (hn : 0 < L.length) : ∃ b off, A = some ⟨b, off, none⟩ ∧ RowS w b off L := by
  rcases h with h | h
  · subst h; simp at hn
  · exact h
def OwS (w : World) (B : Nat) (A : Option Addr) (c : Nat) (L : List Pl) : Prop := w.ownsRow B 29 4 (.slice A L.length c) L.length (cS L)
theorem OwS.nil (w : World) (B : Nat) : OwS w B none 0 [] := World.ownsRow_nil _ _ _ _
theorem OwS.addr {w : World} {B : Nat} {A : Option Addr} {c : Nat} {L : List Pl} (h : OwS w B A c L) : (A = none ∧ c = 0 ∧ L = []) ∨ ∃ g, A = some ⟨g, 0, none⟩ ∧ B ≤ g ∧ g < w.heap.size := by
  rcases h.2 with ⟨h1, h2⟩ | ⟨g, cap, cur, h1, h2, h3, _⟩
  · left
    injection h1 with a b c'
    exact ⟨a, c', List.eq_nil_of_length_eq_zero h2⟩
  · right
    injection h1 with a b c'
    refine ⟨g, a, h2, ?_⟩
    rcases Nat.lt_or_ge g w.heap.size with hl | hl
    · exact hl
    · rw [Array.getElem?_eq_none hl] at h3; cases h3
theorem OwS.cap {w : World} {B : Nat} {A : Option Addr} {c : Nat} {L : List Pl} (h : OwS w B A c L) : L.length ≤ c := own_cap h rfl
theorem OwS.row {w : World} {B : Nat} {g c : Nat} {L : List Pl} (h : OwS w B (some ⟨g, 0, none⟩) c L) : RowS w g 0 L := fun k r hk => by
  have hl : k < L.length := by
    rcases Nat.lt_or_ge k L.length with h' | h'
    · exact h'
    · rw [List.getElem?_eq_none h'] at hk; cases hk
  have q := fun j (hj : j < 4) => (World.ownsRow.cellAt h (k * 4 + j) (by omega)).trans (cS_get L k r j hk hj)
  refine ⟨?_, ?_, ?_, ?_⟩
  · simpa [c4s] using q 0 (by omega)
  · simpa [c4s] using q 1 (by omega)
  · simpa [c4s] using q 2 (by omega)
  · simpa [c4s] using q 3 (by omega)
theorem OwS.ss {w : World} {B : Nat} {A : Option Addr} {c : Nat} {L : List Pl} (h : OwS w B A c L) : Ss w A L := by
  rcases h.addr with ⟨_, _, h'⟩ | ⟨g, rfl, _⟩
  · exact .inl h'
  · exact .inr ⟨g, 0, rfl, h.row⟩
theorem OwS.lies {w : World} {B : Nat} {A : Option Addr} {c : Nat} {L : List Pl} (h : OwS w B A c L) : A = none ∨ ∃ k, A = some ⟨k, 0, none⟩ ∧ B ≤ k ∧ k < w.heap.size := by
  rcases h.addr with ⟨h1, _⟩ | h1
  · exact .inl h1
  · exact .inr h1
theorem OwS.grown {w w' : World} {B : Nat} {A : Option Addr} {c : Nat} {L : List Pl} {row : Option Nat} (h : OwS w B A c L) (g : w.grownBy w' row) (hne : A = none ∨ A.map (·.block) ≠ row) : OwS w' B A c L :=
  World.ownsRow.kept h g (by rw [slice_block]; rcases hne with rfl | hne; exact .inl rfl; exact .inr hne)
theorem OwS.bl {w w' : World} {B : Nat} {A : Option Addr} {c : Nat} {L : List Pl} (h : OwS w B A c L) (g : Bl w w') : OwS w' B A c L :=
  h.grown g.by (by cases A with | none => exact .inl rfl | some a => exact .inr (by simp))
theorem infoS : (Try.prog.info? 29).map (fun i => (i.zero, i.size, i.bytes)) = some (some (.agg #[.int .i64 0, .int .i64 0, .int .i64 0, .bool false]), 4, 32) := by kernel_rfl

theorem wp_app_s {ops : Array Oper} {rest : List Oper} {o : Oper} {a : Act} {w : World} {Q : Exit → Act → World → Prop} (hgd : o.guard = none) (s x : Operand)
    (ho : o.op = .call { callee := .builtin .append, args := #[s, x], argTypes := #[23, 23] }) (A : Option Addr) (c : Nat) (L : List Pl) (hs : a.eval s = .slice A L.length c) (B : Nat) (hown : OwS w B A c L)
    (g0 : Nat) (r : Pl) (c0 : Nat) (hx : a.eval x = .slice (some ⟨g0, 0, none⟩) 1 c0) (hAt : At w g0 #[.int .i64 r.p, .int .i64 r.n, .int .i64 r.r, .bool r.bad] 29) (hlen : L.length ≤ 1000000000000) (hB : B ≤ w.heap.size)
    (h : ∀ A' c' w', OwS w' B A' c' (L ++ [r]) → Apd w w' A A' → wpList Try.prog ops Q rest (a.put o.dst (.slice A' (L.length + 1) c')) w') :
    wpList Try.prog ops Q (o :: rest) a w := by
  obtain ⟨i0, hi, hz0, hz1, hz2⟩ := info_parts infoS
  refine wpList_append_lies (P := Try.prog) w hgd s x 23 ho B 29 i0 _ 4 32 Try.underlying23 hi hz0 hz1 hz2 rfl (by decide) (.slice A L.length c) L.length (cS L) hs hown
    ⟨g0, 0, none⟩ 1 c0 (cS [r]) hx (by rw [cS_len]; rfl) (World.news_of_block hAt) (cS_one _) (by decide) (by unfold maxLen; omega) (by omega) hB w.heap.size rfl ?_
  intro g cap w' h1 h2 h3 h4
  refine h (some ⟨g, 0, none⟩) cap w' ?_ ⟨?_, ?_⟩
  · unfold OwS; rw [cS_app, List.length_append]; exact h1
  · rw [slice_block] at h2; exact h2
  · rw [slice_block] at h3
    rcases h3 with h3 | h3
    · exact .inl h3
    · right; show some g = _; rw [h3]

/-- The signs of a text as they lie. -/
def plc (l : List UInt8) (k : Nat) (x : Sg) : Pl := ⟨pos l k, x.bs.length, x.r, x.bad⟩
def pls (l : List UInt8) : List Pl := (sgs l).mapIdx (plc l)
theorem pls_len (l : List UInt8) : (pls l).length = (sgs l).length := by simp [pls]
theorem pls_at {l : List UInt8} {k : Nat} {x : Sg} (h : (sgs l)[k]? = some x) : (pls l)[k]? = some (plc l k x) := by simp [pls, h]
theorem pls_take {l : List UInt8} {k : Nat} {x : Sg} (h : (sgs l)[k]? = some x) : (pls l).take (k + 1) = (pls l).take k ++ [plc l k x] := by
  rw [List.take_add_one, pls_at h]; rfl

end Go.Proofs.Ytcfckhelpnielaa
