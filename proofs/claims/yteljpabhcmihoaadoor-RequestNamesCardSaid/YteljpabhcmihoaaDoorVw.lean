/-
  What is proved: small words for memory; rows of signs as the document's package lays them; what 'append' does to such a row. No conditions but a bound on the length.
-/
import Derived.Test.YteljpabhcmihoaaDoorOba
import Derived.Test.YteljpabhcmihoaaDoorVa
import Derived.Deep.AppendLies
import Derived.Laws.OwnMore
import Derived.OwnWalk
import Derived.Lib.Hide
import Derived.LoopTactic
namespace Go.Proofs.YteljpabhcmihoaaDoor
open Go.RowKit Go.Sort

/-- What append leaves: the row, where it lies, and what else has turned. -/
def Apd (w w' : World) (A A' : Option Addr) : Prop := w.grownBy w' (A.map (·.block)) ∧ ((A.map (·.block)) = A'.map (·.block) ∨ A'.map (·.block) = some w.heap.size)
theorem Apd.bl {w0 w w' : World} {A A' : Option Addr} {B : Nat} (g : Apd w w' A A') (h : Bl w0 w) (hA : A = none ∨ ∃ k, A = some ⟨k, 0, none⟩ ∧ B ≤ k ∧ k < w.heap.size) (hB : w0.heap.size ≤ B) : Bl w0 w' :=
  h.grown g.1 (fun k hk => by
    rcases hA with rfl | ⟨k', rfl, h1, _⟩
    · cases hk
    · simp at hk; omega)

/-- A sign as it lies: its place, how many bytes, its number, whether it is broken. -/
structure Pl where
  p : Nat
  n : Nat
  r : Int
  bad : Bool
def c4s (x : Pl) : List Value := [.int .i64 x.p, .int .i64 x.n, .int .i64 x.r, .bool x.bad]
def cS : List Pl → List Value
  | [] => []
  | r :: l => c4s r ++ cS l
theorem cS_len : ∀ L : List Pl, (cS L).length = L.length * 4
  | [] => rfl
  | r :: l => by unfold cS; rw [List.length_append, cS_len l]; simp [c4s]; omega
theorem cS_app : ∀ L M : List Pl, cS (L ++ M) = cS L ++ cS M
  | [], M => rfl
  | r :: l, M => by show c4s r ++ cS (l ++ M) = (c4s r ++ cS l) ++ cS M; rw [cS_app l M, List.append_assoc]
theorem cS_get : ∀ (L : List Pl) (k : Nat) (r : Pl) (j : Nat), L[k]? = some r → j < 4 → (cS L)[k * 4 + j]? = (c4s r)[j]?
  | [], k, r, j, h, _ => by simp at h
  | r' :: l, 0, r, j, h, hj => by
    simp at h; subst h
    unfold cS
    rw [List.getElem?_append_left (by simp [c4s]; omega)]; simp
  | r' :: l, k + 1, r, j, h, hj => by
    unfold cS
    rw [List.getElem?_append_right (by simp [c4s]; omega)]
    rw [show (k + 1) * 4 + j - (c4s r').length = k * 4 + j from by simp [c4s]; omega]
    exact cS_get l k r j (by simpa using h) hj
theorem cS_one : ∀ (L : List Pl), ∀ u ∈ cS L, u.oneCell' = true
  | [], u, h => by simp [cS] at h
  | r :: l, u, h => by
    unfold cS at h
    rw [List.mem_append] at h
    rcases h with h | h
    · simp [c4s] at h; rcases h with h | h | h | h <;> subst h <;> rfl
    · exact cS_one l u h
/-- From cell off of block b on lie these signs. -/
def RowS (w : World) (b off : Nat) (L : List Pl) : Prop := ∀ k r, L[k]? = some r → w.cell? ⟨b, off + k * 4, none⟩ = some (.int .i64 r.p) ∧ w.cell? ⟨b, off + k * 4 + 1, none⟩ = some (.int .i64 r.n) ∧
  w.cell? ⟨b, off + k * 4 + 2, none⟩ = some (.int .i64 r.r) ∧ w.cell? ⟨b, off + k * 4 + 3, none⟩ = some (.bool r.bad)
def Ss (w : World) (A : Option Addr) (L : List Pl) : Prop := L = [] ∨ ∃ b off, A = some ⟨b, off, none⟩ ∧ RowS w b off L
theorem RowS.bl {w w' : World} {b off : Nat} {L : List Pl} (h : RowS w b off L) (g : Bl w w') : RowS w' b off L := fun k r hk => by
  obtain ⟨h1, h2, h3, h4⟩ := h k r hk
  exact ⟨g.keep h1, g.keep h2, g.keep h3, g.keep h4⟩
theorem Ss.bl {w w' : World} {A : Option Addr} {L : List Pl} (h : Ss w A L) (g : Bl w w') : Ss w' A L := by
  rcases h with h | ⟨b, off, h1, h2⟩
  · exact .inl h
  · exact .inr ⟨b, off, h1, h2.bl g⟩
theorem Ss.opened {w : World} {A : Option Addr} {L : List Pl} (h : Ss w A L) (hn : 0 < L.length) : ∃ b off, A = some ⟨b, off, none⟩ ∧ RowS w b off L := by
  rcases h with h | h
  · subst h; simp at hn
  · exact h
def OwS (w : World) (B : Nat) (A : Option Addr) (c : Nat) (L : List Pl) : Prop := w.ownsRow B 99 4 (.slice A L.length c) L.length (cS L)
theorem OwS.nil (w : World) (B : Nat) : OwS w B none 0 [] := World.ownsRow_nil _ _ _ _
theorem OwS.addr {w : World} {B : Nat} {A : Option Addr} {c : Nat} {L : List Pl} (h : OwS w B A c L) : (A = none ∧ c = 0 ∧ L = []) ∨ ∃ g, A = some ⟨g, 0, none⟩ ∧ B ≤ g ∧ g < w.heap.size := by
  rcases h.2 with ⟨h1, h2⟩ | ⟨g, cap, cur, h1, h2, h3, _⟩
  · left
    injection h1 with a b c'
    exact ⟨a, c', List.eq_nil_of_length_eq_zero h2⟩
  · right
    injection h1 with a b c'
    refine ⟨g, a, h2, ?_⟩
    rcases Nat.lt_or_ge g w.heap.size with hl | hl
    · exact hl
    · rw [Array.getElem?_eq_none hl] at h3; cases h3
theorem OwS.cap {w : World} {B : Nat} {A : Option Addr} {c : Nat} {L : List Pl} (h : OwS w B A c L) : L.length ≤ c := own_cap h rfl
theorem OwS.row {w : World} {B : Nat} {g c : Nat} {L : List Pl} (h : OwS w B (some ⟨g, 0, none⟩) c L) : RowS w g 0 L := fun k r hk => by
  have hl : k < L.length := by
    rcases Nat.lt_or_ge k L.length with h' | h'
    · exact h'
    · rw [List.getElem?_eq_none h'] at hk; cases hk
  have q := fun j (hj : j < 4) => (World.ownsRow.cellAt h (k * 4 + j) (by omega)).trans (cS_get L k r j hk hj)
  refine ⟨?_, ?_, ?_, ?_⟩
  · simpa [c4s] using q 0 (by omega)
  · simpa [c4s] using q 1 (by omega)
  · simpa [c4s] using q 2 (by omega)
  · simpa [c4s] using q 3 (by omega)
theorem OwS.ss {w : World} {B : Nat} {A : Option Addr} {c : Nat} {L : List Pl} (h : OwS w B A c L) : Ss w A L := by
  rcases h.addr with ⟨_, _, h'⟩ | ⟨g, rfl, _⟩
  · exact .inl h'
  · exact .inr ⟨g, 0, rfl, h.row⟩
theorem OwS.lies {w : World} {B : Nat} {A : Option Addr} {c : Nat} {L : List Pl} (h : OwS w B A c L) : A = none ∨ ∃ k, A = some ⟨k, 0, none⟩ ∧ B ≤ k ∧ k < w.heap.size := by
  rcases h.addr with ⟨h1, _⟩ | h1
  · exact .inl h1
  · exact .inr h1
theorem OwS.grown {w w' : World} {B : Nat} {A : Option Addr} {c : Nat} {L : List Pl} {row : Option Nat} (h : OwS w B A c L) (g : w.grownBy w' row) (hne : A = none ∨ A.map (·.block) ≠ row) : OwS w' B A c L :=
  World.ownsRow.kept h g (by rw [slice_block]; rcases hne with rfl | hne; exact .inl rfl; exact .inr hne)
theorem OwS.bl {w w' : World} {B : Nat} {A : Option Addr} {c : Nat} {L : List Pl} (h : OwS w B A c L) (g : Bl w w') : OwS w' B A c L :=
  h.grown g.by (by cases A with | none => exact .inl rfl | some a => exact .inr (by simp))
theorem infoS : (Tryd.prog.info? 99).map (fun i => (i.zero, i.size, i.bytes)) = some (some (.agg #[.int .i64 0, .int .i64 0, .int .i64 0, .bool false]), 4, 32) := by kernel_rfl

theorem wp_app_sg {ops : Array Oper} {rest : List Oper} {o : Oper} {a : Act} {w : World} {Q : Exit → Act → World → Prop} (hgd : o.guard = none) (s x : Operand)
    (ho : o.op = .call { callee := .builtin .append, args := #[s, x], argTypes := #[96, 96] }) (A : Option Addr) (c : Nat) (L : List Pl) (hs : a.eval s = .slice A L.length c) (B : Nat) (hown : OwS w B A c L)
    (g0 : Nat) (r : Pl) (c0 : Nat) (hx : a.eval x = .slice (some ⟨g0, 0, none⟩) 1 c0) (hAt : At w g0 #[.int .i64 r.p, .int .i64 r.n, .int .i64 r.r, .bool r.bad] 99) (hlen : L.length ≤ 1000000000000) (hB : B ≤ w.heap.size)
    (h : ∀ A' c' w', OwS w' B A' c' (L ++ [r]) → Apd w w' A A' → wpList Tryd.prog ops Q rest (a.put o.dst (.slice A' (L.length + 1) c')) w') :
    wpList Tryd.prog ops Q (o :: rest) a w := by
  obtain ⟨i0, hi, hz0, hz1, hz2⟩ := info_parts infoS
  refine wpList_append_lies (P := Tryd.prog) w hgd s x 96 ho B 99 i0 _ 4 32 Tryd.underlying96 hi hz0 hz1 hz2 rfl (by decide) (.slice A L.length c) L.length (cS L) hs hown
    ⟨g0, 0, none⟩ 1 c0 (cS [r]) hx (by rw [cS_len]; rfl) (World.news_of_block hAt) (cS_one _) (by decide) (by unfold maxLen; omega) (by omega) hB w.heap.size rfl ?_
  intro g cap w' h1 h2 h3 h4
  refine h (some ⟨g, 0, none⟩) cap w' ?_ ⟨?_, ?_⟩
  · unfold OwS; rw [cS_app, List.length_append]; exact h1
  · rw [slice_block] at h2; exact h2
  · rw [slice_block] at h3
    rcases h3 with h3 | h3
    · exact .inl h3
    · right; show some g = _; rw [h3]

/-- The signs of a text as they lie. -/
def plc (l : List UInt8) (k : Nat) (x : Sg) : Pl := ⟨pos l k, x.bs.length, x.r, x.bad⟩
def pls (l : List UInt8) : List Pl := (sgs l).mapIdx (plc l)
theorem pls_len (l : List UInt8) : (pls l).length = (sgs l).length := by simp [pls]
theorem pls_at {l : List UInt8} {k : Nat} {x : Sg} (h : (sgs l)[k]? = some x) : (pls l)[k]? = some (plc l k x) := by simp [pls, h]
theorem pls_take {l : List UInt8} {k : Nat} {x : Sg} (h : (sgs l)[k]? = some x) : (pls l).take (k + 1) = (pls l).take k ++ [plc l k x] := by
  rw [List.take_add_one, pls_at h]; rfl

end Go.Proofs.YteljpabhcmihoaaDoor
