/-
  What is proved: what 'append' does to a row of numbers (colors, bytes) that the call owns. No conditions but a bound on the length.
-/
import Derived.Test.YtackojmckloacaaIo
import Derived.Deep.AppendLies
import Derived.Laws.OwnMore
import Derived.OwnWalk
namespace Go.Proofs.Ytackojmckloacaa
open Go.RowKit Go.Sort Go.Deep

/-- A row of numbers that a call owns. -/
def OwN (k : IntKind) (e : TypeId) (w : World) (B : Nat) (A : Option Addr) (c : Nat) (L : List Int) : Prop := w.ownsRow B e 1 (.slice A L.length c) L.length (L.map (Value.int k))
theorem OwN.nil (k : IntKind) (e : TypeId) (w : World) (B : Nat) : OwN k e w B none 0 [] := World.ownsRow_nil _ _ _ _
theorem OwN.addr {k : IntKind} {e : TypeId} {w : World} {B : Nat} {A : Option Addr} {c : Nat} {L : List Int} (h : OwN k e w B A c L) : (A = none ∧ c = 0 ∧ L = []) ∨ ∃ g, A = some ⟨g, 0, none⟩ ∧ B ≤ g ∧ g < w.heap.size := by
  rcases h.2 with ⟨h1, h2⟩ | ⟨g, cap, cur, h1, h2, h3, _⟩
  · left
    injection h1 with a b c'
    exact ⟨a, c', List.eq_nil_of_length_eq_zero h2⟩
  · right
    injection h1 with a b c'
    refine ⟨g, a, h2, ?_⟩
    rcases Nat.lt_or_ge g w.heap.size with hl | hl
    · exact hl
    · rw [Array.getElem?_eq_none hl] at h3; cases h3
theorem OwN.row {k : IntKind} {e : TypeId} {w : World} {B g c : Nat} {L : List Int} (h : OwN k e w B (some ⟨g, 0, none⟩) c L) : RowN k w g 0 L := fun i x hi => by
  obtain ⟨_, hl⟩ : x ∈ L ∧ i < L.length := by
    have hl : i < L.length := by
      rcases Nat.lt_or_ge i L.length with h' | h'
      · exact h'
      · rw [List.getElem?_eq_none h'] at hi; cases hi
    exact ⟨by rw [List.getElem?_eq_getElem hl] at hi; cases hi; exact List.getElem_mem hl, hl⟩
  have q := World.ownsRow.cellAt h i (by omega)
  rw [Nat.zero_add, q]
  simp [hi]
theorem OwN.grown {k : IntKind} {e : TypeId} {w w' : World} {B : Nat} {A : Option Addr} {c : Nat} {L : List Int} {row : Option Nat} (h : OwN k e w B A c L) (g : w.grownBy w' row) (hne : A = none ∨ A.map (·.block) ≠ row) : OwN k e w' B A c L :=
  World.ownsRow.kept h g (by rw [slice_block]; rcases hne with rfl | hne; exact .inl rfl; exact .inr hne)
theorem OwN.bl {k : IntKind} {e : TypeId} {w w' : World} {B : Nat} {A : Option Addr} {c : Nat} {L : List Int} (h : OwN k e w B A c L) (g : Bl w w') : OwN k e w' B A c L :=
  h.grown (g.byr none) (by cases A with | none => exact .inl rfl | some a => exact .inr (by simp))
theorem OwN.gr {k : IntKind} {e : TypeId} {w w' : World} {B : Nat} {A : Option Addr} {c : Nat} {L : List Int} (h : OwN k e w B A c L) (g : Gr w w') : OwN k e w' B A c L := h.bl g.bl
theorem OwN.lies {k : IntKind} {e : TypeId} {w : World} {B : Nat} {A : Option Addr} {c : Nat} {L : List Int} (h : OwN k e w B A c L) : A = none ∨ ∃ g, A = some ⟨g, 0, none⟩ ∧ B ≤ g ∧ g < w.heap.size := by
  rcases h.addr with ⟨h1, _⟩ | h1
  · exact .inl h1
  · exact .inr h1
/-- What append leaves: the row, where it lies, and what else has turned. -/
def ApdN (w w' : World) (A : Option Addr) : Prop := w.grownBy w' (A.map (·.block))
theorem ApdN.bl {k : IntKind} {e : TypeId} {w0 w w' : World} {A : Option Addr} {B c : Nat} {L : List Int} (g : ApdN w w' A) (h : Bl w0 w) (hA : OwN k e w B A c L) (hB : w0.heap.size ≤ B) : Bl w0 w' :=
  h.grown g (fun j hj => by
    rcases hA.lies with rfl | ⟨k', rfl, h1, _⟩
    · cases hj
    · simp at hj; omega)
/-- A block that lies below the row's base lies as it lay. -/
theorem ApdN.at {k : IntKind} {e : TypeId} {w w' : World} {A : Option Addr} {B c : Nat} {L : List Int} (g : ApdN w w' A) (hA : OwN k e w B A c L) {b : Nat} {cs : Array Value} {t : TypeId} (h : At w b cs t) (hb : b < B) : At w' b cs t :=
  h.kept g (by
    rcases hA.lies with rfl | ⟨k', rfl, h1, _⟩
    · simp
    · simp; omega)
theorem one_int (k : IntKind) (L : List Int) : ∀ u ∈ L.map (Value.int k), u.oneCell' = true := by
  intro u h; simp at h; obtain ⟨x, _, rfl⟩ := h; rfl
theorem rowN_add {k : IntKind} {w : World} {b off : Nat} {L : List Int} (h : RowN k w b off L) : ∀ (j : Nat) (u : Value), (L.map (Value.int k))[j]? = some u → w.cell? (Addr.add ⟨b, off, none⟩ j) = some u := by
  intro j u hj
  rw [List.getElem?_map] at hj
  cases hx : L[j]? with
  | none => rw [hx] at hj; cases hj
  | some x =>
    rw [hx] at hj; cases hj
    have hadd : (⟨b, off, none⟩ : Addr).add j = ⟨b, off + j, none⟩ := by unfold Addr.add; split <;> simp_all
    rw [hadd]; exact h j x hx

theorem infoBy : (Try.prog.info? 5).map (fun i => (i.zero, i.size, i.bytes)) = some (some (.int .u8 0), 1, 1) := by kernel_rfl

theorem wp_app_n {k : IntKind} {t e : TypeId} {z : Value} {bs : Nat} (ht : Try.prog.underlying t = some (.slice e)) (hinfo : (Try.prog.info? e).map (fun i => (i.zero, i.size, i.bytes)) = some (some z, 1, bs)) (hz : z.cells.size = 1) (hbs : bs ≤ 8)
    {ops : Array Oper} {rest : List Oper} {o : Oper} {a : Act} {w : World} {Q : Exit → Act → World → Prop} (hgd : o.guard = none) (s x : Operand)
    (ho : o.op = .call { callee := .builtin .append, args := #[s, x], argTypes := #[t, t] }) (A : Option Addr) (c : Nat) (L : List Int) (hs : a.eval s = .slice A L.length c) (B : Nat) (hown : OwN k e w B A c L)
    (g0 off : Nat) (M : List Int) (c0 : Nat) (hx : a.eval x = .slice (some ⟨g0, off, none⟩) M.length c0) (hM : RowN k w g0 off M) (hm : 0 < M.length) (hlen : L.length + M.length ≤ 1000000000000) (hB : B ≤ w.heap.size)
    (h : ∀ A' c' w', OwN k e w' B A' c' (L ++ M) → ApdN w w' A → (∃ g, A' = some ⟨g, 0, none⟩) → wpList Try.prog ops Q rest (a.put o.dst (.slice A' (L.length + M.length) c')) w') :
    wpList Try.prog ops Q (o :: rest) a w := by
  obtain ⟨i0, hi, hz0, hz1, hz2⟩ := info_parts hinfo
  have hbb : (L.length + M.length) * bs ≤ (L.length + M.length) * 8 := Nat.mul_le_mul_left _ hbs
  refine wpList_append_lies (P := Try.prog) w hgd s x t ho B e i0 z 1 bs ht hi hz0 hz1 hz2 hz (by decide) (.slice A L.length c) L.length (L.map (Value.int k)) hs hown
    ⟨g0, off, none⟩ M.length c0 (M.map (Value.int k)) hx (by simp) (rowN_add hM) (one_int _ _) hm (by unfold maxLen; omega) (by omega) hB w.heap.size rfl ?_
  intro g cap w' h1 h2 h3 h4
  refine h (some ⟨g, 0, none⟩) cap w' ?_ ?_ ⟨g, rfl⟩
  · unfold OwN; rw [List.map_append, List.length_append]; exact h1
  · rw [slice_block] at h2; exact h2
theorem row_one {k : IntKind} {w : World} {g : Nat} {x : Int} {t : TypeId} (h : At w g #[.int k x] t) : RowN k w g 0 [x] := fun i y hi => by
  cases i with
  | zero => simp at hi; subst hi; exact h.cell 0
  | succ i => simp at hi

end Go.Proofs.Ytackojmckloacaa
