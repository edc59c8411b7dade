/-
  What is proved: rows of bytes that a call owns, and 'append' to them; an argument that is a row of bools; and that texts whose letters' case was turned have the same signs, small. No conditions.
-/
import Derived.Test.YtcfckhelpnielaaVz
import Derived.Deep.AppendLies
import Derived.Laws.OwnMore
import Derived.OwnWalk
import Derived.Carry
import Derived.Deep.Slices
import Derived.Deep.Fields
namespace Go.Proofs.Ytcfckhelpnielaa
open Go.ChangeShapes Go.WideShapes Go.ChangeAt Go.RowKit Go.Joins Go.Sort Go.Deep

/-- From cell off of block b on lie these numbers. -/
def RowN (k : IntKind) (w : World) (b off : Nat) (L : List Int) : Prop := ∀ i x, L[i]? = some x → w.cell? ⟨b, off + i, none⟩ = some (.int k x)
theorem RowN.bl {k : IntKind} {w w' : World} {b off : Nat} {L : List Int} (h : RowN k w b off L) (g : Bl w w') : RowN k w' b off L := fun i x hi => g.keep (h i x hi)
/-- From cell off of block b on lie these bools; a slice of that address reads so. -/
def RowO (w : World) (b off : Nat) (L : List Bool) : Prop := ∀ i x, L[i]? = some x → w.cell? ⟨b, off + i, none⟩ = some (.bool x)
def Bos (w : World) (A : Option Addr) (L : List Bool) : Prop := L = [] ∨ ∃ b off, A = some ⟨b, off, none⟩ ∧ RowO w b off L
theorem cellsBool : Try.prog.cellsOf 4 = 1 := by kernel_rfl
/-- A row of numbers that a call owns. -/
def OwN (k : IntKind) (e : TypeId) (w : World) (B : Nat) (A : Option Addr) (c : Nat) (L : List Int) : Prop := w.ownsRow B e 1 (.slice A L.length c) L.length (L.map (Value.int k))
theorem OwN.nil (k : IntKind) (e : TypeId) (w : World) (B : Nat) : OwN k e w B none 0 [] := World.ownsRow_nil _ _ _ _
theorem OwN.addr {k : IntKind} {e : TypeId} {w : World} {B : Nat} {A : Option Addr} {c : Nat} {L : List Int} (h : OwN k e w B A c L) : (A = none ∧ c = 0 ∧ L = []) ∨ ∃ g, A = some ⟨g, 0, none⟩ ∧ B ≤ g ∧ g < w.heap.size := by
  rcases h.2 with ⟨h1, h2⟩ | ⟨g, cap, cur, h1, h2, h3, _⟩
  · left
    injection h1 with a b c'
    exact ⟨a, c', List.eq_nil_of_length_eq_zero h2⟩
  · right
    injection h1 with a b c'
    refine ⟨g, a, h2, ?_⟩
    rcases Nat.lt_or_ge g w.heap.size with hl | hl
    · exact hl
    · rw [Array.getElem?_eq_none hl] at h3; cases h3
theorem OwN.row {k : IntKind} {e : TypeId} {w : World} {B g c : Nat} {L : List Int} (h : OwN k e w B (some ⟨g, 0, none⟩) c L) : RowN k w g 0 L := fun i x hi => by
  obtain ⟨_, hl⟩ : x ∈ L ∧ i < L.length := by
    have hl : i < L.length := by
      rcases Nat.lt_or_ge i L.length with h' | h'
      · exact h'
      · rw [List.getElem?_eq_none h'] at hi; cases hi
    exact ⟨by rw [List.getElem?_eq_getElem hl] at hi; cases hi; exact List.getElem_mem hl, hl⟩
  have q := World.ownsRow.cellAt h i (by omega)
  rw [Nat.zero_add, q]
  simp [hi]
theorem OwN.grown {k : IntKind} {e : TypeId} {w w' : World} {B : Nat} {A : Option Addr} {c : Nat} {L : List Int} {row : Option Nat} (h : OwN k e w B A c L) (g : w.grownBy w' row) (hne : A = none ∨ A.map (·.block) ≠ row) : OwN k e w' B A c L :=
  World.ownsRow.kept h g (by rw [slice_block]; rcases hne with rfl | hne; exact .inl rfl; exact .inr hne)
theorem OwN.bl {k : IntKind} {e : TypeId} {w w' : World} {B : Nat} {A : Option Addr} {c : Nat} {L : List Int} (h : OwN k e w B A c L) (g : Bl w w') : OwN k e w' B A c L :=
  h.grown g.by (by cases A with | none => exact .inl rfl | some a => exact .inr (by simp))
theorem OwN.gr {k : IntKind} {e : TypeId} {w w' : World} {B : Nat} {A : Option Addr} {c : Nat} {L : List Int} (h : OwN k e w B A c L) (g : Gr w w') : OwN k e w' B A c L := h.bl g.bl
theorem OwN.lies {k : IntKind} {e : TypeId} {w : World} {B : Nat} {A : Option Addr} {c : Nat} {L : List Int} (h : OwN k e w B A c L) : A = none ∨ ∃ g, A = some ⟨g, 0, none⟩ ∧ B ≤ g ∧ g < w.heap.size := by
  rcases h.addr with ⟨h1, _⟩ | h1
  · exact .inl h1
  · exact .inr h1
/-- What append leaves: the row, where it lies, and what else has turned. -/
def ApdN (w w' : World) (A : Option Addr) : Prop := w.grownBy w' (A.map (·.block))
theorem ApdN.bl {k : IntKind} {e : TypeId} {w0 w w' : World} {A : Option Addr} {B c : Nat} {L : List Int} (g : ApdN w w' A) (h : Bl w0 w) (hA : OwN k e w B A c L) (hB : w0.heap.size ≤ B) : Bl w0 w' :=
  h.grown g (fun j hj => by
    rcases hA.lies with rfl | ⟨k', rfl, h1, _⟩
    · cases hj
    · simp at hj; omega)
/-- A block that lies below the row's base lies as it lay. -/
theorem ApdN.at {k : IntKind} {e : TypeId} {w w' : World} {A : Option Addr} {B c : Nat} {L : List Int} (g : ApdN w w' A) (hA : OwN k e w B A c L) {b : Nat} {cs : Array Value} {t : TypeId} (h : At w b cs t) (hb : b < B) : At w' b cs t :=
  h.grown g (by
    rcases hA.lies with rfl | ⟨k', rfl, h1, _⟩
    · simp
    · simp; omega)
theorem one_int (k : IntKind) (L : List Int) : ∀ u ∈ L.map (Value.int k), u.oneCell' = true := by
  intro u h; simp at h; obtain ⟨x, _, rfl⟩ := h; rfl
theorem rowN_add {k : IntKind} {w : World} {b off : Nat} {L : List Int} (h : RowN k w b off L) : ∀ (j : Nat) (u : Value), (L.map (Value.int k))[j]? = some u → w.cell? (Addr.add ⟨b, off, none⟩ j) = some u := by
  intro j u hj
  rw [List.getElem?_map] at hj
  cases hx : L[j]? with
  | none => rw [hx] at hj; cases hj
  | some x =>
    rw [hx] at hj; cases hj
    have hadd : (⟨b, off, none⟩ : Addr).add j = ⟨b, off + j, none⟩ := by unfold Addr.add; split <;> simp_all
    rw [hadd]; exact h j x hx

theorem infoBy : (Try.prog.info? 5).map (fun i => (i.zero, i.size, i.bytes)) = some (some (.int .u8 0), 1, 1) := by kernel_rfl

theorem wp_app_n {k : IntKind} {t e : TypeId} {z : Value} {bs : Nat} (ht : Try.prog.underlying t = some (.slice e)) (hinfo : (Try.prog.info? e).map (fun i => (i.zero, i.size, i.bytes)) = some (some z, 1, bs)) (hz : z.cells.size = 1) (hbs : bs ≤ 8)
    {ops : Array Oper} {rest : List Oper} {o : Oper} {a : Act} {w : World} {Q : Exit → Act → World → Prop} (hgd : o.guard = none) (s x : Operand)
    (ho : o.op = .call { callee := .builtin .append, args := #[s, x], argTypes := #[t, t] }) (A : Option Addr) (c : Nat) (L : List Int) (hs : a.eval s = .slice A L.length c) (B : Nat) (hown : OwN k e w B A c L)
    (g0 off : Nat) (M : List Int) (c0 : Nat) (hx : a.eval x = .slice (some ⟨g0, off, none⟩) M.length c0) (hM : RowN k w g0 off M) (hm : 0 < M.length) (hlen : L.length + M.length ≤ 1000000000000) (hB : B ≤ w.heap.size)
    (h : ∀ A' c' w', OwN k e w' B A' c' (L ++ M) → ApdN w w' A → (∃ g, A' = some ⟨g, 0, none⟩) → wpList Try.prog ops Q rest (a.put o.dst (.slice A' (L.length + M.length) c')) w') :
    wpList Try.prog ops Q (o :: rest) a w := by
  obtain ⟨i0, hi, hz0, hz1, hz2⟩ := info_parts hinfo
  have hbb : (L.length + M.length) * bs ≤ (L.length + M.length) * 8 := Nat.mul_le_mul_left _ hbs
  refine wpList_append_lies (P := Try.prog) w hgd s x t ho B e i0 z 1 bs ht hi hz0 hz1 hz2 hz (by decide) (.slice A L.length c) L.length (L.map (Value.int k)) hs hown
    ⟨g0, off, none⟩ M.length c0 (M.map (Value.int k)) hx (by simp) (rowN_add hM) (one_int _ _) hm (by unfold maxLen; omega) (by omega) hB w.heap.size rfl ?_
  intro g cap w' h1 h2 h3 h4
  refine h (some ⟨g, 0, none⟩) cap w' ?_ ?_ ⟨g, rfl⟩
  · unfold OwN; rw [List.map_append, List.length_append]; exact h1
  · rw [slice_block] at h2; exact h2
theorem row_one {k : IntKind} {w : World} {g : Nat} {x : Int} {t : TypeId} (h : At w g #[.int k x] t) : RowN k w g 0 [x] := fun i y hi => by
  cases i with
  | zero => simp at hi; subst hi; exact h.cell 0
  | succ i => simp at hi

section
variable {H : Type} {enc : TypeId × Value → H} {w : World} {base : Nat} {spare : Nat → Bool} {held : Bool}
set_option maxRecDepth 100000 in
/-- The argument: a row of numbers that came in. -/
theorem open_bools {t e : TypeId} (ht : Try.prog.underlying t = some (.slice e)) (he : Try.prog.underlying e = some .bool) (hc1 : Try.prog.cellsOf e = 1) {v : Value} {dd : DataW H} {p : List MemPlace} {b0 : Nat} {r : Reach} (hv : Value.okWide Try.prog w r b0 t v) (h : DataW.Trod enc Try.prog w base spare held t v dd p) :
    ∃ (A : Option Addr) (cap : Nat) (L : List Bool), v = .slice A L.length cap ∧ L.length ≤ cap ∧ cap ≤ maxLen ∧ Bos w A L := by
  obtain ⟨a0, len0, cap0, rfl⟩ := okWide_slice ht hv
  obtain ⟨fuel, hf⟩ := h
  rcases open_slice ht hf with ⟨hc, _⟩ | ⟨a, len, cap, m, n, D, Pl, hc, _, hl, hm, hmm, _, hx⟩
  · simp [Value.cells] at hc
    obtain ⟨rfl, rfl, rfl⟩ := hc
    exact ⟨none, 0, [], rfl, Nat.zero_le _, Nat.zero_le _, .inl rfl⟩
  · simp [Value.cells] at hc
    obtain ⟨rfl, rfl, rfl⟩ := hc
    by_cases hz : len0 = 0
    · subst hz; exact ⟨_, _, [], rfl, Nat.zero_le _, hm, .inl rfl⟩
    · have hlm : len0 ≤ m := by rw [hmm]; split <;> omega
      have each : ∀ i, i < m → ∃ q : Bool, w.cell? (a.add i) = some (Value.bool q) := by
        intro i hi
        obtain ⟨cs', h1, h2⟩ := hx i hi
        rw [hc1] at h1
        obtain ⟨_, hlen, hcell⟩ := World.cells?_some h1
        obtain ⟨q, e0, _⟩ := DataW.trod_bool he h2
        refine ⟨q, ?_⟩
        have := hcell 0 (by omega)
        rw [add_add, e0] at this
        simpa using this
      obtain ⟨f, hfq⟩ := choose_lt each
      have h0 := hfq 0 (by omega)
      obtain ⟨b, off, spot⟩ := a
      cases spot with
      | some t =>
        simp [Addr.add, World.cell?] at h0
        exfalso
        split at h0 <;> cases h0
      | none =>
        have ad : ∀ i, (⟨b, off, none⟩ : Addr).add i = ⟨b, off + i, none⟩ := fun i => by unfold Addr.add; split <;> simp_all
        refine ⟨some ⟨b, off, none⟩, cap0, (List.range len0).map f, by simp, by simpa using hl, hm, .inr ⟨b, off, rfl, fun k r hk => ?_⟩⟩
        · have hkl : k < ((List.range len0).map f).length := by
            rcases Nat.lt_or_ge k ((List.range len0).map f).length with h' | h'
            · exact h'
            · rw [List.getElem?_eq_none h'] at hk; cases hk
          simp at hkl
          simp [hkl] at hk
          subst hk
          have hk' := hfq k (by omega)
          rwa [ad] at hk'
end

/-- A byte as it was, or a small letter made great. -/
def Tn (b c : UInt8) : Prop := c = b ∨ (97 ≤ b.toNat ∧ b.toNat ≤ 122 ∧ c.toNat = b.toNat - 32)
def Tns : List UInt8 → List UInt8 → Prop
  | [], [] => True
  | b :: l, c :: m => Tn b c ∧ Tns l m
  | _, _ => False
theorem Tns.len : ∀ {l m : List UInt8}, Tns l m → l.length = m.length
  | [], [], _ => rfl
  | _ :: l, _ :: m, h => by simp [Tns.len (l := l) (m := m) h.2]
theorem Tns.drop : ∀ {l m : List UInt8} (k : Nat), Tns l m → Tns (l.drop k) (m.drop k)
  | _, _, 0, h => h
  | [], [], k + 1, _ => by simp [Tns]
  | _ :: l, _ :: m, k + 1, h => Tns.drop (l := l) (m := m) k h.2
theorem Tns.snoc : ∀ {l m : List UInt8} {b c : UInt8}, Tns l m → Tn b c → Tns (l ++ [b]) (m ++ [c])
  | [], [], _, _, _, h => ⟨h, trivial⟩
  | _ :: l, _ :: m, _, _, h, k => ⟨h.1, Tns.snoc (l := l) (m := m) h.2 k⟩
def nrm (x : Nat) : Nat := if x / 64 = 2 then x else 0
theorem decodeN_nrm (n b x y z : Nat) : Lib.decodeN n b x y z = Lib.decodeN n b (nrm x) (nrm y) (nrm z) := by
  unfold nrm
  by_cases hx : x / 64 = 2 <;> by_cases hy : y / 64 = 2 <;> by_cases hz : z / 64 = 2 <;> simp [hx, hy, hz, Lib.decodeN]
theorem Tns.nb : ∀ {l m : List UInt8} (k : Nat), Tns l m → nrm (nb l k) = nrm (nb m k)
  | [], [], _, _ => rfl
  | b :: l, c :: m, 0, h => by
    rw [nb0, nb0]
    rcases h.1 with rfl | ⟨h1, h2, h3⟩
    · rfl
    · unfold nrm
      rw [if_neg (by omega), if_neg (by omega)]
  | _ :: l, _ :: m, k + 1, h => Tns.nb (l := l) (m := m) k h.2
theorem Tns.low : ∀ (n : Nat) {l m : List UInt8}, l.length ≤ n → Tns l m → lowN (sgs l) = lowN (sgs m)
  | 0, l, m, hn, h => by
    have : l = [] := List.eq_nil_of_length_eq_zero (by omega)
    subst this
    have h2 := h.len
    have : m = [] := List.eq_nil_of_length_eq_zero (by simpa using h2.symm)
    subst this
    rfl
  | n + 1, [], m, _, h => by
    have h2 := h.len
    have : m = [] := List.eq_nil_of_length_eq_zero (by simpa using h2.symm)
    subst this
    rfl
  | n + 1, b :: l, [], _, h => h.elim
  | n + 1, b :: l, c :: m, hn, h => by
    have hne : b :: l ≠ [] := by simp
    have hne2 : c :: m ≠ [] := by simp
    have hw := dcL_w hne
    have key : (dcL (b :: l)).2 = (dcL (c :: m)).2 ∧ lowZ ((dcL (b :: l)).1 : Int) = lowZ ((dcL (c :: m)).1 : Int) := by
      have hlen := h.len
      by_cases hb : b.toNat < 128
      · have hc : c.toNat < 128 := by rcases h.1 with rfl | ⟨_, _, h3⟩; exact hb; omega
        have e1 : dcL (b :: l) = (b.toNat, 1) := by unfold dcL; rw [nb0]; unfold Lib.decodeN; rw [if_pos hb]
        have e2 : dcL (c :: m) = (c.toNat, 1) := by unfold dcL; rw [nb0]; unfold Lib.decodeN; rw [if_pos hc]
        rw [e1, e2]
        refine ⟨rfl, ?_⟩
        rcases h.1 with h1 | ⟨h1, h2, h3⟩
        · rw [h1]
        · unfold lowZ btwB
          dsimp only
          rw [if_neg (by simp; omega), if_pos (by simp; omega)]
          omega
      · have hbc : c = b := by rcases h.1 with h1 | ⟨_, h2, _⟩; exact h1; omega
        subst hbc
        have e : dcL (c :: l) = dcL (c :: m) := by
          unfold dcL
          rw [hlen, nb0, nb0]
          refine (decodeN_nrm _ _ _ _ _).trans ?_
          rw [Tns.nb 1 h, Tns.nb 2 h, Tns.nb 3 h]
          exact (decodeN_nrm _ _ _ _ _).symm
        rw [e]
        exact ⟨rfl, rfl⟩
    rw [sgs_step hne, sgs_step hne2]
    show lowZ ((dcL (b :: l)).1 : Int) :: lowN _ = lowZ ((dcL (c :: m)).1 : Int) :: lowN _
    rw [key.2, Tns.low n (by rw [List.length_drop]; simp at hn ⊢; omega) (Tns.drop (dcL (b :: l)).2 h), key.1]

/-- A row of bytes made a text. -/
theorem convR {w : World} {B : Nat} {A : Option Addr} {c : Nat} {L : List UInt8} (h : OwN .u8 5 w B A c (L.map fun b => (b.toNat : Int))) {w' : World} (g : Bl w w') :
    (convert 37 9 (.slice A (L.map fun b => (b.toNat : Int)).length c)).run Try.prog w' = .ok (.string (bs L)) w' := by
  rcases h.addr with ⟨rfl, rfl, hL⟩ | ⟨k, rfl, _, _⟩
  · have hl : L = [] := by simpa using hL
    subst hl
    exact run_convert_bytes_nil w' 37 5 Try.underlying37 Try.underlying5 0 0 9 Try.underlying9
  · have hr := h.row.bl g
    have he : strOfNums (L.map fun b => (b.toNat : Int)) = bs L := by
      unfold strOfNums bs
      rw [List.map_map]
      have : ∀ b ∈ L, ((fun n : Int => UInt8.ofNat n.toNat) ∘ fun b : UInt8 => (b.toNat : Int)) b = b := fun b _ => by simp
      rw [List.map_congr_left this, List.map_id']
    rw [← he]
    refine run_convert_bytes_arg (P := Try.prog) w' 37 5 Try.underlying37 Try.underlying5 k 0 _ c _ rfl (fun i hi => ?_) 9 Try.underlying9
    obtain ⟨x, hx⟩ := list_at hi
    rw [hr i x hx, List.getD_eq_getElem?_getD, hx]; rfl

end Go.Proofs.Ytcfckhelpnielaa
