/-
  What is proved: what 'append' does to a row of numbers (colors, bytes) that the call owns. No conditions but a bound on the length. what the document's Fill hands back. what Solid of package image tells. plain mathematics of rows: what is filled row by row is what is filled point by point, and how many points that are. plain facts on the points of a list of rectangles, told one by one, and on a list of colors of which some are drawn over. No conditions. what a range over the points of rectangles comes to: the iterator of package paint. No conditions but bounds. what within of package paint hands back: the region of what rectangles have of a box. No conditions but bounds. what the calls of package rect, and of the document's answers, hand back. the document's example holds of the code (lives). what Meets and Covers hand back. the statement RectCuts: the points that both have are the document's. No conditions. what within of package paint hands back: the region of what rectangles have of a box. No conditions but bounds.
-/
import Derived.Test.YtablogiielclaaaGreatZz10
import Derived.Test.YtablogiielclaaaGreatZz8
import Derived.Test.YtablogiielclaaaGreatZz7
import Derived.Test.YtablogiielclaaaGreatZz1
import Derived.Test.YtablogiielclaaaGreatZz5
import Derived.Test.YtablogiielclaaaGreatZz9
import Derived.Deep.AppendLies
import Derived.Laws.OwnMore
import Derived.OwnWalk
import Derived.Laws.MakeOwn
import Derived.Deep.DrawnRows
namespace Go.Proofs.YtablogiielclaaaGreat
open Go.RowKit Go.Sort Go.Deep

/-- A row of numbers that a call owns. -/
def OwN (k : IntKind) (e : TypeId) (w : World) (B : Nat) (A : Option Addr) (c : Nat) (L : List Int) : Prop := w.ownsRow B e 1 (.slice A L.length c) L.length (L.map (Value.int k))
theorem OwN.nil (k : IntKind) (e : TypeId) (w : World) (B : Nat) : OwN k e w B none 0 [] := World.ownsRow_nil _ _ _ _
theorem OwN.addr {k : IntKind} {e : TypeId} {w : World} {B : Nat} {A : Option Addr} {c : Nat} {L : List Int} (h : OwN k e w B A c L) : (A = none ∧ c = 0 ∧ L = []) ∨ ∃ g, A = some ⟨g, 0, none⟩ ∧ B ≤ g ∧ g < w.heap.size := by
  rcases h.2 with ⟨h1, h2⟩ | ⟨g, cap, cur, h1, h2, h3, _⟩
  · left
    injection h1 with a b c'
    exact ⟨a, c', List.eq_nil_of_length_eq_zero h2⟩
  · right
    injection h1 with a b c'
    refine ⟨g, a, h2, ?_⟩
    rcases Nat.lt_or_ge g w.heap.size with hl | hl
    · exact hl
    · rw [Array.getElem?_eq_none hl] at h3; cases h3
theorem OwN.row {k : IntKind} {e : TypeId} {w : World} {B g c : Nat} {L : List Int} (h : OwN k e w B (some ⟨g, 0, none⟩) c L) : RowN k w g 0 L := fun i x hi => by
  obtain ⟨_, hl⟩ : x ∈ L ∧ i < L.length := by
    have hl : i < L.length := by
      rcases Nat.lt_or_ge i L.length with h' | h'
      · exact h'
      · rw [List.getElem?_eq_none h'] at hi; cases hi
    exact ⟨by rw [List.getElem?_eq_getElem hl] at hi; cases hi; exact List.getElem_mem hl, hl⟩
  have q := World.ownsRow.cellAt h i (by omega)
  rw [Nat.zero_add, q]
  simp [hi]
theorem OwN.grown {k : IntKind} {e : TypeId} {w w' : World} {B : Nat} {A : Option Addr} {c : Nat} {L : List Int} {row : Option Nat} (h : OwN k e w B A c L) (g : w.grownBy w' row) (hne : A = none ∨ A.map (·.block) ≠ row) : OwN k e w' B A c L :=
  World.ownsRow.kept h g (by rw [slice_block]; rcases hne with rfl | hne; exact .inl rfl; exact .inr hne)
theorem OwN.bl {k : IntKind} {e : TypeId} {w w' : World} {B : Nat} {A : Option Addr} {c : Nat} {L : List Int} (h : OwN k e w B A c L) (g : Bl w w') : OwN k e w' B A c L :=
  h.grown (g.byr none) (by cases A with | none => exact .inl rfl | some a => exact .inr (by simp))
theorem OwN.gr {k : IntKind} {e : TypeId} {w w' : World} {B : Nat} {A : Option Addr} {c : Nat} {L : List Int} (h : OwN k e w B A c L) (g : Gr w w') : OwN k e w' B A c L := h.bl g.bl
theorem OwN.lies {k : IntKind} {e : TypeId} {w : World} {B : Nat} {A : Option Addr} {c : Nat} {L : List Int} (h : OwN k e w B A c L) : A = none ∨ ∃ g, A = some ⟨g, 0, none⟩ ∧ B ≤ g ∧ g < w.heap.size := by
  rcases h.addr with ⟨h1, _⟩ | h1
  · exact .inl h1
  · exact .inr h1
/-- What append leaves: the row, where it lies, and what else has turned. -/
def ApdN (w w' : World) (A : Option Addr) : Prop := w.grownBy w' (A.map (·.block))
theorem ApdN.bl {k : IntKind} {e : TypeId} {w0 w w' : World} {A : Option Addr} {B c : Nat} {L : List Int} (g : ApdN w w' A) (h : Bl w0 w) (hA : OwN k e w B A c L) (hB : w0.heap.size ≤ B) : Bl w0 w' :=
  h.grown g (fun j hj => by
    rcases hA.lies with rfl | ⟨k', rfl, h1, _⟩
    · cases hj
    · simp at hj; omega)
/-- A block that lies below the row's base lies as it lay. -/
theorem ApdN.at {k : IntKind} {e : TypeId} {w w' : World} {A : Option Addr} {B c : Nat} {L : List Int} (g : ApdN w w' A) (hA : OwN k e w B A c L) {b : Nat} {cs : Array Value} {t : TypeId} (h : At w b cs t) (hb : b < B) : At w' b cs t :=
  h.kept g (by
    rcases hA.lies with rfl | ⟨k', rfl, h1, _⟩
    · simp
    · simp; omega)
theorem one_int (k : IntKind) (L : List Int) : ∀ u ∈ L.map (Value.int k), u.oneCell' = true := by
  intro u h; simp at h; obtain ⟨x, _, rfl⟩ := h; rfl
theorem rowN_add {k : IntKind} {w : World} {b off : Nat} {L : List Int} (h : RowN k w b off L) : ∀ (j : Nat) (u : Value), (L.map (Value.int k))[j]? = some u → w.cell? (Addr.add ⟨b, off, none⟩ j) = some u := by
  intro j u hj
  rw [List.getElem?_map] at hj
  cases hx : L[j]? with
  | none => rw [hx] at hj; cases hj
  | some x =>
    rw [hx] at hj; cases hj
    have hadd : (⟨b, off, none⟩ : Addr).add j = ⟨b, off + j, none⟩ := by unfold Addr.add; split <;> simp_all
    rw [hadd]; exact h j x hx

theorem infoBy : (Tryz.prog.info? 5).map (fun i => (i.zero, i.size, i.bytes)) = some (some (.int .u8 0), 1, 1) := by kernel_rfl

theorem wp_app_n {k : IntKind} {t e : TypeId} {z : Value} {bs : Nat} (ht : Tryz.prog.underlying t = some (.slice e)) (hinfo : (Tryz.prog.info? e).map (fun i => (i.zero, i.size, i.bytes)) = some (some z, 1, bs)) (hz : z.cells.size = 1) (hbs : bs ≤ 8)
    {ops : Array Oper} {rest : List Oper} {o : Oper} {a : Act} {w : World} {Q : Exit → Act → World → Prop} (hgd : o.guard = none) (s x : Operand)
    (ho : o.op = .call { callee := .builtin .append, args := #[s, x], argTypes := #[t, t] }) (A : Option Addr) (c : Nat) (L : List Int) (hs : a.eval s = .slice A L.length c) (B : Nat) (hown : OwN k e w B A c L)
    (g0 off : Nat) (M : List Int) (c0 : Nat) (hx : a.eval x = .slice (some ⟨g0, off, none⟩) M.length c0) (hM : RowN k w g0 off M) (hm : 0 < M.length) (hlen : L.length + M.length ≤ 1000000000000) (hB : B ≤ w.heap.size)
    (h : ∀ A' c' w', OwN k e w' B A' c' (L ++ M) → ApdN w w' A → (∃ g, A' = some ⟨g, 0, none⟩) → wpList Tryz.prog ops Q rest (a.put o.dst (.slice A' (L.length + M.length) c')) w') :
    wpList Tryz.prog ops Q (o :: rest) a w := by
  obtain ⟨i0, hi, hz0, hz1, hz2⟩ := info_parts hinfo
  have hbb : (L.length + M.length) * bs ≤ (L.length + M.length) * 8 := Nat.mul_le_mul_left _ hbs
  refine wpList_append_lies (P := Tryz.prog) w hgd s x t ho B e i0 z 1 bs ht hi hz0 hz1 hz2 hz (by decide) (.slice A L.length c) L.length (L.map (Value.int k)) hs hown
    ⟨g0, off, none⟩ M.length c0 (M.map (Value.int k)) hx (by simp) (rowN_add hM) (one_int _ _) hm (by unfold maxLen; omega) (by omega) hB w.heap.size rfl ?_
  intro g cap w' h1 h2 h3 h4
  refine h (some ⟨g, 0, none⟩) cap w' ?_ ?_ ⟨g, rfl⟩
  · unfold OwN; rw [List.map_append, List.length_append]; exact h1
  · rw [slice_block] at h2; exact h2
theorem row_one {k : IntKind} {w : World} {g : Nat} {x : Int} {t : TypeId} (h : At w g #[.int k x] t) : RowN k w g 0 [x] := fun i y hi => by
  cases i with
  | zero => simp at hi; subst hi; exact h.cell 0
  | succ i => simp at hi

end Go.Proofs.YtablogiielclaaaGreat
namespace Go.Proofs.YtablogiielclaaaGreat
open Go.RowKit Go.Sort Go.Deep

/-- f 0, .., f (k - 1). -/
def upto (f : Nat → Int) (k : Nat) : List Int := (List.range k).map f
theorem upto_succ (f : Nat → Int) (k : Nat) : upto f (k + 1) = upto f k ++ [f k] := by simp [upto, List.range_succ]
theorem upto_len (f : Nat → Int) (k : Nat) : (upto f k).length = k := by simp [upto]
theorem upto_get (f : Nat → Int) (k i : Nat) : (upto f k)[i]? = if i < k then some (f i) else none := by
  unfold upto
  rw [List.getElem?_map]
  by_cases h : i < k
  · rw [if_pos h, List.getElem?_range h]; rfl
  · rw [if_neg h, List.getElem?_eq_none (by simp; omega)]; rfl
/-- How many of the first k are so. -/
def cntI (p : Nat → Bool) (k : Nat) : Nat := ((List.range k).filter p).length
theorem cntI_succ (p : Nat → Bool) (k : Nat) : cntI p (k + 1) = cntI p k + if p k then 1 else 0 := by
  unfold cntI; rw [List.range_succ, List.filter_append, List.length_append]
  cases h : p k <;> simp [h]
theorem Gr.put3 {a w : World} (h : Gr a w) {k : Nat} (hk : a.heap.size ≤ k) (u0 u1 u2 : Value) : Gr a (((w.setCell ⟨k, 0, none⟩ u0).setCell ⟨k, 1, none⟩ u1).setCell ⟨k, 2, none⟩ u2) :=
  ((h.setCell (p := ⟨k, 0, none⟩) hk u0).setCell (p := ⟨k, 1, none⟩) hk u1).setCell (p := ⟨k, 2, none⟩) hk u2
theorem RowN.far {k : IntKind} {w : World} {b off : Nat} {L : List Int} (h : RowN k w b off L) {p : Addr} (hp : b ≠ p.block) (u : Value) : RowN k (w.setCell p u) b off L :=
  h.kept (by_set (by_refl w _) (p := p) u) (by simp; exact hp)
theorem RowN.far3 {k : IntKind} {w : World} {b off : Nat} {L : List Int} (h : RowN k w b off L) {c : Nat} (hp : b ≠ c) (u0 u1 u2 : Value) : RowN k (((w.setCell ⟨c, 0, none⟩ u0).setCell ⟨c, 1, none⟩ u1).setCell ⟨c, 2, none⟩ u2) b off L :=
  ((h.far (p := ⟨c, 0, none⟩) hp u0).far (p := ⟨c, 1, none⟩) hp u1).far (p := ⟨c, 2, none⟩) hp u2
theorem cntI_le (p : Nat → Bool) (k : Nat) : cntI p k ≤ k := by
  have := List.length_filter_le p (List.range k); rw [List.length_range] at this; exact this

end Go.Proofs.YtablogiielclaaaGreat
namespace Go.Proofs.YtablogiielclaaaGreat
open Go.RowKit Go.Sort Go.Shelf

attribute [local go_sem] Oper.semAt_some

/-- Whether all colors of these rows, from x0 up to x1, are solid. -/
def rowS (L : List Int) (p k : Nat) : Bool := ((L.drop p).take k).all fun c => pA c == 255
def allS (W x0 x1 : Nat) (L : List Int) (ys : List Nat) : Bool := ys.all fun y => rowS L (y * W + x0) (x1 - x0)
theorem rowS_succ {L : List Int} {p k : Nat} {c : Int} (h : L[p + k]? = some c) : rowS L p (k + 1) = (rowS L p k && (pA c == 255)) := by
  unfold rowS
  rw [List.take_add_one, List.getElem?_drop, h]
  simp
theorem rowS_part {L : List Int} {p k m : Nat} (h : k ≤ m) (hf : rowS L p k = false) : rowS L p m = false := by
  unfold rowS at *
  rw [show m = k + (m - k) by omega, List.take_add, List.all_append, hf]; rfl
theorem allS_snoc (W x0 x1 : Nat) (L : List Int) (ys : List Nat) (y : Nat) : allS W x0 x1 L (ys ++ [y]) = (allS W x0 x1 L ys && rowS L (y * W + x0) (x1 - x0)) := by simp [allS]
theorem allS_pre {W x0 x1 : Nat} {L : List Int} {ys zs : List Nat} (h : ys <+: zs) (hf : allS W x0 x1 L ys = false) : allS W x0 x1 L zs = false := by
  obtain ⟨t, rfl⟩ := h
  unfold allS at *
  rw [List.all_append, hf]; rfl

theorem Gr.keeps {w w' : World} (g : Gr w w') : KeepsOthers w w' := ⟨g.size, fun k _ hk _ => (g.below.block k (Array.getElem?_eq_some_iff.1 hk).1).trans hk⟩
theorem Gr.keep3 {w w' : World} (g : Gr w w') {p q r : Nat} (hp : p < w.heap.size) (hq : q < w.heap.size) (hr : r < w.heap.size) : Keep3 p q r w w' := ⟨g.below.block _ hp, g.below.block _ hq, g.below.block _ hr⟩
theorem ownSize {β : Type} (B n : Nat) : OwnFrom B (fun (_ : β) V => n ≤ V.heap.size) := fun _ _ _ _ hs hg _ => Nat.le_trans hs hg.size
theorem bl_of {w w' : World} (h : w.grownBy w' none) : Bl w w' := ⟨h.os, h.tape, h.output, h.size, fun k hk => h.block k hk (by simp)⟩

end Go.Proofs.YtablogiielclaaaGreat
namespace Go.Proofs.YtablogiielclaaaGreat
open Go.RowKit Go.Sort

/-- What a rectangle has of an image's box. -/
theorem cut_nat (a b c d : Int) (W H : Nat) : ∃ x0 y0 x1 y1 : Nat, cutR a b c d 0 0 W H = ⟨x0, y0, x1, y1⟩ ∧ x0 ≤ x1 ∧ (y0 < y1 → x0 < x1) ∧ x1 ≤ W ∧ y0 ≤ y1 ∧ y1 ≤ H ∧
    ∀ i j : Nat, i < W → j < H → hasB a b c d i j = decide (x0 ≤ i ∧ i < x1 ∧ y0 ≤ j ∧ j < y1) := by
  by_cases e : emptyB (max a 0) (max b 0) (min c W) (min d H) = true
  · refine ⟨0, 0, 0, 0, by unfold cutR; rw [if_pos e]; rfl, by omega, by omega, by omega, by omega, by omega, fun i j hi hj => ?_⟩
    simp [emptyB] at e
    rw [hasB, Bool.eq_iff_iff]
    simp
    omega
  · have e' := e
    simp [emptyB] at e'
    refine ⟨(max a 0).toNat, (max b 0).toNat, (min c W).toNat, (min d H).toNat, ?_, by omega, by omega, by omega, by omega, by omega, fun i j hi hj => ?_⟩
    · unfold cutR; rw [if_neg e]
      rw [show (((max a 0).toNat : Nat) : Int) = max a 0 by omega, show (((max b 0).toNat : Nat) : Int) = max b 0 by omega, show (((min c W).toNat : Nat) : Int) = min c W by omega, show (((min d H).toNat : Nat) : Int) = min d H by omega]
    · rw [hasB, Bool.eq_iff_iff]
      simp
      omega

/-- Row y, from x0 up to x1: which places these are. -/
theorem row_iff {W x0 x1 y i : Nat} (hx : x0 ≤ x1) (hw : x1 ≤ W) (h1 : 1 ≤ W) : (y * W + x0 ≤ i ∧ i < y * W + x0 + (x1 - x0)) ↔ (i / W = y ∧ x0 ≤ i % W ∧ i % W < x1) := by
  have hd := Nat.div_add_mod i W
  have hm := Nat.mod_lt i (show W > 0 by omega)
  rw [Nat.mul_comm] at hd
  constructor
  · rintro ⟨h, k⟩
    have e : i / W = y := by
      rw [Nat.div_eq_iff (by omega)]
      have := Nat.add_mul y 1 W
      omega
    rw [e] at hd
    omega
  · rintro ⟨rfl, h, k⟩
    omega
theorem fillR_get (W x0 x1 : Nat) (q : Int) (hx : x0 ≤ x1) (hw : x1 ≤ W) (h1 : 1 ≤ W) : ∀ (ys : List Nat) (L : List Int) (i : Nat), (fillR W x0 x1 q L ys)[i]? = if i < L.length ∧ x0 ≤ i % W ∧ i % W < x1 ∧ i / W ∈ ys then some q else L[i]?
  | [], L, i => by rw [if_neg (by simp)]; rfl
  | y :: ys, L, i => by
    show (fillR W x0 x1 q (putRun L (y * W + x0) (List.replicate (x1 - x0) q)) ys)[i]? = _
    rw [fillR_get W x0 x1 q hx hw h1 ys, putRun_len, putRun_get, List.length_replicate]
    have r := row_iff (y := y) (i := i) hx hw h1
    by_cases h : i < L.length ∧ x0 ≤ i % W ∧ i % W < x1 ∧ i / W ∈ ys
    · rw [if_pos h, if_pos ⟨h.1, h.2.1, h.2.2.1, List.mem_cons_of_mem _ h.2.2.2⟩]
    · rw [if_neg h]
      by_cases k : y * W + x0 ≤ i ∧ i < y * W + x0 + (x1 - x0) ∧ i < L.length
      · obtain ⟨k1, k2, k3⟩ := r.1 ⟨k.1, k.2.1⟩
        rw [if_pos k, if_pos ⟨k.2.2, k2, k3, by rw [k1]; exact List.mem_cons_self⟩, List.getElem?_replicate, if_pos (by omega)]
      · rw [if_neg k, if_neg]
        rintro ⟨l1, l2, l3, l4⟩
        rcases List.mem_cons.1 l4 with l | l
        · have := r.2 ⟨l, l2, l3⟩; omega
        · exact h ⟨l1, l2, l3, l⟩
theorem mem_range'' (y y0 y1 : Nat) (h : y0 ≤ y1) : y ∈ List.range' y0 (y1 - y0) ↔ y0 ≤ y ∧ y < y1 := by
  rw [List.mem_range'_1]; omega
/-- What is filled row by row is filled point by point. -/
theorem fill_eq {W H x0 x1 y0 y1 : Nat} {q : Int} {L : List Int} {p : Nat → Nat → Bool} (hl : L.length = W * H) (h1 : 1 ≤ W) (hx : x0 ≤ x1) (hw : x1 ≤ W) (hy : y0 ≤ y1)
    (hp : ∀ i j : Nat, i < W → j < H → p i j = decide (x0 ≤ i ∧ i < x1 ∧ y0 ≤ j ∧ j < y1)) :
    fillR W x0 x1 q L (List.range' y0 (y1 - y0)) = upto (fun i => if p (i % W) (i / W) = true then q else L.getD i 0) L.length := by
  apply List.ext_getElem?
  intro i
  rw [fillR_get W x0 x1 q hx hw h1, upto_get]
  by_cases hi : i < L.length
  · obtain ⟨d1, d2, _⟩ := div_of (k := i) (H := H) h1 (by omega)
    rw [if_pos hi, hp _ _ d1 d2]
    by_cases h : x0 ≤ i % W ∧ i % W < x1 ∧ y0 ≤ i / W ∧ i / W < y1
    · rw [if_pos ⟨hi, h.1, h.2.1, (mem_range'' _ _ _ hy).2 h.2.2⟩, if_pos (by simpa using h)]
    · rw [if_neg (fun k => h ⟨k.2.1, k.2.2.1, (mem_range'' _ _ _ hy).1 k.2.2.2⟩), if_neg (by simpa using h), List.getElem?_eq_getElem hi, List.getD, List.getElem?_eq_getElem hi]; rfl
  · rw [if_neg (fun k => hi k.1), if_neg hi, List.getElem?_eq_none (by omega)]

theorem cnt_rows {W x0 x1 y0 y1 H : Nat} {p : Nat → Nat → Bool} (h1 : 1 ≤ W) (hx : x0 ≤ x1) (hw : x1 ≤ W) (hy : y0 ≤ y1)
    (hp : ∀ i j : Nat, i < W → j < H → p i j = decide (x0 ≤ i ∧ i < x1 ∧ y0 ≤ j ∧ j < y1)) :
    ∀ j : Nat, j ≤ H → cntI (fun i => p (i % W) (i / W)) (j * W) = (min j y1 - y0) * (x1 - x0) := by
  intro j
  induction j with
  | zero => intro _; simp [cntI]
  | succ j ih =>
    intro hj
    have row : ∀ i, i ≤ W → cntI (fun i => p (i % W) (i / W)) (j * W + i) = (min j y1 - y0) * (x1 - x0) + if y0 ≤ j ∧ j < y1 then min i x1 - x0 else 0 := by
      intro i
      induction i with
      | zero => intro _; rw [Nat.add_zero, ih (by omega)]; split <;> simp
      | succ i ih2 =>
        intro hi
        rw [← Nat.add_assoc, cntI_succ, ih2 (by omega)]
        have e1 : (j * W + i) % W = i := by rw [Nat.mul_comm, Nat.mul_add_mod]; exact Nat.mod_eq_of_lt (by omega)
        have e2 : (j * W + i) / W = j := by rw [Nat.mul_comm, Nat.mul_add_div (by omega), Nat.div_eq_of_lt (by omega), Nat.add_zero]
        rw [e1, e2, hp i j (by omega) (by omega)]
        by_cases h : y0 ≤ j ∧ j < y1
        · rw [if_pos h, if_pos h]
          by_cases k : x0 ≤ i ∧ i < x1
          · rw [if_pos (by simp; omega)]; omega
          · rw [if_neg (by simp; omega)]; omega
        · rw [if_neg h, if_neg h, if_neg (by simp; omega)]
    rw [Nat.add_mul, Nat.one_mul, row W (Nat.le_refl _)]
    by_cases h : y0 ≤ j ∧ j < y1
    · rw [if_pos h, show min (j + 1) y1 - y0 = (min j y1 - y0) + 1 by omega, Nat.add_mul]; omega
    · rw [if_neg h, show min (j + 1) y1 - y0 = min j y1 - y0 by omega]; omega
theorem cnt_area {W H x0 x1 y0 y1 : Nat} {p : Nat → Nat → Bool} (h1 : 1 ≤ W) (hx : x0 ≤ x1) (hw : x1 ≤ W) (hy : y0 ≤ y1) (hh : y1 ≤ H)
    (hp : ∀ i j : Nat, i < W → j < H → p i j = decide (x0 ≤ i ∧ i < x1 ∧ y0 ≤ j ∧ j < y1)) :
    ((cntI (fun i => p (i % W) (i / W)) (W * H) : Nat) : Int) = areaI x0 y0 x1 y1 := by
  rw [Nat.mul_comm, cnt_rows h1 hx hw hy hp H (Nat.le_refl _), show min H y1 = y1 by omega]
  unfold areaI
  rw [Int.natCast_mul, Int.mul_comm, Int.natCast_sub hx, Int.natCast_sub hy]

/-- Whether all of a rectangle's points are solid, point by point. -/
theorem rowS_iff (L : List Int) (p k : Nat) : rowS L p k = true ↔ ∀ i, p ≤ i → i < p + k → ∀ c, L[i]? = some c → pA c = 255 := by
  unfold rowS
  rw [List.all_eq_true]
  constructor
  · intro h i h1 h2 c hc
    have : c ∈ (L.drop p).take k := by
      apply List.mem_of_getElem? (i := i - p)
      rw [List.getElem?_take, if_pos (by omega), List.getElem?_drop, show p + (i - p) = i by omega, hc]
    simpa using h c this
  · intro h c hc
    obtain ⟨i, hi⟩ := List.getElem?_of_mem hc
    rw [List.getElem?_take] at hi
    split at hi
    · rename_i hk
      rw [List.getElem?_drop] at hi
      simpa using h (p + i) (by omega) (by omega) c hi
    · cases hi
theorem allS_iff {W H x0 x1 y0 y1 : Nat} {L : List Int} (_hl : L.length = W * H) (h1 : 1 ≤ W) (hx : x0 ≤ x1) (hw : x1 ≤ W) (hy : y0 ≤ y1) :
    allS W x0 x1 L (List.range' y0 (y1 - y0)) = true ↔ ∀ i c, L[i]? = some c → (x0 ≤ i % W ∧ i % W < x1 ∧ y0 ≤ i / W ∧ i / W < y1) → pA c = 255 := by
  unfold allS
  rw [List.all_eq_true]
  constructor
  · intro h i c hc ⟨k1, k2, k3, k4⟩
    have r := (row_iff (y := i / W) (i := i) hx hw h1).2 ⟨rfl, k1, k2⟩
    exact (rowS_iff _ _ _).1 (h (i / W) ((mem_range'' _ _ _ hy).2 ⟨k3, k4⟩)) i r.1 r.2 c hc
  · intro h y hy'
    rw [mem_range'' _ _ _ hy] at hy'
    rw [rowS_iff]
    intro i k1 k2 c hc
    obtain ⟨r1, r2, r3⟩ := (row_iff (y := y) (i := i) hx hw h1).1 ⟨k1, k2⟩
    exact h i c hc ⟨r2, r3, by omega, by omega⟩

end Go.Proofs.YtablogiielclaaaGreat
namespace Go.Proofs.YtablogiielclaaaGreat
open Go.RowKit Go.Sort

/-- n points from a on, in row y; ny such rows; all points of rectangles. -/
def rowP (a : Int) (n : Nat) (y : Int) : List (Int × Int) := (List.range n).map fun (i : Nat) => (a + (i : Int), y)
def rectP (a b : Int) (nx ny : Nat) : List (Int × Int) := (List.range ny).flatMap fun (j : Nat) => rowP a nx (b + (j : Int))
def nX (r : Rc) : Nat := (r.c - r.a).toNat
def nY (r : Rc) : Nat := (r.d - r.b).toNat
def ptsL (R : List Rc) : List (Int × Int) := R.flatMap fun r => rectP r.a r.b (nX r) (nY r)
theorem rowP_succ (a : Int) (n : Nat) (y : Int) : rowP a (n + 1) y = rowP a n y ++ [(a + (n : Int), y)] := by simp [rowP, List.range_succ]
theorem rectP_succ (a b : Int) (nx ny : Nat) : rectP a b nx (ny + 1) = rectP a b nx ny ++ rowP a nx (b + (ny : Int)) := by simp [rectP, List.range_succ]
theorem ptsL_succ {R : List Rc} {k : Nat} {r : Rc} (h : R[k]? = some r) : ptsL (R.take (k + 1)) = ptsL (R.take k) ++ rectP r.a r.b (nX r) (nY r) := by
  rw [List.take_add_one, h]; simp [ptsL]
theorem rowP_mem {a : Int} {n : Nat} {y : Int} {p : Int × Int} : p ∈ rowP a n y ↔ a ≤ p.1 ∧ p.1 < a + (n : Int) ∧ p.2 = y := by
  unfold rowP
  rw [List.mem_map]
  constructor
  · rintro ⟨i, hi, rfl⟩
    rw [List.mem_range] at hi
    simp; omega
  · rintro ⟨h1, h2, h3⟩
    refine ⟨(p.1 - a).toNat, by rw [List.mem_range]; omega, ?_⟩
    obtain ⟨p1, p2⟩ := p
    simp at *
    omega
theorem rectP_mem {a b : Int} {nx ny : Nat} {p : Int × Int} : p ∈ rectP a b nx ny ↔ a ≤ p.1 ∧ p.1 < a + (nx : Int) ∧ b ≤ p.2 ∧ p.2 < b + (ny : Int) := by
  unfold rectP
  rw [List.mem_flatMap]
  constructor
  · rintro ⟨j, hj, h⟩
    rw [List.mem_range] at hj
    rw [rowP_mem] at h
    omega
  · rintro ⟨h1, h2, h3, h4⟩
    refine ⟨(p.2 - b).toNat, by rw [List.mem_range]; omega, ?_⟩
    rw [rowP_mem]; omega
theorem ptsL_mem {R : List Rc} {p : Int × Int} : p ∈ ptsL R ↔ hasL R p.1 p.2 = true := by
  unfold ptsL hasL
  rw [List.mem_flatMap, List.any_eq_true]
  constructor
  · rintro ⟨r, hr, h⟩
    rw [rectP_mem] at h
    refine ⟨r, hr, ?_⟩
    unfold nX nY at h; unfold hasB; simp; omega
  · rintro ⟨r, hr, h⟩
    refine ⟨r, hr, ?_⟩
    rw [rectP_mem]
    unfold hasB at h; simp at h; unfold nX nY; omega
theorem rowP_nodup (a : Int) (n : Nat) (y : Int) : (rowP a n y).Nodup := by
  unfold rowP
  refine List.Pairwise.map _ ?_ (List.nodup_range (n := n))
  intro i j h e
  injection e with e1 e2
  omega
theorem rectP_nodup (a b : Int) (nx : Nat) : ∀ ny, (rectP a b nx ny).Nodup
  | 0 => by simp [rectP]
  | ny + 1 => by
    rw [rectP_succ, List.nodup_append]
    refine ⟨rectP_nodup a b nx ny, rowP_nodup _ _ _, ?_⟩
    intro p hp q hq e
    subst e
    rw [rectP_mem] at hp; rw [rowP_mem] at hq
    omega
theorem ptsL_nodup : ∀ {R : List Rc}, Apart R → (ptsL R).Nodup
  | [], _ => by simp [ptsL]
  | r :: l, h => by
    obtain ⟨h1, h2⟩ := List.pairwise_cons.1 h
    show (rectP r.a r.b (nX r) (nY r) ++ ptsL l).Nodup
    rw [List.nodup_append]
    refine ⟨rectP_nodup _ _ _ _, ptsL_nodup h2, ?_⟩
    intro p hp q hq e
    subst e
    rw [rectP_mem] at hp; rw [ptsL_mem] at hq
    unfold hasL at hq
    rw [List.any_eq_true] at hq
    obtain ⟨s, hs, hq⟩ := hq
    refine h1 s hs p.1 p.2 ⟨?_, hq⟩
    unfold nX nY at hp; unfold hasB; simp; omega
theorem reg_nodup {R : List Rc} (h : IsReg R) : (ptsL R).Nodup := by
  obtain ⟨B, hB, rfl⟩ := h
  exact ptsL_nodup (rects_apart hB.toWk)
theorem rowP_len (a : Int) (n : Nat) (y : Int) : (rowP a n y).length = n := by simp [rowP]
theorem rectP_len (a b : Int) (nx : Nat) : ∀ ny, (rectP a b nx ny).length = ny * nx
  | 0 => by simp [rectP]
  | ny + 1 => by rw [rectP_succ, List.length_append, rectP_len a b nx ny, rowP_len, Nat.add_mul, Nat.one_mul]

/-- The place of a point in a list of rows of W. -/
def ixP (W : Nat) (p : Int × Int) : Nat := (p.2 * W + p.1).toNat
theorem ixP_nat (W i j : Nat) : ixP W ((i : Int), (j : Int)) = j * W + i := by
  unfold ixP
  have : ((j : Int) * (W : Int) + (i : Int)) = ((j * W + i : Nat) : Int) := by rw [Int.natCast_add, Int.natCast_mul]
  simp only [this, Int.toNat_natCast]
/-- Values put in at points, one by one, each of what stands there. -/
def drawP (W : Nat) (f : Int × Int → Int → Int) (L : List Int) (ps : List (Int × Int)) : List Int := ps.foldl (fun L p => L.set (ixP W p) (f p (L.getD (ixP W p) 0))) L
theorem drawP_snoc (W : Nat) (f : Int × Int → Int → Int) (L : List Int) (ps : List (Int × Int)) (p : Int × Int) : drawP W f L (ps ++ [p]) = (drawP W f L ps).set (ixP W p) (f p ((drawP W f L ps).getD (ixP W p) 0)) := by simp [drawP]
theorem drawP_len (W : Nat) (f : Int × Int → Int → Int) : ∀ (ps : List (Int × Int)) (L : List Int), (drawP W f L ps).length = L.length
  | [], _ => rfl
  | p :: ps, L => by
    show (drawP W f (L.set _ _) ps).length = _
    rw [drawP_len W f ps]; simp
/-- A point of an image of W by H. -/
def InP (W H : Nat) (p : Int × Int) : Prop := 0 ≤ p.1 ∧ p.1 < (W : Int) ∧ 0 ≤ p.2 ∧ p.2 < (H : Int)
theorem InP.nat {W H : Nat} {p : Int × Int} (h : InP W H p) : ∃ i j : Nat, p = ((i : Int), (j : Int)) ∧ i < W ∧ j < H := by
  obtain ⟨h1, h2, h3, h4⟩ := h
  refine ⟨p.1.toNat, p.2.toNat, ?_, by omega, by omega⟩
  obtain ⟨a, b⟩ := p
  simp at *; omega
theorem ixP_inj {W H : Nat} {p q : Int × Int} (hp : InP W H p) (hq : InP W H q) (h : ixP W p = ixP W q) : p = q := by
  obtain ⟨i, j, rfl, h1, h2⟩ := hp.nat
  obtain ⟨i', j', rfl, h3, h4⟩ := hq.nat
  rw [ixP_nat, ixP_nat] at h
  have e1 : (j * W + i) % W = i := by rw [Nat.mul_comm, Nat.mul_add_mod]; exact Nat.mod_eq_of_lt h1
  have e2 : (j' * W + i') % W = i' := by rw [Nat.mul_comm, Nat.mul_add_mod]; exact Nat.mod_eq_of_lt h3
  rw [h] at e1
  have e3 : i = i' := by omega
  subst e3
  have e4 : j * W = j' * W := by omega
  have e5 : j = j' := Nat.eq_of_mul_eq_mul_right (by omega) e4
  rw [e5]
theorem drawP_get (W H : Nat) (f : Int × Int → Int → Int) : ∀ (ps : List (Int × Int)) (L : List Int), (∀ p ∈ ps, InP W H p) → ps.Nodup → ∀ p, InP W H p →
    (drawP W f L ps)[ixP W p]? = if p ∈ ps then L[ixP W p]?.map (f p) else L[ixP W p]?
  | [], L, _, _, p, _ => by simp [drawP]
  | q :: ps, L, hi, hn, p, hp => by
    show (drawP W f (L.set (ixP W q) (f q (L.getD (ixP W q) 0))) ps)[ixP W p]? = _
    obtain ⟨n1, n2⟩ := List.nodup_cons.1 hn
    rw [drawP_get W H f ps _ (fun r hr => hi r (by simp [hr])) n2 p hp, List.getElem?_set]
    by_cases hpq : q = p
    · subst hpq
      rw [if_neg n1, if_pos rfl, if_pos (show q ∈ q :: ps from List.mem_cons_self)]
      by_cases hl : ixP W q < L.length
      · rw [if_pos hl, List.getElem?_eq_getElem hl]; simp [List.getD, List.getElem?_eq_getElem hl]
      · rw [if_neg hl, List.getElem?_eq_none (by omega)]; rfl
    · have hne : ¬ ixP W q = ixP W p := fun e => hpq (ixP_inj (hi q (by simp)) hp e)
      rw [if_neg hne]
      have : (p ∈ q :: ps) ↔ p ∈ ps := by
        rw [List.mem_cons]
        exact ⟨fun h => h.elim (fun e => absurd e.symm hpq) id, .inr⟩
      by_cases hm : p ∈ ps
      · rw [if_pos hm, if_pos (this.2 hm)]
      · rw [if_neg hm, if_neg (fun h => hm (this.1 h))]

/-- As many places as are so, told once each. -/
theorem nodup_count {n : Nat} (p : Nat → Bool) : ∀ (l : List Nat), l.Nodup → (∀ i, i ∈ l ↔ i < n ∧ p i = true) → l.length = cntI p n := by
  intro l hn hm
  have hperm : l.Perm ((List.range n).filter p) := by
    rw [List.perm_iff_count]
    intro a
    have nd : ((List.range n).filter p).Nodup := List.Pairwise.filter _ (List.nodup_range (n := n))
    rw [hn.count, nd.count]
    have : a ∈ l ↔ a ∈ (List.range n).filter p := by rw [hm, List.mem_filter, List.mem_range]
    by_cases h : a ∈ l
    · rw [if_pos h, if_pos (this.1 h)]
    · rw [if_neg h, if_neg (fun k => h (this.2 k))]
  exact hperm.length_eq
theorem pts_count {W H : Nat} (hW : 1 ≤ W) {ps : List (Int × Int)} (hn : ps.Nodup) (hi : ∀ p ∈ ps, InP W H p) (P : Nat → Nat → Bool) (hP : ∀ i j : Nat, i < W → j < H → (((i : Int), (j : Int)) ∈ ps ↔ P i j = true)) :
    ps.length = cntI (fun k => P (k % W) (k / W)) (W * H) := by
  rw [← List.length_map (f := ixP W)]
  refine nodup_count _ _ ?_ ?_
  · rw [List.Nodup, List.pairwise_map]
    refine List.Pairwise.imp_of_mem ?_ hn
    intro a b ha hb hab e
    exact hab (ixP_inj (hi a ha) (hi b hb) e)
  · intro k
    rw [List.mem_map]
    constructor
    · rintro ⟨p, hp, rfl⟩
      obtain ⟨i, j, rfl, h1, h2⟩ := (hi p hp).nat
      rw [ixP_nat]
      have e1 : (j * W + i) % W = i := by rw [Nat.mul_comm, Nat.mul_add_mod]; exact Nat.mod_eq_of_lt h1
      have e2 : (j * W + i) / W = j := by rw [Nat.mul_comm, Nat.mul_add_div (by omega), Nat.div_eq_of_lt h1, Nat.add_zero]
      refine ⟨row_of h1 h2, ?_⟩
      rw [e1, e2]
      exact (hP i j h1 h2).1 hp
    · rintro ⟨hk, hp⟩
      obtain ⟨d1, d2, d3⟩ := div_of hW hk
      exact ⟨((k % W : Nat), (k / W : Nat)), (hP _ _ d1 d2).2 hp, by rw [ixP_nat, d3]⟩
/-- What is drawn, place by place. -/
theorem drawP_upto {W H : Nat} (hW : 1 ≤ W) {ps : List (Int × Int)} {L : List Int} (hl : L.length = W * H) (hn : ps.Nodup) (hi : ∀ p ∈ ps, InP W H p) (f : Int × Int → Int → Int) (P : Nat → Nat → Bool) (hP : ∀ i j : Nat, i < W → j < H → (((i : Int), (j : Int)) ∈ ps ↔ P i j = true)) :
    drawP W f L ps = upto (fun k => if P (k % W) (k / W) then f ((k % W : Nat), (k / W : Nat)) (L.getD k 0) else L.getD k 0) L.length := by
  apply List.ext_getElem?
  intro k
  rw [upto_get]
  by_cases hk : k < L.length
  · rw [if_pos hk]
    obtain ⟨d1, d2, d3⟩ := div_of hW (by rw [← hl]; exact hk)
    have := drawP_get W H f ps L hi hn ((k % W : Nat), (k / W : Nat)) ⟨Int.natCast_nonneg _, Int.ofNat_lt.2 d1, Int.natCast_nonneg _, Int.ofNat_lt.2 d2⟩
    rw [ixP_nat, d3] at this
    rw [this, List.getElem?_eq_getElem hk]
    have hg : L.getD k 0 = L[k] := by simp [List.getD, List.getElem?_eq_getElem hk]
    rw [hg]
    by_cases hm : (((k % W : Nat) : Int), ((k / W : Nat) : Int)) ∈ ps
    · rw [if_pos hm, if_pos ((hP _ _ d1 d2).1 hm)]; rfl
    · rw [if_neg hm, if_neg (fun h => hm ((hP _ _ d1 d2).2 h))]
  · rw [if_neg hk, List.getElem?_eq_none (by rw [drawP_len]; omega)]

end Go.Proofs.YtablogiielclaaaGreat
namespace Go.Proofs.YtablogiielclaaaGreat
open Go.RowKit Go.Sort Go.Shelf

attribute [local go_sem] Oper.semAt_some

/-- What a round that goes on keeps: all cells but those of some blocks. -/
def KeepC (Pr : Nat → Prop) (A B : World) : Prop := A.heap.size ≤ B.heap.size ∧ ∀ k cs t, ¬ Pr k → At A k cs t → At B k cs t
theorem KeepC.refl (Pr : Nat → Prop) (A : World) : KeepC Pr A A := ⟨Nat.le_refl _, fun _ _ _ _ h => h⟩
theorem KeepC.trans {Pr : Nat → Prop} {A B C : World} (h : KeepC Pr A B) (k : KeepC Pr B C) : KeepC Pr A C := ⟨Nat.le_trans h.1 k.1, fun b cs t hb ha => k.2 b cs t hb (h.2 b cs t hb ha)⟩
theorem KeepC.book {Pr : Nat → Prop} (W : World) (l : Nat) (o o' : Obj) (hl : W.heap[l]? = some o) (ho : o.isCells = false) : KeepC Pr W (W.putObj l o') := ⟨by simp [World.putObj], fun b cs t _ ha => by
  have : b ≠ l := fun e => by
    subst e
    unfold At at ha
    rw [ha] at hl
    cases hl
    cases ho
  unfold At at *
  rw [World.putObj_heap_other this]; exact ha⟩
theorem KeepC.gr {Pr : Nat → Prop} {A B : World} (g : Gr A B) : KeepC Pr A B := ⟨g.size, fun _ _ _ _ h => h.gr g⟩

abbrev Pt (R : List Rc) := {p : Int × Int // p ∈ ptsL R}
def ptV {R : List Rc} (p : Pt R) : Array Value := #[.int .i64 p.1.1, .int .i64 p.1.2]
theorem pts_split {R : List Rc} {k : Nat} {r : Rc} (h : R[k]? = some r) : ptsL R = ptsL (R.take k) ++ (rectP r.a r.b (nX r) (nY r) ++ ptsL (R.drop (k + 1))) := by
  conv => lhs; rw [← List.take_append_drop (k + 1) R]
  unfold ptsL
  rw [List.flatMap_append]
  have := ptsL_succ h
  unfold ptsL at this
  rw [this, List.append_assoc]

theorem rowP_pre (a : Int) {i n : Nat} (y : Int) (h : i ≤ n) : rowP a i y <+: rowP a n y := by
  unfold rowP
  refine ⟨((List.range' i (n - i)).map fun (j : Nat) => (a + (j : Int), y)), ?_⟩
  rw [← List.map_append, List.range_eq_range', List.range_eq_range']
  congr 1
  have := List.range'_append_1 (s := 0) (m := i) (n := n - i)
  rw [Nat.zero_add] at this
  rw [this, show i + (n - i) = n by omega]
theorem rectP_pre (a b : Int) (nx : Nat) {j n : Nat} (h : j ≤ n) : rectP a b nx j <+: rectP a b nx n := by
  obtain ⟨m, rfl⟩ : ∃ m, n = j + m := ⟨n - j, by omega⟩
  clear h
  induction m with
  | zero => exact List.prefix_refl _
  | succ m ih => exact ih.trans ⟨rowP a nx (b + ((j + m : Nat) : Int)), by rw [← Nat.add_assoc, rectP_succ]⟩
theorem pts_pre {R : List Rc} {k : Nat} {r : Rc} (h : R[k]? = some r) {j i : Nat} (hj : j < nY r) (hi : i ≤ nX r) : ptsL (R.take k) ++ (rectP r.a r.b (nX r) j ++ rowP r.a i (r.b + (j : Int))) <+: ptsL R := by
  rw [pts_split h]
  refine List.prefix_append_right_inj _ |>.2 ?_
  have h1 : rectP r.a r.b (nX r) j ++ rowP r.a i (r.b + (j : Int)) <+: rectP r.a r.b (nX r) (j + 1) := by
    rw [rectP_succ]
    exact List.prefix_append_right_inj _ |>.2 (rowP_pre _ _ hi)
  exact (h1.trans (rectP_pre _ _ _ (show j + 1 ≤ nY r by omega))).trans (List.prefix_append _ _)

set_option maxRecDepth 100000 in
set_option maxHeartbeats 4000000 in
theorem pointsIter (n : Nat) (hn : 1 ≤ n) (l bq tq : Nat) (Pr : Nat → Prop) (A : Option Addr) (c : Nat) (R : List Rc) (J Jx : List (Pt R) → World → Prop)
    (hb : ∀ r ∈ R, -1000000 ≤ r.a ∧ r.c ≤ 1000000 ∧ -1000000 ≤ r.b ∧ r.d ≤ 1000000 ∧ r.a ≤ 1000000 ∧ r.b ≤ 1000000) (hlen : R.length ≤ 100000000)
    (hA : ∀ pre A B, J pre A → A.grownBy B none → J pre B)
    (hY : ∀ pre p W1, J pre W1 → pre.length < (ptsL R).length → YieldAt Fence.wide (n - 1) Tryz.prog l (ptV p) W1 fun e W' =>
      (e = .returned (.bool true) ∧ J (pre ++ [p]) W' ∧ KeepC Pr W1 W') ∨ (e = .returned (.bool false) ∧ Jx (pre ++ [p]) W'))
    (V : World) (hq : At V bq #[.slice A R.length c] tq) (hPr : ∀ k, Pr k → k < V.heap.size) (hRow : ∀ wr, KeepC Pr V wr → Rs wr A R) (h0 : J [] V) :
    CallsIn Fence.wide n Tryz.prog 193 #[.func (.yield l) #[] #[], .pointer (some ⟨bq, 0, none⟩)] V fun e W' => (∃ v, e = .returned v) ∧
      ((∃ ys : List (Pt R), ys.map (·.1) = ptsL R ∧ J ys W') ∨ (∃ pre : List (Pt R), pre.map (·.1) <+: ptsL R ∧ Jx pre W')) := by
  refine callsIn_of_wp Tryz.func193 rfl trivial ?_ rfl
  simp only [Tryz.ntmps193, List.size_toArray, List.length_cons, List.length_nil, Nat.reduceAdd, Nat.reduceSub, Array.replicate_succ, Array.replicate_zero, List.push_toArray, List.append_toArray, List.nil_append, List.cons_append]
  have q0 : V.cell? ⟨bq, 0, none⟩ = some (.slice A R.length c) := hq.cell 0
  obtain ⟨N, hN⟩ : ∃ N, N = R.length := ⟨_, rfl⟩
  rw [← hN] at q0 hlen
  have hN' := Lib.hid hN
  clear hN hq
  gi_wp2
  clear q0
  gi_loopw [9] (fun i wr => ∃ (k : Nat) (pre : List (Pt R)), k ≤ N ∧ i = .int .i64 k ∧ Hid (pre.map (·.1) = ptsL (R.take k)) ∧ J pre wr ∧ KeepC Pr V wr)
    (fun i _ => N - (intOf i).toNat)
  case atStart => exact ⟨0, [], Nat.zero_le _, rfl, Lib.hid (by simp [ptsL]), h0, KeepC.refl _ _⟩
  case round =>
    obtain ⟨k, pre, hk, rfl, hpre, hJ, hK⟩ := hrel
    by_cases hlt : k < N
    · obtain ⟨r, hr⟩ := list_at (show k < R.length by rw [← hN'.out]; exact hlt)
      obtain ⟨b, off, rfl, hrow⟩ := (hRow wr hK).opened (by have := hN'.out; omega)
      obtain ⟨e1, e2, e3, e4⟩ := hrow k r hr
      obtain ⟨b1, b2, b3, b4, b5, b6⟩ := hb r (List.mem_of_getElem? hr)
      have hpp := fun j i hj hi => pts_pre (j := j) (i := i) hr hj hi
      have hps := ptsL_succ hr
      have hK1 := hK.trans (KeepC.gr (Pr := Pr) ((Gr.refl wr).alloc (.cells #[.int .i64 r.a, .int .i64 r.b, .int .i64 r.c, .int .i64 r.d] 31)))
      have hJ1 := hA _ _ _ hJ (((Gr.refl wr).alloc (.cells #[.int .i64 r.a, .int .i64 r.b, .int .i64 r.c, .int .i64 r.d] 31)).by none)
      have B4 := At.new wr #[.int .i64 r.a, .int .i64 r.b, .int .i64 r.c, .int .i64 r.d] 31
      have nPr : ¬ Pr wr.heap.size := fun h => by have := hPr _ h; have := hK.1; omega
      have hnx : nX r = (r.c - r.a).toNat := rfl
      have hny : nY r = (r.d - r.b).toNat := rfl
      obtain ⟨ra, rb, rc, rd⟩ := r
      dsimp only at *
      generalize nX ⟨ra, rb, rc, rd⟩ = nx at *
      generalize nY ⟨ra, rb, rc, rd⟩ = ny at *
      have HPP := Lib.hid hpp
      have HPS := Lib.hid hps
      have HNX := Lib.hid hnx
      have HNY := Lib.hid hny
      clear hpp hps hr hrow hnx hny
      gi_wp2
      obtain ⟨V1, hV1⟩ : ∃ V1, V1 = wr.alloc (.cells #[.int .i64 ra, .int .i64 rb, .int .i64 rc, .int .i64 rd] 31) := ⟨_, rfl⟩
      rw [← hV1] at hJ1 hK1 B4 ⊢
      clear hV1 e1 e2 e3 e4 hJ hK
      generalize wr.heap.size = kb at *
      gi_loopw [5] (fun yv w2 => ∃ (jy : Nat) (pre2 : List (Pt R)), jy ≤ ny ∧ yv = .int .i64 (rb + (jy : Int)) ∧ Hid (pre2.map (·.1) = ptsL (R.take k) ++ rectP ra rb nx jy) ∧ J pre2 w2 ∧ KeepC Pr V w2 ∧ At w2 kb #[.int .i64 ra, .int .i64 rb, .int .i64 rc, .int .i64 rd] 31)
        (fun yv _ => (rd - intOf yv).toNat)
      case atStart => exact ⟨0, pre, Nat.zero_le _, by simp, Lib.hid (by rw [hpre.out]; simp [rectP]), hJ1, hK1, B4⟩
      case round =>
        obtain ⟨jy, pre2, hjy, rfl, hpre2, hJ2, hK2, B2⟩ := hrel
        have y1 : wr.cell? ⟨kb, 1, none⟩ = some (.int .i64 rb) := B2.cell 1
        have y3 : wr.cell? ⟨kb, 3, none⟩ = some (.int .i64 rd) := B2.cell 3
        by_cases hlt2 : jy < ny
        · have hc2 : rb + (jy : Int) < rd := by have := HNY.out; omega
          have y0 : wr.cell? ⟨kb, 0, none⟩ = some (.int .i64 ra) := B2.cell 0
          gi_wp2
          clear y0 y1 y3
          gi_loopw [6] (fun xv w3 => ∃ (ix : Nat) (pre3 : List (Pt R)), ix ≤ nx ∧ xv = .int .i64 (ra + (ix : Int)) ∧ Hid (pre3.map (·.1) = ptsL (R.take k) ++ (rectP ra rb nx jy ++ rowP ra ix (rb + (jy : Int)))) ∧ J pre3 w3 ∧ KeepC Pr V w3 ∧ At w3 kb #[.int .i64 ra, .int .i64 rb, .int .i64 rc, .int .i64 rd] 31)
            (fun xv _ => (rc - intOf xv).toNat)
          case atStart => exact ⟨0, pre2, Nat.zero_le _, by simp, Lib.hid (by rw [hpre2.out]; simp [rowP]), hJ2, hK2, B2⟩
          case round =>
            obtain ⟨ix, pre3, hix, rfl, hpre3, hJ3, hK3, B3⟩ := hrel
            have z2 : wr.cell? ⟨kb, 2, none⟩ = some (.int .i64 rc) := B3.cell 2
            by_cases hlt3 : ix < nx
            · have hc3 : ra + (ix : Int) < rc := by have := HNX.out; omega
              have hp1 := HPP.out jy (ix + 1) hlt2 hlt3
              have hmem : (ra + (ix : Int), rb + (jy : Int)) ∈ ptsL R := hp1.subset (by rw [rowP_succ]; simp)
              have hp2 : (pre3 ++ [(⟨(ra + (ix : Int), rb + (jy : Int)), hmem⟩ : Pt R)]).map (·.1) = ptsL (R.take k) ++ (rectP ra rb nx jy ++ rowP ra (ix + 1) (rb + (jy : Int))) := by
                rw [List.map_append, hpre3.out, rowP_succ]; simp
              have hlen3 : pre3.length < (ptsL R).length := by
                have h1 := hp1.length_le
                rw [← hp2] at h1
                simp at h1
                omega
              have hYY := hY pre3 ⟨(ra + (ix : Int), rb + (jy : Int)), hmem⟩ wr hJ3 hlen3
              have rv : ptV (⟨(ra + (ix : Int), rb + (jy : Int)), hmem⟩ : Pt R) = #[.int .i64 (ra + (ix : Int)), .int .i64 (rb + (jy : Int))] := rfl
              rw [rv] at hYY
              have HP1 := Lib.hid hp1
              have HP2 := Lib.hid hp2
              clear hp1 hp2 rv hlen3
              obtain ⟨fn, tmps, assign, body, hyy, hRR⟩ := hYY
              gi_wp2_with fail
              refine hRR.mono ?_
              rintro e W3 (⟨rfl, hJ4, hk4⟩ | ⟨rfl, hJx4⟩)
              · gi_wp2
                go_roundw
                case rel => exact ⟨ix + 1, _, by omega, by simp; omega, HP2, hJ4, hK3.trans hk4, hk4.2 _ _ _ nPr B3⟩
                case measure => simp [intOf]; omega
              · gi_wp2
                refine bodyPost_ret (results_none rfl _ _ _) rfl ?_
                exact ⟨⟨_, rfl⟩, .inr ⟨_, by rw [HP2.out]; exact HP1.out, hJx4⟩⟩
            · obtain rfl : ix = nx := by omega
              have hc3 : rc ≤ ra + (ix : Int) := by have := HNX.out; omega
              gi_wp2
              go_roundw
              case rel => exact ⟨jy + 1, pre3, by omega, by simp; omega, Lib.hid (by rw [hpre3.out, rectP_succ]), hJ3, hK3, B3⟩
              case measure => simp [intOf]; omega
        · obtain rfl : jy = ny := by omega
          have hc2 : rd ≤ rb + (jy : Int) := by have := HNY.out; omega
          gi_wp2
          go_roundw
          case rel => exact ⟨k + 1, pre2, by omega, by simp, Lib.hid (by rw [hpre2.out, HPS.out]), hJ2, hK2⟩
          case measure => simp [intOf]; omega
    · obtain rfl : k = N := by omega
      gi_wp2
      go_end0
      exact ⟨⟨_, rfl⟩, .inl ⟨pre, by rw [hpre.out, hN'.out, List.take_length], hJ⟩⟩

end Go.Proofs.YtablogiielclaaaGreat
namespace Go.Proofs.YtablogiielclaaaGreat
open Go.RowKit Go.Sort

def zR : Rc := ⟨0, 0, 0, 0⟩
theorem cR_zero : ∀ n : Nat, cR (List.replicate n zR) = List.replicate (n * 4) (.int .i64 0)
  | 0 => rfl
  | n + 1 => by
    rw [List.replicate_succ]
    show c4 zR ++ cR (List.replicate n zR) = _
    rw [cR_zero n, show (n + 1) * 4 = 4 + n * 4 by omega, ← List.replicate_append_replicate]
    rfl
theorem madeR (n : Nat) : madeCells #[Value.int .i64 0, .int .i64 0, .int .i64 0, .int .i64 0] (n * 4) = (cR (List.replicate n zR)).toArray := by
  rw [cR_zero]
  apply Array.ext
  · simp [madeCells]
  · intro i h1 h2
    have h4 : i % 4 < 4 := Nat.mod_lt _ (by omega)
    simp [madeCells]
    obtain h | h | h | h : i % 4 = 0 ∨ i % 4 = 1 ∨ i % 4 = 2 ∨ i % 4 = 3 := by omega
    all_goals simp [h]
theorem makeR (n : Nat) (h : n ≤ 100000000) (w : World) : (Instr.makeSlice 32 (.int .i64 n) (.int .i64 n)).run Tryz.prog w =
    .ok (.slice (some ⟨w.heap.size, 0, none⟩) n n) (w.alloc (.cells (cR (List.replicate n zR)).toArray 31)) := by
  obtain ⟨i0, hi, hz0, hz1, hz2⟩ := info_parts infoR
  have := run_make (P := Tryz.prog) w 32 31 i0 _ Tryz.underlying32 hi hz0 .i64 .i64 n n (by omega) (Int.le_refl _) (by rw [hz2]; omega) (by omega)
  rw [this, hz1]
  have e : madeCells (Value.agg #[Value.int .i64 0, .int .i64 0, .int .i64 0, .int .i64 0]).cells (n * 4) = (cR (List.replicate n zR)).toArray := madeR n
  simp [e]
theorem put_rect {w : World} {b k : Nat} {L : List Rc} {t : TypeId} {o r : Rc} (h : At w b (cR L).toArray t) (ho : L[k]? = some o) :
    At ((((w.setCell ⟨b, k * 4, none⟩ (.int .i64 r.a)).setCell ⟨b, k * 4 + 1, none⟩ (.int .i64 r.b)).setCell ⟨b, k * 4 + 2, none⟩ (.int .i64 r.c)).setCell ⟨b, k * 4 + 3, none⟩ (.int .i64 r.d)) b (cR (L.set k r)).toArray t := by
  have hk := get_lt ho
  have e1 := cR_set L k o ⟨r.a, o.b, o.c, o.d⟩ 0 (.int .i64 r.a) ho (by omega) rfl
  have e2 := cR_set (L.set k ⟨r.a, o.b, o.c, o.d⟩) k ⟨r.a, o.b, o.c, o.d⟩ ⟨r.a, r.b, o.c, o.d⟩ 1 (.int .i64 r.b) (by simp [hk]) (by omega) rfl
  have e3 := cR_set (L.set k ⟨r.a, r.b, o.c, o.d⟩) k ⟨r.a, r.b, o.c, o.d⟩ ⟨r.a, r.b, r.c, o.d⟩ 2 (.int .i64 r.c) (by simp [hk]) (by omega) rfl
  have e4 := cR_set (L.set k ⟨r.a, r.b, r.c, o.d⟩) k ⟨r.a, r.b, r.c, o.d⟩ r 3 (.int .i64 r.d) (by simp [hk]) (by omega) rfl
  simp only [List.set_set] at e2 e3 e4
  rw [e4, e3, e2, e1]
  have p1 := Go.Joins.block_setCell (i := k * 4 + 0) h (.int .i64 r.a)
  have p2 := Go.Joins.block_setCell (i := k * 4 + 1) p1 (.int .i64 r.b)
  have p3 := Go.Joins.block_setCell (i := k * 4 + 2) p2 (.int .i64 r.c)
  have p4 := Go.Joins.block_setCell (i := k * 4 + 3) p3 (.int .i64 r.d)
  unfold At
  simpa using p4
theorem At.rowRc {w : World} {b : Nat} {L : List Rc} {t : TypeId} (h : At w b (cR L).toArray t) : RowR w b 0 L := fun k r hk => by
  have g := fun j hj => (h.cell (k * 4 + j)).trans (List.getElem?_toArray.trans (cR_get L k r j hk hj))
  rw [Nat.zero_add]
  exact ⟨g 0 (by omega), g 1 (by omega), g 2 (by omega), g 3 (by omega)⟩

end Go.Proofs.YtablogiielclaaaGreat
namespace Go.Proofs.YtablogiielclaaaGreat
open Go.RowKit Go.Sort

attribute [local go_sem] cell?_grow frozen?_grow nlt_r

set_option maxHeartbeats 2000000 in
theorem refcutR1 (a b c d a' b' c' d' : Int) (w : World) :
    Calls Tryz.prog 199 #[.agg #[.int .i64 a, .int .i64 b, .int .i64 c, .int .i64 d], .agg #[.int .i64 a', .int .i64 b', .int .i64 c', .int .i64 d']] w
      (Rt w (.agg #[.int .i64 (cutR a b c d a' b' c' d').a, .int .i64 (cutR a b c d a' b' c' d').b, .int .i64 (cutR a b c d a' b' c' d').c, .int .i64 (cutR a b c d a' b' c' d').d])) := by
  go_enter Tryz.func199, Tryz.ntmps199
  go_wp2_with fail
  all_goals
    refine (refempty1 _ _ _ _ _).mono ?_
    rintro e w' ⟨rfl, ⟨⟨n, os⟩, rfl⟩⟩
    go_wp2
    all_goals
      go_returns
      refine Rt.rect (by first | exact cutR_t ‹_› (by omega) | exact cutR_f ‹_› (by omega)) ?_
      repeat (first | with_reducible exact Gr.refl _ | with_reducible apply Gr.drew | with_reducible apply Gr.drewN | with_reducible apply Gr.grow | with_reducible apply Gr.alloc | (with_reducible refine Gr.setCell ?_ ?_ _; rotate_left; (simp; try omega)))

end Go.Proofs.YtablogiielclaaaGreat
namespace Go.Proofs.YtablogiielclaaaGreat
open Go.RowKit Go.Sort

end Go.Proofs.YtablogiielclaaaGreat
namespace Go.Proofs.YtablogiielclaaaGreat
open Go.RowKit Go.Sort

theorem meets_of (a b c d a' b' c' d' : Int) {t : Bool} (h : t = true ↔ ¬((cutR a b c d a' b' c' d').a = 0 ∧ (cutR a b c d a' b' c' d').b = 0 ∧ (cutR a b c d a' b' c' d').c = 0 ∧ (cutR a b c d a' b' c' d').d = 0)) :
    t = true ↔ meetsB a b c d a' b' c' d' = true := by
  rw [h]
  unfold meetsB cutR
  by_cases e : emptyB (max a a') (max b b') (min c c') (min d d') = true
  · simp [e]
  · rw [if_neg e]
    simp only [Bool.not_eq_true] at e
    simp only [e, Bool.not_false, iff_true, not_and]
    intro h1 h2 h3
    simp [emptyB] at e
    omega

attribute [local go_sem] cell?_grow frozen?_grow nlt_r

end Go.Proofs.YtablogiielclaaaGreat
namespace Go.Proofs.YtablogiielclaaaGreat
open Go.ChangeShapes Go.WideShapes Go.ChangeAt Go.RowKit Go.Joins Go.Sort

theorem At.set4 {w : World} {b : Nat} {z0 z1 z2 z3 : Value} {t : TypeId} (h : At w b #[z0, z1, z2, z3] t) (u0 u1 u2 u3 : Value) :
    At ((((w.setCell ⟨b, 0, none⟩ u0).setCell ⟨b, 1, none⟩ u1).setCell ⟨b, 2, none⟩ u2).setCell ⟨b, 3, none⟩ u3) b #[u0, u1, u2, u3] t := by
  have h1 := block_setCell (i := 0) h u0
  have h2 := block_setCell (i := 1) h1 u1
  have h3 := block_setCell (i := 2) h2 u2
  have h4 := block_setCell (i := 3) h3 u3
  unfold At
  simpa using h4

theorem cutR_comm (a b c d a' b' c' d' : Int) : cutR a' b' c' d' a b c d = cutR a b c d a' b' c' d' := by
  unfold cutR
  rw [show max a' a = max a a' from by omega, show max b' b = max b b' from by omega, show min c' c = min c c' from by omega, show min d' d = min d d' from by omega]
theorem cutR_empty (a b c d a' b' c' d' : Int) : emptyB (cutR a b c d a' b' c' d').a (cutR a b c d a' b' c' d').b (cutR a b c d a' b' c' d').c (cutR a b c d a' b' c' d').d = !meetsB a b c d a' b' c' d' := by
  unfold cutR meetsB
  by_cases e : emptyB (max a a') (max b b') (min c c') (min d d') = true
  · rw [if_pos e, e]; rfl
  · rw [if_neg e]; simp only [Bool.not_not]
theorem cutR_has (a b c d a' b' c' d' x y : Int) : hasB (cutR a b c d a' b' c' d').a (cutR a b c d a' b' c' d').b (cutR a b c d a' b' c' d').c (cutR a b c d a' b' c' d').d x y = (hasB a b c d x y && hasB a' b' c' d' x y) := by
  unfold cutR
  by_cases e : emptyB (max a a') (max b b') (min c c') (min d d') = true
  · rw [if_pos e]
    simp only [emptyB, decide_eq_true_eq] at e
    unfold hasB
    rw [Bool.eq_iff_iff]
    simp only [Bool.and_eq_true, decide_eq_true_eq]
    omega
  · rw [if_neg e]
    unfold hasB
    rw [Bool.eq_iff_iff]
    simp only [Bool.and_eq_true, decide_eq_true_eq]
    omega
end Go.Proofs.YtablogiielclaaaGreat
namespace Go.Proofs.YtablogiielclaaaGreat
open Go.RowKit Go.Sort

/-- What rectangles have of a box. -/
def cutL (B : Rc) (L : List Rc) : List Rc := L.map fun r => cutR r.a r.b r.c r.d B.a B.b B.c B.d
/-- The places from 0 to 256. -/
def g256 : List Int := (List.range 257).map fun (i : Nat) => (i : Int)
theorem g256_mem (x : Int) : x ∈ g256 ↔ 0 ≤ x ∧ x ≤ 256 := by
  unfold g256
  rw [List.mem_map]
  constructor
  · rintro ⟨i, hi, rfl⟩
    rw [List.mem_range] at hi
    omega
  · rintro ⟨h0, h1⟩
    exact ⟨x.toNat, by rw [List.mem_range]; omega, by omega⟩
theorem grid256 : Grid g256 g256 := ⟨by simp [g256], by simp [g256], fun x hx => by rw [g256_mem] at hx; unfold I64; omega⟩
theorem cutL_in {B : Rc} (h : 0 ≤ B.a ∧ B.c ≤ 256 ∧ 0 ≤ B.b ∧ B.d ≤ 256) (L : List Rc) : InNe g256 g256 (cutL B L) := by
  intro r hr he
  unfold cutL at hr
  rw [List.mem_map] at hr
  obtain ⟨s, _, rfl⟩ := hr
  unfold cutR at he ⊢
  split at he
  · simp [emptyB] at he
  · rename_i h2
    rw [if_neg h2]
    simp only [g256_mem]
    dsimp only at he ⊢
    have h3 : ¬ (min s.c B.c ≤ max s.a B.a ∨ min s.d B.d ≤ max s.b B.b) := of_decide_eq_false he
    omega
theorem cutL_has (B : Rc) (L : List Rc) (x y : Int) : hasL (cutL B L) x y = (hasB B.a B.b B.c B.d x y && hasL L x y) := by
  unfold hasL cutL
  rw [List.any_map]
  induction L with
  | nil => simp
  | cons r l ih =>
    rw [List.any_cons, List.any_cons, ih]
    simp only [Function.comp]
    rw [cutR_has]
    cases hasB r.a r.b r.c r.d x y <;> cases hasB B.a B.b B.c B.d x y <;> simp

/-- A region that is handed back: a row that reads so. -/
def WQ (w : World) (Q : List Rc → Prop) (e : Ending) (w' : World) : Prop := ∃ (A : Option Addr) (c : Nat) (R : List Rc), e = .returned (.slice A R.length c) ∧ R.length ≤ c ∧ OwR w' w.heap.size A c R ∧ Q R ∧ Bl w w'
theorem cutL_take {B : Rc} {L : List Rc} {k : Nat} {r : Rc} (h : L[k]? = some r) : cutL B (L.take (k + 1)) = cutL B (L.take k) ++ [cutR r.a r.b r.c r.d B.a B.b B.c B.d] := by
  unfold cutL
  rw [List.take_add_one, h, List.map_append]; rfl
theorem put_next {A : List Rc} {k n : Nat} (hk : A.length = k) (r : Rc) : (A ++ List.replicate (n + 1) zR).set k r = (A ++ [r]) ++ List.replicate n zR := by
  subst hk
  rw [List.set_append_right _ _ (Nat.le_refl _), Nat.sub_self, List.replicate_succ]
  simp

set_option maxRecDepth 100000 in
set_option maxHeartbeats 4000000 in
theorem within1 (B : Rc) (hB : 0 ≤ B.a ∧ B.c ≤ 256 ∧ 0 ≤ B.b ∧ B.d ≤ 256) (A : Option Addr) (c : Nat) (L : List Rc) (w : World) (hL : L.length ≤ 1000000) (hA : Rs w A L) :
    Calls Tryz.prog 130 #[.agg #[.int .i64 B.a, .int .i64 B.b, .int .i64 B.c, .int .i64 B.d], .slice A L.length c] w (WQ w (OfQ g256 g256 (cutL B L))) := by
  have hin := cutL_in hB L
  have b1 := (At.new w #[.int .i64 B.a, .int .i64 B.b, .int .i64 B.c, .int .i64 B.d] 31).alloc (.cells (cR (List.replicate L.length zR)).toArray 31)
  have r1 := At.newAt (w := w.alloc (.cells #[.int .i64 B.a, .int .i64 B.b, .int .i64 B.c, .int .i64 B.d] 31)) (n := w.heap.size + 1) (by simp) (cR (List.replicate L.length zR)).toArray 31
  have G1 := ((Bl.refl w).alloc (.cells #[.int .i64 B.a, .int .i64 B.b, .int .i64 B.c, .int .i64 B.d] 31)).alloc (.cells (cR (List.replicate L.length zR)).toArray 31)
  have hmk := makeR L.length (by omega) (w.alloc (.cells #[.int .i64 B.a, .int .i64 B.b, .int .i64 B.c, .int .i64 B.d] 31))
  rw [show (w.alloc (.cells #[.int .i64 B.a, .int .i64 B.b, .int .i64 B.c, .int .i64 B.d] 31)).heap.size = w.heap.size + 1 by simp] at hmk
  obtain ⟨N, hN⟩ : ∃ N, N = L.length := ⟨_, rfl⟩
  rw [← hN] at hmk hL b1 r1 G1 ⊢
  replace hN := Lib.hid hN
  have cc := fun (r : Rc) w => cut1 r.a r.b r.c r.d B.a B.b B.c B.d w
  go_enter Tryz.func130, Tryz.ntmps130
  go_wp2
  obtain ⟨w0, hw0⟩ : ∃ w0, w0 = (w.alloc (.cells #[.int .i64 B.a, .int .i64 B.b, .int .i64 B.c, .int .i64 B.d] 31)).alloc (.cells (cR (List.replicate N zR)).toArray 31) := ⟨_, rfl⟩
  rw [← hw0] at b1 r1 G1 ⊢
  clear hw0 hmk
  go_loopw [13] (fun i wr => ∃ k : Nat, k ≤ N ∧ i = .int .i64 k ∧ At wr w.heap.size #[.int .i64 B.a, .int .i64 B.b, .int .i64 B.c, .int .i64 B.d] 31 ∧ At wr (w.heap.size + 1) (cR (cutL B (L.take k) ++ List.replicate (N - k) zR)).toArray 31 ∧ Bl w wr) (fun i _ => N - (intOf i).toNat)
  case atStart => exact ⟨0, Nat.zero_le _, rfl, b1, by simpa [cutL] using r1, G1⟩
  case round =>
    obtain ⟨k, hk, rfl, b2, r2, G⟩ := hrel
    by_cases hlt : k < N
    · obtain ⟨r, hr⟩ := list_at (show k < L.length by rw [← hN.out]; exact hlt)
      obtain ⟨b, off, rfl, hrow⟩ := (hA.bl G).opened (by rw [← hN.out]; omega)
      obtain ⟨e1, e2, e3, e4⟩ := hrow k r hr
      have htk := Lib.hid (cutL_take (B := B) hr)
      have hln : (cutL B (L.take k)).length = k := by unfold cutL; rw [List.length_map, List.length_take, ← hN.out]; omega
      have hput := put_next (n := N - (k + 1)) hln (cutR r.a r.b r.c r.d B.a B.b B.c B.d)
      rw [show N - (k + 1) + 1 = N - k by omega] at hput
      have hzero : (cutL B (L.take k) ++ List.replicate (N - k) zR)[k]? = some zR := by
        rw [List.getElem?_append_right (by omega), hln, Nat.sub_self, show N - k = (N - (k + 1)) + 1 by omega, List.replicate_succ]; rfl
      have ccr := fun w => cc r w
      obtain ⟨ra, rb, rc, rd⟩ := r
      dsimp only at *
      clear hrow hr cc
      have hlt1 : w.heap.size + 1 < wr.heap.size := r2.lt
      have hlt0 : w.heap.size < wr.heap.size := b2.lt
      obtain ⟨t0, t1, t2, t3⟩ := cells4 b2
      replace hN := hN
      replace htk := htk
      have hput' := Lib.hid hput
      have hln' := Lib.hid hln
      have hz0 := Lib.hid hzero
      clear hput hln hzero
      go_wp2_with fail
      refine (ccr _).mono ?_
      rintro e w2 ⟨rfl, g2⟩
      obtain ⟨q, hq⟩ : ∃ q, q = cutR ra rb rc rd B.a B.b B.c B.d := ⟨_, rfl⟩
      rw [← hq] at hput' htk ⊢
      clear hq ccr
      have r3 := (r2.alloc (.cells #[.int .i64 ra, .int .i64 rb, .int .i64 rc, .int .i64 rd] 31)).gr g2
      have b3 := (b2.alloc (.cells #[.int .i64 ra, .int .i64 rb, .int .i64 rc, .int .i64 rd] 31)).gr g2
      have G3 := (G.alloc (.cells #[.int .i64 ra, .int .i64 rb, .int .i64 rc, .int .i64 rd] 31)).gr g2
      have old := r3.rowRc k zR hz0.out
      rw [Nat.zero_add] at old
      obtain ⟨o1, o2, o3, o4⟩ := old
      have fr := fun j => r3.free j
      have fr0 := fr (k * 4)
      have fr1 := fr (k * 4 + 1)
      have fr2 := fr (k * 4 + 2)
      have fr3 := fr (k * 4 + 3)
      clear fr
      have r4 := put_rect (r := q) r3 hz0.out
      rw [hput'.out] at r4
      have b4 := (((b3.far (p := ⟨w.heap.size + 1, k * 4, none⟩) (by simp) (.int .i64 q.a)).far (p := ⟨w.heap.size + 1, k * 4 + 1, none⟩) (by simp) (.int .i64 q.b)).far (p := ⟨w.heap.size + 1, k * 4 + 2, none⟩) (by simp) (.int .i64 q.c)).far (p := ⟨w.heap.size + 1, k * 4 + 3, none⟩) (by simp) (.int .i64 q.d)
      have G4 := (((G3.setCell (p := ⟨w.heap.size + 1, k * 4, none⟩) (by simp) (.int .i64 q.a)).setCell (p := ⟨w.heap.size + 1, k * 4 + 1, none⟩) (by simp) (.int .i64 q.b)).setCell (p := ⟨w.heap.size + 1, k * 4 + 2, none⟩) (by simp) (.int .i64 q.c)).setCell (p := ⟨w.heap.size + 1, k * 4 + 3, none⟩) (by simp) (.int .i64 q.d)
      go_wp2
      go_roundw
      case rel => exact ⟨k + 1, by omega, by simp, b4, by rw [htk.out]; exact r4, G4⟩
      case measure => simp [intOf]; omega
    · obtain rfl : k = N := by omega
      have hall : cutL B (L.take k) ++ List.replicate (k - k) zR = cutL B L := by rw [hN.out, List.take_length]; simp
      rw [hall] at r2
      have hcl : (cutL B L).length = k := by unfold cutL; rw [List.length_map, hN.out]
      have co := of1 k (some ⟨w.heap.size + 1, 0, none⟩) k (cutL B L) g256 g256 wr (by omega) (by omega) (by omega) (by omega) (.inr ⟨_, _, rfl, r2.rowRc⟩) grid256 hin
      rw [hcl] at co
      clear hall hcl
      go_wp2_with fail
      refine co.mono ?_
      rintro e w3 ⟨A', c', R, rfl, own, hQ, g3⟩
      have hs := own.base (B' := w.heap.size) G.size
      have hcap := own.cap
      replace hQ := Lib.hid hQ
      go_wp2
      go_ret
      exact ⟨A', c', R, rfl, hcap, hs, hQ.out, G.trans g3⟩

end Go.Proofs.YtablogiielclaaaGreat
