/-
  What is proved: one deed, of both sides. Conditions: bounds on lengths.
-/
import Derived.Test.YtgjoipndhlngnaaSkp
namespace Go.Proofs.Ytgjoipndhlngnaa
open Go.ChangeShapes Go.WideShapes Go.ChangeAt Go.RowKit Go.Joins Go.Sort Go.Deep

section
attribute [local go_sem ↓] eqlK neqK eqlP neqP

/-- A deed. -/
structure Dk where
  k : Int
  a : Ky
  b : Ky
instance : Inhabited Dk := ⟨⟨0, (0, 0), (0, 0)⟩⟩
def shDk : Shp Dk := ⟨5, fun x => [.int .i64 x.k, .int .i64 x.a.1, .int .i64 x.a.2, .int .i64 x.b.1, .int .i64 x.b.2], fun _ => rfl, fun x u h => by simp at h; rcases h with h | h | h | h | h <;> (subst h; rfl), by omega⟩
structure I64k (e : Dk) : Prop where
  k : I64 e.k
  a1 : I64 e.a.1
  a2 : I64 e.a.2
  b1 : I64 e.b.1
  b2 : I64 e.b.2
def stepD (L : List Ky) (d : Dk) : List Ky :=
  if d.k = 0 then addK L (smK d.a) else if d.k = 1 then dropK L (smK d.a) else if d.k = 2 then leftK L (smK d.a).1 else if d.k = 3 then raiseK L (smK d.a) (smK d.b) else if d.k = 4 then topK L (smK d.a) else if d.k = 5 then lowK L (smK d.a) else L
theorem flat_one (k o : Ky) (hne : k ≠ o) : ∀ {L : List Ky}, L.Nodup → k ∈ L → o ∈ L → (L.flatMap (stepK k o)).length = L.length := fun {L} hd hk ho => by
  have hD := drop_len1 hd hk
  have h1 := ix_lt hk
  have h2 : o ∈ dropK L k := drop_mem.2 ⟨ho, fun e => hne e.symm⟩
  have h3 := ix_lt h2
  rw [raise_cut hd hk ho hne]
  simp; omega
theorem stepD_len {L : List Ky} (hd : L.Nodup) (d : Dk) : (stepD L d).length ≤ L.length + 1 := by
  unfold stepD
  split
  · exact add_len _ _
  split
  · have := drop_len L (smK d.a); omega
  split
  · have := left_len L (smK d.a).1; omega
  split
  · unfold raiseK
    split
    · rename_i h; rw [flat_one _ _ h.2.2 hd h.1 h.2.1]; omega
    · omega
  split
  · unfold topK; split
    · have := drop_len L (smK d.a); simp; omega
    · omega
  split
  · unfold lowK; split
    · have := drop_len L (smK d.a); simp; omega
    · omega
  · omega
def DoQ (w0 : World) (pa : Nat) (L' : List Ky) (e : Ending) (w' : World) : Prop := ∃ A' c' AR' cR', e = .returned (.tuple #[.slice AR' L'.length cR', .bool true]) ∧ SS w0 w' pa A' c' L' ∧ OwK w' w0.heap.size AR' cR' L'

set_option maxRecDepth 100000 in
set_option maxHeartbeats 2000000 in
theorem doesK_0 {w0 w : World} {pa c cR : Nat} {A AR : Option Addr} {L : List Ky} (h : SS w0 w pa A c L) (hR : OwK w w0.heap.size AR cR L) (hl : L.length ≤ 10000) (a b : Ky) (ha1 : I64 a.1) (ha2 : I64 a.2) (hb1 : I64 b.1) (hb2 : I64 b.2) :
    Calls Try.prog 10 #[.pointer (some ⟨pa, 0, none⟩), .slice AR L.length cR, .agg #[.int .i64 0, .int .i64 a.1, .int .i64 a.2, .int .i64 b.1, .int .i64 b.2]] w (DoQ w0 pa (addK L (smK a))) := by
  have bx := At.new w #[.int .i64 0, .int .i64 a.1, .int .i64 a.2, .int .i64 b.1, .int .i64 b.2] 34
  have G0 := (Bl.refl w).alloc (.cells #[.int .i64 0, .int .i64 a.1, .int .i64 a.2, .int .i64 b.1, .int .i64 b.2] 34)
  have cA := fun V => small14 a ha1 ha2 V
  have cB := fun V => small14 b hb1 hb2 V
  generalize smK a = x at *
  generalize smK b = y at *
  go_enter Try.func10, Try.ntmps10
  go_wp2_with fail
  refine (cA _).mono ?_
  rintro e w2 ⟨rfl, g2⟩
  have b2 := bx.gr g2
  have f0 := b2.cell 0
  have f3 := b2.cell 3
  have f4 := b2.cell 4
  have fl := b2.lt
  simp at f0 f3 f4
  clear cA bx
  go_wp2_with fail
  refine (cB _).mono ?_
  rintro e w3 ⟨rfl, g3⟩
  have y2 := (At.new w2 (kC x) 27).gr g3
  have b3 := (b2.alloc (.cells (kC x) 27)).gr g3
  have v0 := b3.cell 0
  simp at v0
  have p0 : w3.cell? ⟨w2.heap.size, 0, none⟩ = some (.int .i64 x.1) := y2.cell 0
  have p1 : w3.cell? ⟨w2.heap.size, 1, none⟩ = some (.int .i64 x.2) := y2.cell 1
  have hll := b3.lt
  have hlp := y2.lt
  have G3 := (((G0.gr g2).alloc (.cells (kC x) 27)).gr g3).alloc (.cells (kC y) 27)
  have y4 := y2.alloc (.cells (kC y) 27)
  have z4 := At.new w3 (kC y) 27
  have h4 := h.bl G3
  have hR4 := hR.bl G3
  have hs4 := h4.g.size
  clear cB b2 f0 f3 f4 fl g2 G0 y2 b3 g3
  go_wp2_with fail
  refine (rAddK (c := cR) hR4 (by omega) (by omega) x).mono ?_
  rintro e w5 ⟨A5, c5, rfl, own5, g5⟩
  have h5 := h4.bl g5
  have y5 := y4.bl g5
  have z5 := z4.bl g5
  have q0 : w5.cell? ⟨w2.heap.size, 0, none⟩ = some (.int .i64 x.1) := y5.cell 0
  have q1 : w5.cell? ⟨w2.heap.size, 1, none⟩ = some (.int .i64 x.2) := y5.cell 1
  have q2 : w5.cell? ⟨w3.heap.size, 0, none⟩ = some (.int .i64 y.1) := z5.cell 0
  have q3 : w5.cell? ⟨w3.heap.size, 1, none⟩ = some (.int .i64 y.2) := z5.cell 1
  have hs5 := g5.size
  have q5 := h5.g.size
  clear y4 z4 p0 p1
  go_wp2_with fail
  refine (pAddK h5.p (by omega) (by omega) x).mono ?_
  rintro e w6 ⟨rfl, q6⟩
  obtain ⟨A6, c6, S6, K6⟩ := h5.next q6
  have r6 := own5.kx K6 (h5.p.xf (by decide) (by decide))
  go_wp2
  go_ret2
  exact ⟨A6, c6, A5, c5, rfl, S6, r6⟩

set_option maxRecDepth 100000 in
set_option maxHeartbeats 2000000 in
theorem doesK_1 {w0 w : World} {pa c cR : Nat} {A AR : Option Addr} {L : List Ky} (h : SS w0 w pa A c L) (hR : OwK w w0.heap.size AR cR L) (hl : L.length ≤ 10000) (a b : Ky) (ha1 : I64 a.1) (ha2 : I64 a.2) (hb1 : I64 b.1) (hb2 : I64 b.2) :
    Calls Try.prog 10 #[.pointer (some ⟨pa, 0, none⟩), .slice AR L.length cR, .agg #[.int .i64 1, .int .i64 a.1, .int .i64 a.2, .int .i64 b.1, .int .i64 b.2]] w (DoQ w0 pa (dropK L (smK a))) := by
  have bx := At.new w #[.int .i64 1, .int .i64 a.1, .int .i64 a.2, .int .i64 b.1, .int .i64 b.2] 34
  have G0 := (Bl.refl w).alloc (.cells #[.int .i64 1, .int .i64 a.1, .int .i64 a.2, .int .i64 b.1, .int .i64 b.2] 34)
  have cA := fun V => small14 a ha1 ha2 V
  have cB := fun V => small14 b hb1 hb2 V
  generalize smK a = x at *
  generalize smK b = y at *
  go_enter Try.func10, Try.ntmps10
  go_wp2_with fail
  refine (cA _).mono ?_
  rintro e w2 ⟨rfl, g2⟩
  have b2 := bx.gr g2
  have f0 := b2.cell 0
  have f3 := b2.cell 3
  have f4 := b2.cell 4
  have fl := b2.lt
  simp at f0 f3 f4
  clear cA bx
  go_wp2_with fail
  refine (cB _).mono ?_
  rintro e w3 ⟨rfl, g3⟩
  have y2 := (At.new w2 (kC x) 27).gr g3
  have b3 := (b2.alloc (.cells (kC x) 27)).gr g3
  have v0 := b3.cell 0
  simp at v0
  have p0 : w3.cell? ⟨w2.heap.size, 0, none⟩ = some (.int .i64 x.1) := y2.cell 0
  have p1 : w3.cell? ⟨w2.heap.size, 1, none⟩ = some (.int .i64 x.2) := y2.cell 1
  have hll := b3.lt
  have hlp := y2.lt
  have G3 := (((G0.gr g2).alloc (.cells (kC x) 27)).gr g3).alloc (.cells (kC y) 27)
  have y4 := y2.alloc (.cells (kC y) 27)
  have z4 := At.new w3 (kC y) 27
  have h4 := h.bl G3
  have hR4 := hR.bl G3
  have hs4 := h4.g.size
  clear cB b2 f0 f3 f4 fl g2 G0 y2 b3 g3
  go_wp2_with fail
  refine (rDropK (c := cR) hR4.rd (by omega) x).mono ?_
  rintro e w5 ⟨A5, c5, rfl, own5, g5⟩
  have h5 := h4.bl g5
  have y5 := y4.bl g5
  have z5 := z4.bl g5
  have q0 : w5.cell? ⟨w2.heap.size, 0, none⟩ = some (.int .i64 x.1) := y5.cell 0
  have q1 : w5.cell? ⟨w2.heap.size, 1, none⟩ = some (.int .i64 x.2) := y5.cell 1
  have q2 : w5.cell? ⟨w3.heap.size, 0, none⟩ = some (.int .i64 y.1) := z5.cell 0
  have q3 : w5.cell? ⟨w3.heap.size, 1, none⟩ = some (.int .i64 y.2) := z5.cell 1
  have hs5 := g5.size
  have q5 := h5.g.size
  clear y4 z4 p0 p1
  go_wp2_with fail
  refine (pDropK h5.p (by omega) x).mono ?_
  rintro e w6 ⟨rfl, q6⟩
  obtain ⟨A6, c6, S6, K6⟩ := h5.next q6
  have r6 := own5.kx K6 (h5.p.xf (by decide) (by decide))
  go_wp2
  go_ret2
  exact ⟨A6, c6, A5, c5, rfl, S6, r6.low (by omega)⟩

set_option maxRecDepth 100000 in
set_option maxHeartbeats 2000000 in
theorem doesK_2 {w0 w : World} {pa c cR : Nat} {A AR : Option Addr} {L : List Ky} (h : SS w0 w pa A c L) (hR : OwK w w0.heap.size AR cR L) (hl : L.length ≤ 10000) (a b : Ky) (ha1 : I64 a.1) (ha2 : I64 a.2) (hb1 : I64 b.1) (hb2 : I64 b.2) :
    Calls Try.prog 10 #[.pointer (some ⟨pa, 0, none⟩), .slice AR L.length cR, .agg #[.int .i64 2, .int .i64 a.1, .int .i64 a.2, .int .i64 b.1, .int .i64 b.2]] w (DoQ w0 pa (leftK L (smK a).1)) := by
  have bx := At.new w #[.int .i64 2, .int .i64 a.1, .int .i64 a.2, .int .i64 b.1, .int .i64 b.2] 34
  have G0 := (Bl.refl w).alloc (.cells #[.int .i64 2, .int .i64 a.1, .int .i64 a.2, .int .i64 b.1, .int .i64 b.2] 34)
  have cA := fun V => small14 a ha1 ha2 V
  have cB := fun V => small14 b hb1 hb2 V
  generalize smK a = x at *
  generalize smK b = y at *
  go_enter Try.func10, Try.ntmps10
  go_wp2_with fail
  refine (cA _).mono ?_
  rintro e w2 ⟨rfl, g2⟩
  have b2 := bx.gr g2
  have f0 := b2.cell 0
  have f3 := b2.cell 3
  have f4 := b2.cell 4
  have fl := b2.lt
  simp at f0 f3 f4
  clear cA bx
  go_wp2_with fail
  refine (cB _).mono ?_
  rintro e w3 ⟨rfl, g3⟩
  have y2 := (At.new w2 (kC x) 27).gr g3
  have b3 := (b2.alloc (.cells (kC x) 27)).gr g3
  have v0 := b3.cell 0
  simp at v0
  have p0 : w3.cell? ⟨w2.heap.size, 0, none⟩ = some (.int .i64 x.1) := y2.cell 0
  have p1 : w3.cell? ⟨w2.heap.size, 1, none⟩ = some (.int .i64 x.2) := y2.cell 1
  have hll := b3.lt
  have hlp := y2.lt
  have G3 := (((G0.gr g2).alloc (.cells (kC x) 27)).gr g3).alloc (.cells (kC y) 27)
  have y4 := y2.alloc (.cells (kC y) 27)
  have z4 := At.new w3 (kC y) 27
  have h4 := h.bl G3
  have hR4 := hR.bl G3
  have hs4 := h4.g.size
  clear cB b2 f0 f3 f4 fl g2 G0 y2 b3 g3
  go_wp2_with fail
  refine (rDropAllK (c := cR) hR4.rd (by omega) x.1).mono ?_
  rintro e w5 ⟨A5, c5, A5', c5', rfl, own5, own5', g5⟩
  have h5 := h4.bl g5
  have y5 := y4.bl g5
  have z5 := z4.bl g5
  have q0 : w5.cell? ⟨w2.heap.size, 0, none⟩ = some (.int .i64 x.1) := y5.cell 0
  have q1 : w5.cell? ⟨w2.heap.size, 1, none⟩ = some (.int .i64 x.2) := y5.cell 1
  have q2 : w5.cell? ⟨w3.heap.size, 0, none⟩ = some (.int .i64 y.1) := z5.cell 0
  have q3 : w5.cell? ⟨w3.heap.size, 1, none⟩ = some (.int .i64 y.2) := z5.cell 1
  have hs5 := g5.size
  have q5 := h5.g.size
  clear y4 z4 p0 p1
  have hgl := gone_len L x.1
  go_wp2_with fail
  refine (pDropAllK h5.p (by omega) (by omega) x.1).mono ?_
  rintro e w6 ⟨A6, c6, A7, c7, rfl, P6, own7, k6⟩
  have K6 : Kx (SX pa A) w5 w6 := Kx.by k6 (.inl rfl)
  have S6 : SS w0 w6 pa A6 c6 (leftK L x.1) := ⟨P6, h.hp, K6.under h5.up h5.g⟩
  have r6 := own5.kx K6 (h5.p.xf (by decide) (by decide))
  have s6 := own5'.kx K6 (h5.p.xf (by decide) (by decide))
  have hsz6 := K6.size
  generalize goneK L x.1 = E at *
  go_wp2_with fail
  refine (as1 own7.rd (by omega)).mono ?_
  rintro e w7 ⟨A8, c8, rfl, own8, g7⟩
  go_wp2_with fail
  refine (rSameK own8.rd (s6.bl g7).rd (by omega) (by omega)).mono ?_
  rintro e w8 ⟨rfl, g8⟩
  have G8 := g7.gr g8
  have hdd : decide (E = E) = true := by simp
  rw [hdd]
  go_wp2
  go_ret2
  exact ⟨A6, c6, A5, c5, rfl, S6.bl G8, (r6.low (by omega)).bl G8⟩

set_option maxRecDepth 100000 in
set_option maxHeartbeats 2000000 in
theorem doesK_3 {w0 w : World} {pa c cR : Nat} {A AR : Option Addr} {L : List Ky} (h : SS w0 w pa A c L) (hR : OwK w w0.heap.size AR cR L) (hl : L.length ≤ 10000) (a b : Ky) (ha1 : I64 a.1) (ha2 : I64 a.2) (hb1 : I64 b.1) (hb2 : I64 b.2) :
    Calls Try.prog 10 #[.pointer (some ⟨pa, 0, none⟩), .slice AR L.length cR, .agg #[.int .i64 3, .int .i64 a.1, .int .i64 a.2, .int .i64 b.1, .int .i64 b.2]] w (DoQ w0 pa (raiseK L (smK a) (smK b))) := by
  have bx := At.new w #[.int .i64 3, .int .i64 a.1, .int .i64 a.2, .int .i64 b.1, .int .i64 b.2] 34
  have G0 := (Bl.refl w).alloc (.cells #[.int .i64 3, .int .i64 a.1, .int .i64 a.2, .int .i64 b.1, .int .i64 b.2] 34)
  have cA := fun V => small14 a ha1 ha2 V
  have cB := fun V => small14 b hb1 hb2 V
  generalize smK a = x at *
  generalize smK b = y at *
  go_enter Try.func10, Try.ntmps10
  go_wp2_with fail
  refine (cA _).mono ?_
  rintro e w2 ⟨rfl, g2⟩
  have b2 := bx.gr g2
  have f0 := b2.cell 0
  have f3 := b2.cell 3
  have f4 := b2.cell 4
  have fl := b2.lt
  simp at f0 f3 f4
  clear cA bx
  go_wp2_with fail
  refine (cB _).mono ?_
  rintro e w3 ⟨rfl, g3⟩
  have y2 := (At.new w2 (kC x) 27).gr g3
  have b3 := (b2.alloc (.cells (kC x) 27)).gr g3
  have v0 := b3.cell 0
  simp at v0
  have p0 : w3.cell? ⟨w2.heap.size, 0, none⟩ = some (.int .i64 x.1) := y2.cell 0
  have p1 : w3.cell? ⟨w2.heap.size, 1, none⟩ = some (.int .i64 x.2) := y2.cell 1
  have hll := b3.lt
  have hlp := y2.lt
  have G3 := (((G0.gr g2).alloc (.cells (kC x) 27)).gr g3).alloc (.cells (kC y) 27)
  have y4 := y2.alloc (.cells (kC y) 27)
  have z4 := At.new w3 (kC y) 27
  have h4 := h.bl G3
  have hR4 := hR.bl G3
  have hs4 := h4.g.size
  clear cB b2 f0 f3 f4 fl g2 G0 y2 b3 g3
  go_wp2_with fail
  refine (rRaiseK (c := cR) hR4 (by omega) (by omega) x y).mono ?_
  rintro e w5 ⟨A5, c5, rfl, own5, g5⟩
  have h5 := h4.bl g5
  have y5 := y4.bl g5
  have z5 := z4.bl g5
  have q0 : w5.cell? ⟨w2.heap.size, 0, none⟩ = some (.int .i64 x.1) := y5.cell 0
  have q1 : w5.cell? ⟨w2.heap.size, 1, none⟩ = some (.int .i64 x.2) := y5.cell 1
  have q2 : w5.cell? ⟨w3.heap.size, 0, none⟩ = some (.int .i64 y.1) := z5.cell 0
  have q3 : w5.cell? ⟨w3.heap.size, 1, none⟩ = some (.int .i64 y.2) := z5.cell 1
  have hs5 := g5.size
  have q5 := h5.g.size
  clear y4 z4 p0 p1
  go_wp2_with fail
  refine (pRaiseK h5.p (by omega) (by omega) x y).mono ?_
  rintro e w6 ⟨rfl, q6⟩
  obtain ⟨A6, c6, S6, K6⟩ := h5.next q6
  have r6 := own5.kx K6 (h5.p.xf (by decide) (by decide))
  go_wp2
  go_ret2
  exact ⟨A6, c6, A5, c5, rfl, S6, r6⟩

set_option maxRecDepth 100000 in
set_option maxHeartbeats 2000000 in
theorem doesK_4 {w0 w : World} {pa c cR : Nat} {A AR : Option Addr} {L : List Ky} (h : SS w0 w pa A c L) (hR : OwK w w0.heap.size AR cR L) (hl : L.length ≤ 10000) (a b : Ky) (ha1 : I64 a.1) (ha2 : I64 a.2) (hb1 : I64 b.1) (hb2 : I64 b.2) :
    Calls Try.prog 10 #[.pointer (some ⟨pa, 0, none⟩), .slice AR L.length cR, .agg #[.int .i64 4, .int .i64 a.1, .int .i64 a.2, .int .i64 b.1, .int .i64 b.2]] w (DoQ w0 pa (topK L (smK a))) := by
  have bx := At.new w #[.int .i64 4, .int .i64 a.1, .int .i64 a.2, .int .i64 b.1, .int .i64 b.2] 34
  have G0 := (Bl.refl w).alloc (.cells #[.int .i64 4, .int .i64 a.1, .int .i64 a.2, .int .i64 b.1, .int .i64 b.2] 34)
  have cA := fun V => small14 a ha1 ha2 V
  have cB := fun V => small14 b hb1 hb2 V
  generalize smK a = x at *
  generalize smK b = y at *
  go_enter Try.func10, Try.ntmps10
  go_wp2_with fail
  refine (cA _).mono ?_
  rintro e w2 ⟨rfl, g2⟩
  have b2 := bx.gr g2
  have f0 := b2.cell 0
  have f3 := b2.cell 3
  have f4 := b2.cell 4
  have fl := b2.lt
  simp at f0 f3 f4
  clear cA bx
  go_wp2_with fail
  refine (cB _).mono ?_
  rintro e w3 ⟨rfl, g3⟩
  have y2 := (At.new w2 (kC x) 27).gr g3
  have b3 := (b2.alloc (.cells (kC x) 27)).gr g3
  have v0 := b3.cell 0
  simp at v0
  have p0 : w3.cell? ⟨w2.heap.size, 0, none⟩ = some (.int .i64 x.1) := y2.cell 0
  have p1 : w3.cell? ⟨w2.heap.size, 1, none⟩ = some (.int .i64 x.2) := y2.cell 1
  have hll := b3.lt
  have hlp := y2.lt
  have G3 := (((G0.gr g2).alloc (.cells (kC x) 27)).gr g3).alloc (.cells (kC y) 27)
  have y4 := y2.alloc (.cells (kC y) 27)
  have z4 := At.new w3 (kC y) 27
  have h4 := h.bl G3
  have hR4 := hR.bl G3
  have hs4 := h4.g.size
  clear cB b2 f0 f3 f4 fl g2 G0 y2 b3 g3
  go_wp2_with fail
  refine (rTopK (c := cR) hR4 (by omega) (by omega) x).mono ?_
  rintro e w5 ⟨A5, c5, rfl, own5, g5⟩
  have h5 := h4.bl g5
  have y5 := y4.bl g5
  have z5 := z4.bl g5
  have q0 : w5.cell? ⟨w2.heap.size, 0, none⟩ = some (.int .i64 x.1) := y5.cell 0
  have q1 : w5.cell? ⟨w2.heap.size, 1, none⟩ = some (.int .i64 x.2) := y5.cell 1
  have q2 : w5.cell? ⟨w3.heap.size, 0, none⟩ = some (.int .i64 y.1) := z5.cell 0
  have q3 : w5.cell? ⟨w3.heap.size, 1, none⟩ = some (.int .i64 y.2) := z5.cell 1
  have hs5 := g5.size
  have q5 := h5.g.size
  clear y4 z4 p0 p1
  go_wp2_with fail
  refine (pTopK h5.p (by omega) (by omega) x).mono ?_
  rintro e w6 ⟨rfl, q6⟩
  obtain ⟨A6, c6, S6, K6⟩ := h5.next q6
  have r6 := own5.kx K6 (h5.p.xf (by decide) (by decide))
  go_wp2
  go_ret2
  exact ⟨A6, c6, A5, c5, rfl, S6, r6⟩

set_option maxRecDepth 100000 in
set_option maxHeartbeats 2000000 in
theorem doesK_5 {w0 w : World} {pa c cR : Nat} {A AR : Option Addr} {L : List Ky} (h : SS w0 w pa A c L) (hR : OwK w w0.heap.size AR cR L) (hl : L.length ≤ 10000) (a b : Ky) (ha1 : I64 a.1) (ha2 : I64 a.2) (hb1 : I64 b.1) (hb2 : I64 b.2) :
    Calls Try.prog 10 #[.pointer (some ⟨pa, 0, none⟩), .slice AR L.length cR, .agg #[.int .i64 5, .int .i64 a.1, .int .i64 a.2, .int .i64 b.1, .int .i64 b.2]] w (DoQ w0 pa (lowK L (smK a))) := by
  have bx := At.new w #[.int .i64 5, .int .i64 a.1, .int .i64 a.2, .int .i64 b.1, .int .i64 b.2] 34
  have G0 := (Bl.refl w).alloc (.cells #[.int .i64 5, .int .i64 a.1, .int .i64 a.2, .int .i64 b.1, .int .i64 b.2] 34)
  have cA := fun V => small14 a ha1 ha2 V
  have cB := fun V => small14 b hb1 hb2 V
  generalize smK a = x at *
  generalize smK b = y at *
  go_enter Try.func10, Try.ntmps10
  go_wp2_with fail
  refine (cA _).mono ?_
  rintro e w2 ⟨rfl, g2⟩
  have b2 := bx.gr g2
  have f0 := b2.cell 0
  have f3 := b2.cell 3
  have f4 := b2.cell 4
  have fl := b2.lt
  simp at f0 f3 f4
  clear cA bx
  go_wp2_with fail
  refine (cB _).mono ?_
  rintro e w3 ⟨rfl, g3⟩
  have y2 := (At.new w2 (kC x) 27).gr g3
  have b3 := (b2.alloc (.cells (kC x) 27)).gr g3
  have v0 := b3.cell 0
  simp at v0
  have p0 : w3.cell? ⟨w2.heap.size, 0, none⟩ = some (.int .i64 x.1) := y2.cell 0
  have p1 : w3.cell? ⟨w2.heap.size, 1, none⟩ = some (.int .i64 x.2) := y2.cell 1
  have hll := b3.lt
  have hlp := y2.lt
  have G3 := (((G0.gr g2).alloc (.cells (kC x) 27)).gr g3).alloc (.cells (kC y) 27)
  have y4 := y2.alloc (.cells (kC y) 27)
  have z4 := At.new w3 (kC y) 27
  have h4 := h.bl G3
  have hR4 := hR.bl G3
  have hs4 := h4.g.size
  clear cB b2 f0 f3 f4 fl g2 G0 y2 b3 g3
  go_wp2_with fail
  refine (rLowK (c := cR) hR4 (by omega) (by omega) x).mono ?_
  rintro e w5 ⟨A5, c5, rfl, own5, g5⟩
  have h5 := h4.bl g5
  have y5 := y4.bl g5
  have z5 := z4.bl g5
  have q0 : w5.cell? ⟨w2.heap.size, 0, none⟩ = some (.int .i64 x.1) := y5.cell 0
  have q1 : w5.cell? ⟨w2.heap.size, 1, none⟩ = some (.int .i64 x.2) := y5.cell 1
  have q2 : w5.cell? ⟨w3.heap.size, 0, none⟩ = some (.int .i64 y.1) := z5.cell 0
  have q3 : w5.cell? ⟨w3.heap.size, 1, none⟩ = some (.int .i64 y.2) := z5.cell 1
  have hs5 := g5.size
  have q5 := h5.g.size
  clear y4 z4 p0 p1
  go_wp2_with fail
  refine (pLowK h5.p (by omega) (by omega) x).mono ?_
  rintro e w6 ⟨rfl, q6⟩
  obtain ⟨A6, c6, S6, K6⟩ := h5.next q6
  have r6 := own5.kx K6 (h5.p.xf (by decide) (by decide))
  go_wp2
  go_ret2
  exact ⟨A6, c6, A5, c5, rfl, S6, r6⟩

set_option maxRecDepth 100000 in
set_option maxHeartbeats 2000000 in
theorem doesK_n {w0 w : World} {pa c cR : Nat} {A AR : Option Addr} {L : List Ky} (h : SS w0 w pa A c L) (hR : OwK w w0.heap.size AR cR L) (_hl : L.length ≤ 10000) (k : Int) (a b : Ky) (ha1 : I64 a.1) (ha2 : I64 a.2) (hb1 : I64 b.1) (hb2 : I64 b.2) (hk0 : k ≠ 0) (hk1 : k ≠ 1) (hk2 : k ≠ 2) (hk3 : k ≠ 3) (hk4 : k ≠ 4) (hk5 : k ≠ 5) :
    Calls Try.prog 10 #[.pointer (some ⟨pa, 0, none⟩), .slice AR L.length cR, .agg #[.int .i64 k, .int .i64 a.1, .int .i64 a.2, .int .i64 b.1, .int .i64 b.2]] w (DoQ w0 pa (L)) := by
  have e0 : (k == 0) = false := by simpa using hk0
  have e1 : (k == 1) = false := by simpa using hk1
  have e2 : (k == 2) = false := by simpa using hk2
  have e3 : (k == 3) = false := by simpa using hk3
  have e4 : (k == 4) = false := by simpa using hk4
  have e5 : (k == 5) = false := by simpa using hk5
  have bx := At.new w #[.int .i64 k, .int .i64 a.1, .int .i64 a.2, .int .i64 b.1, .int .i64 b.2] 34
  have G0 := (Bl.refl w).alloc (.cells #[.int .i64 k, .int .i64 a.1, .int .i64 a.2, .int .i64 b.1, .int .i64 b.2] 34)
  have cA := fun V => small14 a ha1 ha2 V
  have cB := fun V => small14 b hb1 hb2 V
  generalize smK a = x at *
  generalize smK b = y at *
  go_enter Try.func10, Try.ntmps10
  go_wp2_with fail
  refine (cA _).mono ?_
  rintro e w2 ⟨rfl, g2⟩
  have b2 := bx.gr g2
  have f0 := b2.cell 0
  have f3 := b2.cell 3
  have f4 := b2.cell 4
  have fl := b2.lt
  simp at f0 f3 f4
  clear cA bx
  go_wp2_with fail
  refine (cB _).mono ?_
  rintro e w3 ⟨rfl, g3⟩
  have y2 := (At.new w2 (kC x) 27).gr g3
  have b3 := (b2.alloc (.cells (kC x) 27)).gr g3
  have v0 := b3.cell 0
  simp at v0
  have p0 : w3.cell? ⟨w2.heap.size, 0, none⟩ = some (.int .i64 x.1) := y2.cell 0
  have p1 : w3.cell? ⟨w2.heap.size, 1, none⟩ = some (.int .i64 x.2) := y2.cell 1
  have hll := b3.lt
  have hlp := y2.lt
  have G3 := (((G0.gr g2).alloc (.cells (kC x) 27)).gr g3).alloc (.cells (kC y) 27)
  have y4 := y2.alloc (.cells (kC y) 27)
  have z4 := At.new w3 (kC y) 27
  have h4 := h.bl G3
  have hR4 := hR.bl G3
  have hs4 := h4.g.size
  clear cB b2 f0 f3 f4 fl g2 G0 y2 b3 g3
  go_wp2
  go_ret2
  exact ⟨A, c, AR, cR, rfl, h4, hR4⟩

theorem doesK {w0 w : World} {pa c cR : Nat} {A AR : Option Addr} {L : List Ky} (h : SS w0 w pa A c L) (hR : OwK w w0.heap.size AR cR L) (hl : L.length ≤ 10000) (d : Dk) (hd : I64k d) :
    Calls Try.prog 10 #[.pointer (some ⟨pa, 0, none⟩), .slice AR L.length cR, .agg #[.int .i64 d.k, .int .i64 d.a.1, .int .i64 d.a.2, .int .i64 d.b.1, .int .i64 d.b.2]] w (DoQ w0 pa (stepD L d)) := by
  obtain ⟨k, a, b⟩ := d
  obtain ⟨_, h1, h2, h3, h4⟩ := hd
  dsimp only at h1 h2 h3 h4
  unfold stepD
  dsimp only
  by_cases k0 : k = 0
  · rw [if_pos k0, k0]; exact doesK_0 h hR hl a b h1 h2 h3 h4
  rw [if_neg k0]
  by_cases k1 : k = 1
  · rw [if_pos k1, k1]; exact doesK_1 h hR hl a b h1 h2 h3 h4
  rw [if_neg k1]
  by_cases k2 : k = 2
  · rw [if_pos k2, k2]; exact doesK_2 h hR hl a b h1 h2 h3 h4
  rw [if_neg k2]
  by_cases k3 : k = 3
  · rw [if_pos k3, k3]; exact doesK_3 h hR hl a b h1 h2 h3 h4
  rw [if_neg k3]
  by_cases k4 : k = 4
  · rw [if_pos k4, k4]; exact doesK_4 h hR hl a b h1 h2 h3 h4
  rw [if_neg k4]
  by_cases k5 : k = 5
  · rw [if_pos k5, k5]; exact doesK_5 h hR hl a b h1 h2 h3 h4
  rw [if_neg k5]
  exact doesK_n h hR hl k a b h1 h2 h3 h4 k0 k1 k2 k3 k4 k5
end

end Go.Proofs.Ytgjoipndhlngnaa
