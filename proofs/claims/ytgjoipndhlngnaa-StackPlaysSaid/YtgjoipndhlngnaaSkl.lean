/-
  What is proved: what Add, Drop, Top, Lower, Raise, All, New of the program's stack do. Conditions: bounds on lengths.
-/
import Derived.Test.YtgjoipndhlngnaaSkk
import Derived.Deep.RegionHeld3
import Derived.Deep.RegionWith
namespace Go.Proofs.Ytgjoipndhlngnaa
open Go.ChangeShapes Go.WideShapes Go.ChangeAt Go.RowKit Go.Joins Go.Sort Go.Deep

section
attribute [local go_sem ↓] eqlK neqK eqlP neqP

/-- A stack's own blocks. -/
def SX (pa : Nat) (A : Option Addr) (b : Nat) : Prop := b = pa ∨ A.map (·.block) = some b
/-- The row lies where it lay, or is new. -/
def NbQ (w : World) (A A' : Option Addr) : Prop := A'.map (·.block) = A.map (·.block) ∨ ∃ g, A'.map (·.block) = some g ∧ w.heap.size ≤ g
theorem NbQ.refl (w : World) (A : Option Addr) : NbQ w A A := .inl rfl
theorem NbQ.trans {w w2 : World} {A A2 A3 : Option Addr} (h : NbQ w A A2) (k : NbQ w2 A2 A3) (hs : w.heap.size ≤ w2.heap.size) : NbQ w A A3 := by
  rcases k with k | ⟨g, k1, k2⟩
  · rcases h with h | ⟨g, h1, h2⟩
    · exact .inl (k.trans h)
    · exact .inr ⟨g, k.trans h1, h2⟩
  · exact .inr ⟨g, k1, Nat.le_trans hs k2⟩
theorem NbQ.low {w w0 : World} {A A2 : Option Addr} (h : NbQ w A A2) (hs : w0.heap.size ≤ w.heap.size) : NbQ w0 A A2 := h.imp id fun ⟨g, h1, h2⟩ => ⟨g, h1, Nat.le_trans hs h2⟩
theorem Kx.row {w w' : World} {A : Option Addr} (pa : Nat) (g : w.grownBy w' (A.map (·.block))) : Kx (SX pa A) w w' := by
  cases A with
  | none => exact Kx.bl (By.none g)
  | some a => exact Kx.by g (.inr rfl)
theorem Kx.next {w w2 w3 : World} {pa : Nat} {A A2 : Option Addr} (h : Kx (SX pa A) w w2) (k : Kx (SX pa A2) w2 w3) (n : NbQ w A A2) : Kx (SX pa A) w w3 := h.trans k fun j hj => by
  rcases hj with hj | hj
  · exact .inl (.inl hj)
  · rcases n with n | ⟨g, n1, n2⟩
    · exact .inl (.inr (n ▸ hj))
    · rw [n1] at hj; cases hj; exact .inr n2
theorem PrS.ne {w : World} {B pa c : Nat} {A : Option Addr} {L : List Ky} (h : PrS w B pa A c L) : some pa ≠ A.map (·.block) := by
  rcases h.own.ne_at h.hd (by decide) with rfl | h'
  · simp
  · exact fun e => h' e.symm
/-- What a step leaves: the stack's new row, all else as it was. -/
def StQ (w : World) (B pa : Nat) (A : Option Addr) (L' : List Ky) (w' : World) : Prop := ∃ A' c', PrS w' B pa A' c' L' ∧ Kx (SX pa A) w w' ∧ NbQ w A A'
theorem StQ.refl {w w' : World} {B pa c : Nat} {A : Option Addr} {L : List Ky} (h : PrS w B pa A c L) (g : Bl w w') : StQ w B pa A L w' := ⟨A, c, h.bl g, Kx.bl g, .inl rfl⟩
theorem StQ.next {w w2 w3 : World} {B pa : Nat} {A A2 : Option Addr} {L3 : List Ky} (k : Kx (SX pa A) w w2) (n : NbQ w A A2) (h : StQ w2 B pa A2 L3 w3) : StQ w B pa A L3 w3 := by
  obtain ⟨A', c', h1, h2, h3⟩ := h
  exact ⟨A', c', h1, k.next h2 n, n.trans h3 k.size⟩
/-- The new row is stored. -/
theorem StQ.mk {w W w4 : World} {B pa c c4 : Nat} {A A4 : Option Addr} {L L4 : List Ky} (h : PrS W B pa A c L) (k : Bl w W) (own4 : OwP w4 B A4 c4 L4) (ap4 : W.grownBy w4 (A.map (·.block))) (nb : NbQ W A A4) (hn : L4.Nodup) :
    StQ w B pa A L4 (w4.setCell ⟨pa, 0, none⟩ (.slice A4 L4.length c4)) := by
  have m4 := h.hd.grown ap4 h.ne
  have gS : w4.grownBy (w4.setCell ⟨pa, 0, none⟩ (.slice A4 L4.length c4)) (some pa) := By.set (p := ⟨pa, 0, none⟩) (By.refl w4 _) _
  exact ⟨A4, c4, ⟨m4.put 0 _, own4.by gS (own4.ne_at m4 (by decide)), hn⟩, ((Kx.bl k).then (Kx.row pa ap4)).then (Kx.by gS (.inl rfl)), nb.low k.size⟩

set_option maxRecDepth 100000 in
set_option maxHeartbeats 2000000 in
theorem pAddK {w : World} {B pa c : Nat} {A : Option Addr} {L : List Ky} (h : PrS w B pa A c L) (hl : L.length ≤ 100000) (hB : B ≤ w.heap.size) (k : Ky) :
    Calls Try.prog 20 #[.pointer (some ⟨pa, 0, none⟩), kV k] w fun e w' => e = .returned (.bool (!decide (k ∈ L))) ∧ StQ w B pa A (addK L k) w' := by
  have cA := fun V (g : Bl w V) => pAt1 (h.bl g) (by omega) k
  by_cases hk : k ∈ L
  · have e1 : addK L k = L := if_pos hk
    have e2 : (!decide (k ∈ L)) = false := by simp [hk]
    rw [e1, e2]
    have hge : (atK L k != -1) = true := by have := at_ge.2 hk; simp; omega
    clear e1 e2 hk
    generalize atK L k = q at *
    go_enter Try.func20, Try.ntmps20
    go_wp2_with fail
    refine (cA _ ((Bl.refl w).alloc _)).mono ?_
    rintro e w3 ⟨rfl, g3⟩
    have G3 := ((Bl.refl w).alloc _).trans g3.bl
    go_wp2
    go_ret
    exact ⟨rfl, StQ.refl h G3⟩
  · have e1 : addK L k = L ++ [k] := if_neg hk
    have e2 : (!decide (k ∈ L)) = true := by simp [hk]
    have hnd := add_nodup h.nd k
    rw [e1] at hnd
    rw [e1, e2]
    have hge : (atK L k != -1) = false := by rw [at_out hk]; rfl
    clear e1 e2 hk
    generalize atK L k = q at *
    have b0 := At.new w (kC k) 26
    have G0 := (Bl.refl w).alloc (.cells (kC k) 26)
    go_enter Try.func20, Try.ntmps20
    go_wp2_with fail
    refine (cA _ ((Bl.refl w).alloc _)).mono ?_
    rintro e w3 ⟨rfl, g3⟩
    have G3 := G0.trans g3.bl
    have h3 := h.bl G3
    have b3 := b0.gr g3
    have x0 : w3.cell? ⟨w.heap.size, 0, none⟩ = some (.int .i64 k.1) := b3.cell 0
    have x1 : w3.cell? ⟨w.heap.size, 1, none⟩ = some (.int .i64 k.2) := b3.cell 1
    have p0 : w3.cell? ⟨pa, 0, none⟩ = some (.slice A L.length c) := h3.hd.cell 0
    have hs3 := G3.size
    have pl := h3.hd.lt
    have xl := b3.lt
    clear cA b0 G0 g3
    go_wp2
    go_region_law (refine Shp.step_app (S := shK) Try.underlying24 infoP rfl (by decide) (by rfl) (.tmp 13) (.tmp 15) (by rfl) A c L (by rfl) B (h3.own.bl (((Bl.refl w3).alloc _).drew)) (some ⟨w3.heap.size, 0, none⟩) 1 [k] (by rfl) (by simp) (Shp.Rd.new1 (At.drew (At.new w3 _ _)) rfl) (by simp; omega) (by simp; omega) ?_; intro A4 c4 w4 own4 ap4 lies4; have m4 := (h3.hd.bl (((Bl.refl w3).alloc _).drew)).grown ap4 h3.ne; have m0 := m4.cell 0; have z0 := m4.free 0; simp only [List.length_cons, List.length_nil, Nat.zero_add] at *)
    all_goals
      have q := StQ.mk (h3.bl (((Bl.refl w3).alloc (.cells (kC k) 26)).drew)) ((G3.alloc _).drew) own4 ap4 (lies4.imp id fun e => ⟨_, e, Nat.le_refl _⟩) hnd
      rw [List.length_append] at q
      go_wp2
      go_ret
      exact ⟨rfl, q⟩

set_option maxRecDepth 100000 in
set_option maxHeartbeats 2000000 in
theorem pDropK {w : World} {B pa c : Nat} {A : Option Addr} {L : List Ky} (h : PrS w B pa A c L) (hl : L.length ≤ 100000) (k : Ky) :
    Calls Try.prog 27 #[.pointer (some ⟨pa, 0, none⟩), kV k] w fun e w' => e = .returned (.bool (decide (k ∈ L))) ∧ StQ w B pa A (dropK L k) w' := by
  have cA := fun V (g : Bl w V) => pAt1 (h.bl g) (by omega) k
  by_cases hk : k ∈ L
  · have e1 := drop_cut h.nd hk
    have e2 : decide (k ∈ L) = true := by simp [hk]
    have hnd := drop_nodup h.nd k
    have hi := ix_lt hk
    rw [e1] at hnd
    rw [at_in hk] at cA
    rw [e1, e2]
    clear e1 e2 hk
    generalize ixK L k = i at *
    have hge : ((i : Int) == -1) = false := by simp
    have hge' : ¬ ((i : Int) = -1) := by omega
    obtain ⟨g, rfl⟩ : ∃ g, A = some ⟨g, 0, none⟩ := by
      rcases h.own.lies with rfl | ⟨g, rfl, _⟩
      · have := h.own.caps; have := this.2.2 rfl; omega
      · exact ⟨g, rfl⟩
    have cD := fun V (g : Bl w V) => delK (h.bl g).own hl i hi
    generalize L.take i ++ L.drop (i + 1) = L4 at *
    go_enter Try.func27, Try.ntmps27
    go_wp2_with fail
    refine (cA _ ((Bl.refl w).alloc _)).mono ?_
    rintro e w3 ⟨rfl, g3⟩
    have G3 := ((Bl.refl w).alloc (.cells (kC k) 26)).trans g3.bl
    have h3 := h.bl G3
    have p0 : w3.cell? ⟨pa, 0, none⟩ = some (.slice (some ⟨g, 0, none⟩) L.length c) := h3.hd.cell 0
    have hw : IntKind.i64.wrap ((i : Int) + 1) = (i : Int) + 1 := by rw [IntKind.wrap_i64]; omega
    clear cA g3
    go_wp2_with fail
    refine (cD _ G3).mono ?_
    rintro e w4 ⟨rfl, own4, ap4⟩
    have m4 := h3.hd.grown (row := some g) ap4 h3.ne
    have m0 := m4.cell 0
    have z0 := m4.free 0
    have q := StQ.mk h3 G3 own4 ap4 (.inl rfl) hnd
    clear cD hge hge'
    go_wp2
    go_ret
    exact ⟨rfl, q⟩
  · have e1 : dropK L k = L := drop_out hk
    have e2 : decide (k ∈ L) = false := by simp [hk]
    rw [e1, e2]
    rw [at_out hk] at cA
    clear e1 e2 hk
    go_enter Try.func27, Try.ntmps27
    go_wp2_with fail
    refine (cA _ ((Bl.refl w).alloc _)).mono ?_
    rintro e w3 ⟨rfl, g3⟩
    have G3 := ((Bl.refl w).alloc _).trans g3.bl
    go_wp2
    go_ret
    exact ⟨rfl, StQ.refl h G3⟩

set_option maxRecDepth 100000 in
set_option maxHeartbeats 2000000 in
theorem pTopK {w : World} {B pa c : Nat} {A : Option Addr} {L : List Ky} (h : PrS w B pa A c L) (hl : L.length ≤ 100000) (hB : B ≤ w.heap.size) (k : Ky) :
    Calls Try.prog 22 #[.pointer (some ⟨pa, 0, none⟩), kV k] w fun e w' => e = .returned (.int .i64 (oneE L k)) ∧ StQ w B pa A (topK L k) w' := by
  have cD := fun V (g : Bl w V) => pDropK (h.bl g) hl k
  have b0 := At.new w (kC k) 26
  have hX : ∀ j, SX pa A j → j < w.heap.size := fun j hj => by
    rcases hj with rfl | hj
    · exact h.hd.lt
    · exact h.own.ltn j hj
  by_cases hk : k ∈ L
  · have e1 : topK L k = addK (dropK L k) k := by
      unfold topK addK
      rw [if_pos hk, if_neg (fun h' => (drop_mem.1 h').2 rfl)]
    have e2 : oneE L k = 0 := if_pos hk
    have e3 : decide (k ∈ L) = true := by simp [hk]
    have hDl := drop_len L k
    rw [e1, e2]
    rw [e3] at cD
    clear e1 e2 e3 hk
    generalize dropK L k = D at *
    go_enter Try.func22, Try.ntmps22
    go_wp2_with fail
    refine (cD _ ((Bl.refl w).alloc _)).mono ?_
    rintro e w3 ⟨rfl, A3, c3, h3, k3, n3⟩
    have b3 := b0.kx k3 (fun hx => by have := hX _ hx; omega)
    have x0 : w3.cell? ⟨w.heap.size, 0, none⟩ = some (.int .i64 k.1) := b3.cell 0
    have x1 : w3.cell? ⟨w.heap.size, 1, none⟩ = some (.int .i64 k.2) := b3.cell 1
    have hs3 := k3.size
    simp at hs3
    have K3 : Kx (SX pa A) w w3 := (Kx.bl ((Bl.refl w).alloc _)).then k3
    have N3 : NbQ w A A3 := n3.low (by simp)
    clear cD
    go_wp2_with fail
    refine (pAddK h3 (by omega) (by omega) k).mono ?_
    rintro e w4 ⟨rfl, q4⟩
    go_wp2
    go_ret
    exact ⟨rfl, StQ.next K3 N3 q4⟩
  · have e1 : topK L k = L := if_neg hk
    have e2 : oneE L k = 5 := if_neg hk
    have e3 : decide (k ∈ L) = false := by simp [hk]
    have e4 := drop_out hk
    rw [e1, e2]
    rw [e3, e4] at cD
    clear e1 e2 e3 e4 hk
    go_enter Try.func22, Try.ntmps22
    go_wp2_with fail
    refine (cD _ ((Bl.refl w).alloc _)).mono ?_
    rintro e w3 ⟨rfl, q⟩
    have q' := StQ.next (Kx.bl ((Bl.refl w).alloc (.cells (kC k) 26))) (NbQ.refl w A) q
    go_wp2
    go_ret
    exact ⟨rfl, q'⟩

set_option maxRecDepth 100000 in
set_option maxHeartbeats 2000000 in
theorem pLowK {w : World} {B pa c : Nat} {A : Option Addr} {L : List Ky} (h : PrS w B pa A c L) (hl : L.length ≤ 100000) (hB : B ≤ w.heap.size) (k : Ky) :
    Calls Try.prog 23 #[.pointer (some ⟨pa, 0, none⟩), kV k] w fun e w' => e = .returned (.int .i64 (oneE L k)) ∧ StQ w B pa A (lowK L k) w' := by
  have cD := fun V (g : Bl w V) => pDropK (h.bl g) hl k
  have b0 := At.new w (kC k) 26
  have hX : ∀ j, SX pa A j → j < w.heap.size := fun j hj => by
    rcases hj with rfl | hj
    · exact h.hd.lt
    · exact h.own.ltn j hj
  by_cases hk : k ∈ L
  · have e1 : lowK L k = (dropK L k).take 0 ++ [k] ++ (dropK L k).drop 0 := by unfold lowK; rw [if_pos hk]; simp
    have e2 : oneE L k = 0 := if_pos hk
    have e3 : decide (k ∈ L) = true := by simp [hk]
    have hDl := drop_len L k
    have hnd : (lowK L k).Nodup := by
      unfold lowK
      rw [if_pos hk, List.nodup_cons]
      exact ⟨fun h' => (drop_mem.1 h').2 rfl, drop_nodup h.nd k⟩
    rw [e1] at hnd
    rw [e1, e2]
    rw [e3] at cD
    clear e1 e2 e3 hk
    generalize dropK L k = D at *
    go_enter Try.func23, Try.ntmps23
    go_wp2_with fail
    refine (cD _ ((Bl.refl w).alloc _)).mono ?_
    rintro e w3 ⟨rfl, A3, c3, h3, k3, n3⟩
    have b3 := b0.kx k3 (fun hx => by have := hX _ hx; omega)
    have x0 : w3.cell? ⟨w.heap.size, 0, none⟩ = some (.int .i64 k.1) := b3.cell 0
    have x1 : w3.cell? ⟨w.heap.size, 1, none⟩ = some (.int .i64 k.2) := b3.cell 1
    have hs3 := k3.size
    simp at hs3
    have K3 : Kx (SX pa A) w w3 := (Kx.bl ((Bl.refl w).alloc _)).then k3
    have N3 : NbQ w A A3 := n3.low (by simp)
    have p0 : w3.cell? ⟨pa, 0, none⟩ = some (.slice A3 D.length c3) := h3.hd.cell 0
    have pl := h3.hd.lt
    have xl := b3.lt
    have G4 : Bl w3 (w3.alloc (.cells (kC k) 26)).drew := ((Bl.refl w3).alloc _).drew
    have h4 := h3.bl G4
    have cI := insK h4.own (by have := G4.size; omega) (by omega) 0 (Nat.zero_le _) k w3.heap.size (At.drew (At.new w3 (kC k) 26)) (fun e => by have := h3.own.ltn _ e; omega)
    rw [show ((0 : Nat) : Int) = 0 from rfl] at cI
    simp only [List.take_zero, List.drop_zero, List.nil_append] at cI hnd ⊢
    clear cD
    go_wp2
    go_region_with (first | (go_at_call 36; (refine cI.mono ?_); rintro e w5 ⟨A5, c5, rfl, own5, ap5, nb5⟩; have m5 := h4.hd.grown ap5 h4.ne; have m0 := m5.cell 0; have z0 := m5.free 0; have q := StQ.mk h4 G4 own5 ap5 nb5 hnd) | fail)
    all_goals
      go_wp2
      go_ret
      exact ⟨rfl, StQ.next K3 N3 q⟩
  · have e1 : lowK L k = L := if_neg hk
    have e2 : oneE L k = 5 := if_neg hk
    have e3 : decide (k ∈ L) = false := by simp [hk]
    have e4 := drop_out hk
    rw [e1, e2]
    rw [e3, e4] at cD
    clear e1 e2 e3 e4 hk
    go_enter Try.func23, Try.ntmps23
    go_wp2_with fail
    refine (cD _ ((Bl.refl w).alloc _)).mono ?_
    rintro e w3 ⟨rfl, q⟩
    have q' := StQ.next (Kx.bl ((Bl.refl w).alloc (.cells (kC k) 26))) (NbQ.refl w A) q
    go_wp2
    go_ret
    exact ⟨rfl, q'⟩

theorem pAllK {w : World} {B pa c : Nat} {A : Option Addr} {L : List Ky} (h : PrS w B pa A c L) (hl : L.length ≤ 100000) :
    Calls Try.prog 14 #[.pointer (some ⟨pa, 0, none⟩)] w fun e w' => ∃ A' c', e = .returned (.slice A' L.length c') ∧ OwP w' w.heap.size A' c' L ∧ Bl w w' := by
  have p0 : w.cell? ⟨pa, 0, none⟩ = some (.slice A L.length c) := h.hd.cell 0
  have hc := h.own.caps
  go_enter Try.func14, Try.ntmps14
  go_wp2_with fail
  refine (clnK h.own.rd hc.2.2 hc.1 hl).mono ?_
  rintro e w3 ⟨A3, c3, rfl, own3, g3⟩
  go_wp2
  go_ret
  exact ⟨A3, c3, rfl, own3, g3⟩
end

end Go.Proofs.Ytgjoipndhlngnaa
