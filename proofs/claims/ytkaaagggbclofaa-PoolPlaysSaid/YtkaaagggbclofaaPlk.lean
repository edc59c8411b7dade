/-
  What is proved: what the document's Let hands back. Conditions: at most 1000 buffers, none held more than 1000 times.
-/
import Derived.Test.YtkaaagggbclofaaPlh
import Derived.Deep.DeepCutAuto
namespace Go.Proofs.Ytkaaagggbclofaa
open Go.ChangeShapes Go.WideShapes Go.ChangeAt Go.RowKit Go.Joins Go.Sort Go.Deep Go.Maps

section
variable {w : World} {A : Option Addr} {c n : Nat} {D : List Db} {S : List Bf}
set_option maxRecDepth 100000 in
set_option maxHeartbeats 1000000 in
theorem rLet12 (h : DcR w A c D S) (ok : OkS n S) (hn : n ≤ 1000) (m : Int) (hm : I64 m) : Calls Try.prog 27 #[.agg #[.slice A D.length c], .int .i64 m] w (DcQ w A D (leS S m) (fun p => .tuple #[p, .int .i64 (leI S m), .bool (leB S m)])) := by
  have hDl : D.length ≤ 1000 := by have := h.len; have := ok.few; omega
  have g0 := ((Gr.refl w).alloc (.cells #[.slice A D.length c] 27)).alloc (.cells #[.slice none 0 0] 27)
  have P0 := (At.new w #[.slice A D.length c] 27).alloc (.cells #[.slice none 0 0] 27)
  have R0 := At.newAt (w := w.alloc (.cells #[.slice A D.length c] 27)) (n := w.heap.size + 1) (by simp) #[.slice none 0 0] 27
  have cT := rThere1 (c := c) (h.rd.bl g0.bl) hDl m hm
  rw [h.is] at cT
  unfold leS leI leB
  cases ha : atS S m with
  | none =>
    rw [ha] at cT
    go_enter Try.func27, Try.ntmps27
    go_wp2_with fail
    refine cT.mono ?_
    rintro e v1 ⟨rfl, g1⟩
    have P1 := (P0.gr g1).cell 0
    have R1 := (R0.gr g1)
    have r0 := R1.cell 0
    have rf := R1.free 0
    clear cT
    go_wp2
    have R2 := R1.put 0 (.slice A D.length c)
    have d0 := R2.cell 0
    simp at d0
    exact bodyPost_ret (v := .tuple #[.agg #[.slice A D.length c], .int .i64 0, .bool false]) (by simp [results, Try.results27, go_sem, d0]) rfl (DcQ.same (f := fun p => .tuple #[p, .int .i64 0, .bool false]) h ((g0.trans g1).bl.setCell (p := ⟨w.heap.size + 1, 0, none⟩) (by simp) _))
  | some k =>
    rw [ha] at cT
    obtain ⟨s, rfl, hk, ht, hg⟩ := atS_some ha
    dsimp only
    rw [hg]
    obtain ⟨d, hd, rfl⟩ := h.at hk
    have hkl := (List.getElem?_eq_some_iff.1 hd).1
    obtain ⟨b, off, rfl, hrow⟩ := h.rd.opened (by omega)
    have hE := Lib.hid (fun (V : World) (g : Gr w V) => db_at (hrow.bl g.bl) hd)
    by_cases h0 : d.s.hd = 0
    · rw [if_pos h0, if_pos h0, if_pos h0]
      have fin := Lib.hid (fun (V : World) (G : Bl w V) => DcQ.same (f := fun p => .tuple #[p, .int .i64 0, .bool false]) h G)
      obtain ⟨⟨id, nm, sh, W, H, L⟩, rb, rc⟩ := d
      dsimp only at hE h0
      subst h0
      generalize hlL : L.length = ll at *
      replace hlL := Lib.hid hlL
      clear ha hk ht hg hrow h ok hd
      go_enter Try.func27, Try.ntmps27
      go_wp2_with fail
      refine cT.mono ?_
      rintro e v1 ⟨rfl, g1⟩
      have P1 := P0.gr g1
      have R1 := R0.gr g1
      have p0 := P1.cell 0
      obtain ⟨e0, e1, e2, e3, e4, e5⟩ := hE.out v1 (g0.trans g1)
      have q1 := (P1.alloc (.cells #[.int .i64 id, .bool nm, .int .i64 0, .int .i64 (W : Int), .int .i64 (H : Int), .slice (some ⟨rb, 0, none⟩) ll rc] 80)).cell 0
      have R4 := R1.alloc (.cells #[.int .i64 id, .bool nm, .int .i64 0, .int .i64 (W : Int), .int .i64 (H : Int), .slice (some ⟨rb, 0, none⟩) ll rc] 80)
      have G4 := ((g0.trans g1).alloc (.cells #[.int .i64 id, .bool nm, .int .i64 0, .int .i64 (W : Int), .int .i64 (H : Int), .slice (some ⟨rb, 0, none⟩) ll rc] 80)).bl
      have r0 := R4.cell 0
      have rf := R4.free 0
      clear cT P0 R0
      go_wp2
      have R2 := R4.put 0 (.slice (some ⟨b, off, none⟩) D.length c)
      have d0 := R2.cell 0
      simp at d0
      exact bodyPost_ret (v := .tuple #[.agg #[.slice (some ⟨b, off, none⟩) D.length c], .int .i64 0, .bool false]) (by simp [results, Try.results27, go_sem, d0]) rfl (fin.out _ (G4.setCell (p := ⟨w.heap.size + 1, 0, none⟩) (by simp) _))
    · rw [if_neg h0, if_neg h0, if_neg h0]
      have hle := ok.hds d.s (List.mem_of_getElem? hk)
      obtain ⟨u, hu⟩ : ∃ u, d.s.hd = u + 1 := ⟨d.s.hd - 1, by omega⟩
      have e0 : d.s.hd - 1 = u := by omega
      rw [e0]
      have w1 : wrap64 ((d.s.hd : Int) - 1) = (u : Int) := by rw [hu, Int.natCast_add]; rw [show ((u : Int) + (1 : Nat) - 1) = (u : Int) by omega]; exact w64 (by omega) (by omega)
      have w2 : IntKind.i64.wrap ((d.s.hd : Int) - 1) = (u : Int) := by rw [hu, Int.natCast_add]; rw [show ((u : Int) + (1 : Nat) - 1) = (u : Int) by omega]; exact IntWalk.i64_in _ (by omega)
      have hlb : (d.s.nm && decide (d.s.hd = 1)) = (d.s.nm && decide (u = 0)) := by rw [hu]; simp
      rw [hlb]
      have z1 : ((d.s.hd : Int) == 0) = false := by simp; omega
      have z2 : ((u : Int) == 0) = decide (u = 0) := by by_cases hu0 : u = 0 <;> simp [hu0]
      have cW := Lib.hid (fun (V : World) (g : Gr w V) => rWith1 (c := c) (h.rd.bl g.bl) (by simp) hDl k hkl ⟨{ d.s with hd := u }, d.b, d.c⟩)
      have hrr := h.rows d (List.mem_of_getElem? hd)
      have fin := Lib.hid (fun (V : World) (G : Bl w V) (g c' : Nat) (hrd : shB.Rd V (some ⟨g, 0, none⟩) (D.set k ⟨{ d.s with hd := u }, d.b, d.c⟩)) (hg : w.heap.size ≤ g) => DcQ.put (f := fun p => .tuple #[p, .int .i64 d.s.id, .bool (d.s.nm && decide (u = 0))]) (c' := c') (x := ⟨{ d.s with hd := u }, d.b, d.c⟩) (u := { d.s with hd := u }) h hd G rfl (hrr.bl G) (.inl rfl) hrd hg)
      obtain ⟨⟨id, nm, sh, W, H, L⟩, rb, rc⟩ := d
      simp only [Db.cells] at hE cW fin w1 w2 z1 ⊢
      generalize hlL : L.length = ll at *
      replace hlL := Lib.hid hlL
      have hu' := Lib.hid hu
      generalize hub : decide (u = 0) = ub at *
      replace hub := Lib.hid hub
      obtain ⟨ui, hui⟩ : ∃ ui : Int, ui = (u : Int) := ⟨_, rfl⟩
      simp only [← hui] at cW w1 w2 z2
      replace hui := Lib.hid hui
      clear ha hk ht hg hrr hrow h ok hd hu h0 e0 hle hlb
      have SK := Lib.hid (fun (V4 : World) (P4 : At V4 w.heap.size #[.slice (some ⟨b, off, none⟩) D.length c] 27) (bx : Nat) (X4 : At V4 bx #[.int .i64 id, .bool nm, .int .i64 ui, .int .i64 (W : Int), .int .i64 (H : Int), .slice (some ⟨rb, 0, none⟩) ll rc] 80) (hbx : w.heap.size + 1 < bx) (V : World) (g : V4.grownBy V (some (w.heap.size + 1))) =>
        (show V.cell? ⟨w.heap.size, 0, none⟩ = some (.slice (some ⟨b, off, none⟩) D.length c) ∧ V.cell? ⟨bx, 0, none⟩ = some (.int .i64 id) ∧ V.cell? ⟨bx, 1, none⟩ = some (.bool nm) ∧ V.cell? ⟨bx, 2, none⟩ = some (.int .i64 ui) ∧ V.cell? ⟨bx, 3, none⟩ = some (.int .i64 (W : Int)) ∧ V.cell? ⟨bx, 4, none⟩ = some (.int .i64 (H : Int)) ∧ V.cell? ⟨bx, 5, none⟩ = some (.slice (some ⟨rb, 0, none⟩) ll rc) ∧ V4.grownBy V (some (w.heap.size + 1)) from
          ⟨(P4.grown g (by simp)).cell 0, (X4.grown g (by simp; omega)).cell 0, (X4.grown g (by simp; omega)).cell 1, (X4.grown g (by simp; omega)).cell 2, (X4.grown g (by simp; omega)).cell 3, (X4.grown g (by simp; omega)).cell 4, (X4.grown g (by simp; omega)).cell 5, g⟩))
      go_enter Try.func27, Try.ntmps27
      go_wp2_with fail
      refine cT.mono ?_
      rintro e v1 ⟨rfl, g1⟩
      have P1 := P0.gr g1
      have R1 := R0.gr g1
      have p0 := P1.cell 0
      obtain ⟨e0, e1, e2, e3, e4, e5⟩ := hE.out v1 (g0.trans g1)
      have hsz := R1.lt
      have P4 := P1.alloc (.cells #[.int .i64 id, .bool nm, .int .i64 ui, .int .i64 (W : Int), .int .i64 (H : Int), .slice (some ⟨rb, 0, none⟩) ll rc] 80)
      have R4 := R1.alloc (.cells #[.int .i64 id, .bool nm, .int .i64 ui, .int .i64 (W : Int), .int .i64 (H : Int), .slice (some ⟨rb, 0, none⟩) ll rc] 80)
      have X4 := At.new v1 #[.int .i64 id, .bool nm, .int .i64 ui, .int .i64 (W : Int), .int .i64 (H : Int), .slice (some ⟨rb, 0, none⟩) ll rc] 80
      have SK4 := Lib.hid (SK.out _ P4 _ X4 hsz)
      have cW4 := Lib.hid (fun V (g : Gr (v1.alloc (.cells #[.int .i64 id, .bool nm, .int .i64 ui, .int .i64 (W : Int), .int .i64 (H : Int), .slice (some ⟨rb, 0, none⟩) ll rc] 80)) V) => cW.out V (((g0.trans g1).alloc _).trans g))
      have r0 := R4.cell 0
      have rf := R4.free 0
      clear cT P0 R0 SK cW hE
      go_upto_region 8 with fail
      have G4 := ((g0.trans g1).alloc (.cells #[.int .i64 id, .bool nm, .int .i64 ui, .int .i64 (W : Int), .int .i64 (H : Int), .slice (some ⟨rb, 0, none⟩) ll rc] 80)).bl
      have hsz4 := R4.lt
      clear e0 e1 e2 e3 e4 e5 p0 P1 R1 X4 P4 r0 rf
      generalize hW4 : v1.alloc (.cells #[.int .i64 id, .bool nm, .int .i64 ui, .int .i64 (W : Int), .int .i64 (H : Int), .slice (some ⟨rb, 0, none⟩) ll rc] 80) = W4 at *
      replace hW4 := Lib.hid hW4
      generalize v1.heap.size = bx at *
      have FIN := Lib.hid (fun (V7 : World) (g7 : Bl W4 V7) (g c4 : Nat) (hg4 : W4.heap.size ≤ g) (hrd : shB.Rd V7 (some ⟨g, 0, none⟩) (D.set k ⟨⟨id, nm, u, W, H, L⟩, rb, rc⟩)) => (show _ ∧ (V7.setCell ⟨w.heap.size + 1, 0, none⟩ (.slice (some ⟨g, 0, none⟩) D.length c4)).cell? ⟨w.heap.size + 1, 0, none⟩ = some (.slice (some ⟨g, 0, none⟩) D.length c4) from
        ⟨fin.out _ ((G4.trans g7).setCell (p := ⟨w.heap.size + 1, 0, none⟩) (by simp) (.slice (some ⟨g, 0, none⟩) D.length c4)) g c4 (hrd.by (By.set (p := ⟨w.heap.size + 1, 0, none⟩) (By.refl V7 _) _) (.inr (.inr (by simp; omega)))) (by have := G4.size; omega), by simpa using (((R4.bl g7).put 0 (.slice (some ⟨g, 0, none⟩) D.length c4)).cell 0)⟩))
      have hR4 := Lib.hid (fun (V : World) (g : Bl W4 V) => (show V.cell? ⟨w.heap.size + 1, 0, none⟩ = some (.slice none 0 0) ∧ V.frozen? ⟨w.heap.size + 1, 0, none⟩ = false from ⟨(R4.bl g).cell 0, (R4.bl g).free 0⟩))
      clear R4 fin G4 g0 g1
      cases nm
      · refine wp_region_held_drew (S := (fun V => V.cell? ⟨w.heap.size, 0, none⟩ = some (.slice (some ⟨b, off, none⟩) D.length c) ∧ V.cell? ⟨bx, 0, none⟩ = some (.int .i64 id) ∧ V.cell? ⟨bx, 1, none⟩ = some (.bool false) ∧ V.cell? ⟨bx, 2, none⟩ = some (.int .i64 ui) ∧ V.cell? ⟨bx, 3, none⟩ = some (.int .i64 (W : Int)) ∧ V.cell? ⟨bx, 4, none⟩ = some (.int .i64 (H : Int)) ∧ V.cell? ⟨bx, 5, none⟩ = some (.slice (some ⟨rb, 0, none⟩) ll rc) ∧ W4.grownBy V (some (w.heap.size + 1)))) (by kernel_rfl) (SK4.out _ (by_drew (By.refl _ _))) (fun hHeld => ?_)
        refine wpAnyH_take (i := 0) (v := ?_) rfl (by kernel_rfl) (by kernel_rfl) (by kernel_rfl) (fun _ _ _ h => h) (Or.inl ⟨by rfl, ?hy0⟩) (by assumption) ?rest0
        case hy0 => intro w' hSw; (try dsimp only at hSw); go_simp; (try with_reducible rfl)
        try simp only [Act.put, List.setIfInBounds_toArray]
        refine wpAnyH_take (i := 1) (v := ?_) rfl (by kernel_rfl) (by kernel_rfl) (by kernel_rfl) (fun _ _ _ h => h) (Or.inl ⟨by rfl, ?hy1⟩) (by assumption) ?rest1
        case hy1 => intro w' hSw; (try dsimp only at hSw); go_simp; (try with_reducible rfl)
        try simp only [Act.put]
        refine wpAnyH_take (i := 2) (v := ?_) rfl (by kernel_rfl) (by kernel_rfl) (by kernel_rfl) (fun _ _ _ h => h) (Or.inl ⟨by rfl, ?hy2⟩) (by assumption) ?rest2
        case hy2 => intro w' hSw; (try dsimp only at hSw); go_simp; (try with_reducible rfl)
        try simp only [Act.put]
        refine wpAnyH_take (i := 4) (v := ?_) rfl (by kernel_rfl) (by kernel_rfl) (by kernel_rfl) (fun _ _ _ h => h) (Or.inl ⟨by rfl, ?hy4⟩) (by assumption) ?rest4
        case hy4 => intro w' hSw; (try dsimp only at hSw); go_simp; (try with_reducible rfl)
        try simp only [Act.put]
        refine wpAnyH_take (i := 5) (v := ?_) rfl (by kernel_rfl) (by kernel_rfl) (by kernel_rfl) (fun _ _ _ h => h) (Or.inl ⟨by rfl, ?hy5⟩) (by assumption) ?rest5
        case hy5 => intro w' hSw; (try dsimp only at hSw); go_simp; (try with_reducible rfl)
        try simp only [Act.put]
        refine wpAnyH_take (i := 6) (v := ?_) rfl (by kernel_rfl) (by kernel_rfl) (by kernel_rfl) (fun _ _ _ h => h) (Or.inl ⟨by rfl, ?hy6⟩) (by assumption) ?rest6
        case hy6 => intro w' hSw; (try dsimp only at hSw); go_simp; (try with_reducible rfl)
        try simp only [Act.put]
        refine wpAnyH_take (i := 7) (v := ?_) rfl (by kernel_rfl) (by kernel_rfl) (by kernel_rfl) (fun _ _ _ h => h) (Or.inl ⟨by rfl, ?hy7⟩) (by assumption) ?rest7
        case hy7 => intro w' hSw; (try dsimp only at hSw); go_simp; (try with_reducible rfl)
        try simp only [Act.put]
        refine wpAnyH_ready (rs := [3]) (by kernel_rfl) (by simp) (AllReadyH.cons rfl (fun K9 hK9 => ?_) AllReadyH.nil)
        go_simp
        refine (cW4.out _ (Gr.refl _).drew).mono ?_
        rintro e V7 ⟨g, c4, rfl, hg4, hrd4, g7⟩
        rw [List.length_set]
        have B7 : Bl W4 V7 := Bl.trans (Bl.refl _).drew g7
        have G7 : W4.grownBy V7 (some (w.heap.size + 1)) := B7.byr _
        obtain ⟨r0, rf⟩ := hR4.out V7 B7
        refine hK9.out _ _ (SK4.out _ G7) (fun _ => ?_)
        clear hK9 K9
        try simp only [Act.put, List.setIfInBounds_toArray, List.set_cons_zero, List.set_cons_succ]
        refine wpAnyH_take (i := 8) (v := ?_) rfl (by kernel_rfl) (by kernel_rfl) (by kernel_rfl) (fun _ _ _ h => h) (Or.inl ⟨by rfl, ?hy8⟩) (by assumption) ?rest8
        case hy8 => intro w' hSw; (try dsimp only at hSw); go_simp; (try with_reducible rfl)
        try simp only [Act.put, List.setIfInBounds_toArray]
        refine wpAnyH_take (i := 9) (v := undef) rfl (by kernel_rfl) (by kernel_rfl) (by kernel_rfl) (fun _ _ _ h => h) (Or.inr ⟨by kernel_rfl, rfl⟩) (by assumption) ?rest9
        try simp only [Act.put]
        refine wpAnyH_take (i := 10) (v := undef) rfl (by kernel_rfl) (by kernel_rfl) (by kernel_rfl) (fun _ _ _ h => h) (Or.inr ⟨by kernel_rfl, rfl⟩) (by assumption) ?rest10
        try simp only [Act.put]
        refine wpAnyH_take (i := 11) (v := undef) rfl (by kernel_rfl) (by kernel_rfl) (by kernel_rfl) (fun _ _ _ h => h) (Or.inr ⟨by kernel_rfl, rfl⟩) (by assumption) ?rest11
        try simp only [Act.put]
        refine wpAnyH_take (i := 12) (v := ?_) rfl (by kernel_rfl) (by kernel_rfl) (by kernel_rfl) (fun _ _ _ h => h) (Or.inl ⟨by rfl, ?hy12⟩) (by assumption) ?rest12
        case hy12 => intro w' hSw; (try dsimp only at hSw); go_simp; (try with_reducible rfl)
        try simp only [Act.put]
        refine wpAnyH_ready (rs := [13]) (by kernel_rfl) (by simp) (AllReadyH.cons rfl (fun K9 hK9 => ?_) AllReadyH.nil)
        go_simp
        refine hK9.out _ _ (SK4.out _ (By.set (p := ⟨w.heap.size + 1, 0, none⟩) G7 _)) (fun _ => ?_)
        clear hK9 K9
        try simp only [Act.put, List.setIfInBounds_toArray, List.set_cons_zero, List.set_cons_succ]
        refine wpAnyH_take (i := 14) (v := ?_) rfl (by kernel_rfl) (by kernel_rfl) (by kernel_rfl) (fun _ _ _ h => h) (Or.inl ⟨by rfl, ?hy14⟩) (by assumption) ?rest14
        case hy14 => intro w' hSw; (try dsimp only at hSw); go_simp; (try with_reducible rfl)
        try simp only [Act.put, List.setIfInBounds_toArray, List.set_cons_zero, List.set_cons_succ, List.getElem_toArray, List.getElem_cons_succ, List.getElem_cons_zero]
        refine wpAnyH_take (i := 15) (v := ?_) rfl (by kernel_rfl) (by kernel_rfl) (by kernel_rfl) (fun _ _ _ h => h) (Or.inl ⟨by rfl, ?hy15⟩) (by assumption) ?rest15
        case hy15 => intro w' hSw; (try dsimp only at hSw); go_simp; (try with_reducible rfl)
        try simp only [Act.put, List.setIfInBounds_toArray, List.set_cons_zero, List.set_cons_succ, List.getElem_toArray, List.getElem_cons_succ, List.getElem_cons_zero]
        refine wpAnyH_done (by kernel_rfl) ?_ _
        go_wp2
        obtain ⟨F1, F2⟩ := FIN.out V7 B7 g c4 hg4 hrd4
        exact bodyPost_ret (v := .tuple #[.agg #[.slice (some ⟨g, 0, none⟩) D.length c4], .int .i64 id, .bool (false)]) (by simp [results, Try.results27, go_sem, F2]) rfl (by simpa using F1)
      · go_region_held3 (fun V => V.cell? ⟨w.heap.size, 0, none⟩ = some (.slice (some ⟨b, off, none⟩) D.length c) ∧ V.cell? ⟨bx, 0, none⟩ = some (.int .i64 id) ∧ V.cell? ⟨bx, 1, none⟩ = some (.bool true) ∧ V.cell? ⟨bx, 2, none⟩ = some (.int .i64 ui) ∧ V.cell? ⟨bx, 3, none⟩ = some (.int .i64 (W : Int)) ∧ V.cell? ⟨bx, 4, none⟩ = some (.int .i64 (H : Int)) ∧ V.cell? ⟨bx, 5, none⟩ = some (.slice (some ⟨rb, 0, none⟩) ll rc) ∧ W4.grownBy V (some (w.heap.size + 1))) ((refine SK4.out _ ?_; repeat (first | with_reducible assumption | with_reducible exact By.refl _ _ | with_reducible exact G7 | with_reducible exact By.set (p := ⟨w.heap.size + 1, 0, none⟩) G7 _ | with_reducible apply by_drew))) ((first | (go_at_call 39; (refine (cW4.out _ (by first | with_reducible exact Gr.refl _ | with_reducible exact (Gr.refl _).drew)).mono ?_); rintro e V7 ⟨g, c4, rfl, hg4, hrd4, g7⟩; rw [List.length_set]; have B7 : Bl W4 V7 := (by first | with_reducible exact g7 | with_reducible exact Bl.trans (Bl.refl _).drew g7); have G7 : W4.grownBy V7 (some (w.heap.size + 1)) := B7.byr _; obtain ⟨r0, rf⟩ := hR4.out V7 B7) | fail))
        go_wp2
        obtain ⟨F1, F2⟩ := FIN.out V7 B7 g c4 hg4 hrd4
        exact bodyPost_ret (v := .tuple #[.agg #[.slice (some ⟨g, 0, none⟩) D.length c4], .int .i64 id, .bool (ub)]) (by simp [results, Try.results27, go_sem, F2]) rfl (by simpa using F1)
end

end Go.Proofs.Ytkaaagggbclofaa
