/-
  What is proved: what Raise and New of the program's stack do. Conditions: bounds on lengths.
-/
import Derived.Test.YtgjoipndhlngnaaSkl
namespace Go.Proofs.Ytgjoipndhlngnaa
open Go.ChangeShapes Go.WideShapes Go.ChangeAt Go.RowKit Go.Joins Go.Sort Go.Deep

section
attribute [local go_sem ↓] eqlK neqK eqlP neqP

set_option maxRecDepth 100000 in
set_option maxHeartbeats 800000 in
theorem pRaiseK {w : World} {B pa c : Nat} {A : Option Addr} {L : List Ky} (h : PrS w B pa A c L) (hl : L.length ≤ 100000) (hB : B ≤ w.heap.size) (k o : Ky) :
    Calls Try.prog 24 #[.pointer (some ⟨pa, 0, none⟩), kV k, kV o] w fun e w' => e = .returned (.int .i64 (raiseE L k o)) ∧ StQ w B pa A (raiseK L k o) w' := by
  have cA := fun V (g : Bl w V) => pAt1 (h.bl g) (by omega) k
  have cO := fun V (g : Bl w V) => pAt1 (h.bl g) (by omega) o
  have b0 := (At.new w (kC k) 26).alloc (.cells (kC o) 26)
  have b1 := At.newAt (w := w.alloc (.cells (kC k) 26)) (n := w.heap.size + 1) (by simp) (kC o) 26
  have G0 := ((Gr.refl w).alloc (.cells (kC k) 26)).alloc (.cells (kC o) 26)
  obtain ⟨W0, hW0⟩ : ∃ W0, W0 = (w.alloc (.cells (kC k) 26)).alloc (.cells (kC o) 26) := ⟨_, rfl⟩
  have hW0' : (w.alloc (.cells #[.int .i64 k.1, .int .i64 k.2] 26)).alloc (.cells #[.int .i64 o.1, .int .i64 o.2] 26) = W0 := hW0.symm
  rw [← hW0] at b0 b1 G0
  have hs0 : w.heap.size + 2 ≤ W0.heap.size := by rw [hW0]; simp
  clear hW0
  have x0 : W0.cell? ⟨w.heap.size, 0, none⟩ = some (.int .i64 k.1) := b0.cell 0
  have x1 : W0.cell? ⟨w.heap.size, 1, none⟩ = some (.int .i64 k.2) := b0.cell 1
  have hX : ∀ j, SX pa A j → j < w.heap.size := fun j hj => by
    rcases hj with rfl | hj
    · exact h.hd.lt
    · exact h.own.ltn j hj
  by_cases hk : k ∈ L
  · have hge : (atK L k == -1) = false := by have := at_ge.2 hk; simp; omega
    have hge2 : ¬ atK L k = -1 := by have := at_ge.2 hk; omega
    by_cases ho : o ∈ L
    · have hgo : (atK L o == -1) = false := by have := at_ge.2 ho; simp; omega
      have hgo2 : ¬ atK L o = -1 := by have := at_ge.2 ho; omega
      by_cases hne : k = o
      · subst hne
        obtain ⟨e1, e2⟩ := raise_self hk
        rw [e1, e2]
        clear e1 e2 hk ho
        generalize atK L k = q at *
        go_enter Try.func24, Try.ntmps24
        go_wp2_with (rw [hW0'])
        refine (cA _ G0.bl).mono ?_
        rintro e w3 ⟨rfl, g3⟩
        have y0 : w3.cell? ⟨w.heap.size + 1, 0, none⟩ = some (.int .i64 k.1) := (b1.gr g3).cell 0
        have y1 : w3.cell? ⟨w.heap.size + 1, 1, none⟩ = some (.int .i64 k.2) := (b1.gr g3).cell 1
        go_wp2_with fail
        refine (cO _ (G0.trans g3).bl).mono ?_
        rintro e w4 ⟨rfl, g4⟩
        have z0 : w4.cell? ⟨w.heap.size, 0, none⟩ = some (.int .i64 k.1) := ((b0.gr g3).gr g4).cell 0
        have z1 : w4.cell? ⟨w.heap.size, 1, none⟩ = some (.int .i64 k.2) := ((b0.gr g3).gr g4).cell 1
        have z2 : w4.cell? ⟨w.heap.size + 1, 0, none⟩ = some (.int .i64 k.1) := ((b1.gr g3).gr g4).cell 0
        have z3 : w4.cell? ⟨w.heap.size + 1, 1, none⟩ = some (.int .i64 k.2) := ((b1.gr g3).gr g4).cell 1
        have G4 := ((G0.trans g3).trans g4).bl
        clear cA cO
        go_wp2
        go_ret
        exact ⟨rfl, StQ.refl h G4⟩
      · obtain ⟨e1, e2⟩ := raise_on hk ho hne
        have e3 := raise_cut h.nd hk ho hne
        have hoD : o ∈ dropK L k := drop_mem.2 ⟨ho, fun e => hne e.symm⟩
        have hDl := drop_len L k
        have hkn : ¬ k ∈ dropK L k := fun h' => (drop_mem.1 h').2 rfl
        have hdn := drop_nodup h.nd k
        have hko := ky_ne hne
        have cD := fun V (g : Bl w V) => pDropK (h.bl g) hl k
        rw [show decide (k ∈ L) = true from by simp [hk]] at cD
        rw [e1, e2, e3]
        clear e1 e2 e3 hk ho
        generalize dropK L k = D at *
        have hp := ix_lt hoD
        have hatD := at_in hoD
        have hnd : (D.take (ixK D o + 1) ++ [k] ++ D.drop (ixK D o + 1)).Nodup := by
          have hpm : (D.take (ixK D o + 1) ++ [k] ++ D.drop (ixK D o + 1)).Perm (k :: D) := by
            have := (List.perm_middle (a := k) (l₁ := D.take (ixK D o + 1)) (l₂ := D.drop (ixK D o + 1)))
            rw [List.take_append_drop] at this
            simpa using this
          exact hpm.nodup_iff.2 (List.nodup_cons.2 ⟨hkn, hdn⟩)
        clear hkn hdn hoD
        generalize atK L k = q at *
        generalize atK L o = r at *
        generalize ixK D o = p at *
        obtain ⟨E, hE⟩ : ∃ E, E = D.take (p + 1) ++ [k] ++ D.drop (p + 1) := ⟨_, rfl⟩
        rw [← hE] at hnd ⊢
        replace hE := Lib.hid hE
        go_enter Try.func24, Try.ntmps24
        go_wp2_with (rw [hW0'])
        refine (cA _ G0.bl).mono ?_
        rintro e w3 ⟨rfl, g3⟩
        have y0 : w3.cell? ⟨w.heap.size + 1, 0, none⟩ = some (.int .i64 o.1) := (b1.gr g3).cell 0
        have y1 : w3.cell? ⟨w.heap.size + 1, 1, none⟩ = some (.int .i64 o.2) := (b1.gr g3).cell 1
        go_wp2_with fail
        refine (cO _ (G0.trans g3).bl).mono ?_
        rintro e w4 ⟨rfl, g4⟩
        have b2 := (b0.gr g3).gr g4
        have b3 := (b1.gr g3).gr g4
        have z0 : w4.cell? ⟨w.heap.size, 0, none⟩ = some (.int .i64 k.1) := b2.cell 0
        have z1 : w4.cell? ⟨w.heap.size, 1, none⟩ = some (.int .i64 k.2) := b2.cell 1
        have z2 : w4.cell? ⟨w.heap.size + 1, 0, none⟩ = some (.int .i64 o.1) := b3.cell 0
        have z3 : w4.cell? ⟨w.heap.size + 1, 1, none⟩ = some (.int .i64 o.2) := b3.cell 1
        have G4 := ((G0.trans g3).trans g4).bl
        have hs4 : w.heap.size + 2 ≤ w4.heap.size := by have := g3.size; have := g4.size; omega
        clear cA cO x0 x1 y0 y1 b0 b1 g3 g4 G0 hs0 hW0'
        go_wp2_with fail
        refine (cD _ G4).mono ?_
        rintro e w5 ⟨rfl, A5, c5, h5, k5, n5⟩
        have K5 : Kx (SX pa A) w w5 := (Kx.bl G4).then k5
        have N5 : NbQ w A A5 := n5.low G4.size
        have N5w := n5
        have b4 := b2.kx k5 (fun hx => by have := hX _ hx; omega)
        have b5 := b3.kx k5 (fun hx => by have := hX _ hx; omega)
        have hs5 := K5.size
        have hx4' : A5.map (·.block) ≠ some w.heap.size := fun e => by
          rcases N5w with e2 | ⟨g, e2, hg⟩
          · rw [e2] at e; have := h.own.ltn _ e; omega
          · rw [e2] at e; cases e; omega
        have hx5' : A5.map (·.block) ≠ some (w.heap.size + 1) := fun e => by
          rcases N5w with e2 | ⟨g, e2, hg⟩
          · rw [e2] at e; have := h.own.ltn _ e; omega
          · rw [e2] at e; cases e; omega
        have hs45 := k5.size
        clear z0 z1 z2 z3 b2 b3 cD k5 n5 N5w hX G4
        have cA2 := fun V (g : Bl w5 V) => pAt1 (h5.bl g) (by omega) o
        rw [hatD] at cA2
        have cI : ∀ W vb, Bl w5 W → At W vb (kC k) 26 → w5.heap.size ≤ vb → Calls Try.prog 36 #[.slice A5 D.length c5, .int .i64 ((p : Int) + 1), .slice (some ⟨vb, 0, none⟩) 1 1] W fun e w' =>
            ∃ A6 c6, e = .returned (.slice A6 E.length c6) ∧ StQ w5 B pa A5 E (w'.setCell ⟨pa, 0, none⟩ (.slice A6 E.length c6)) ∧ (∃ v, w'.cell? ⟨pa, 0, none⟩ = some v) ∧ w'.frozen? ⟨pa, 0, none⟩ = false ∧ Kx (SX pa A5) w5 w' := by
          intro W vb g hv hlt
          have hW := h5.bl g
          have qI := insK hW.own (by have := g.size; omega) (by omega) (p + 1) (by omega) k vb hv (fun e => by have := h5.own.ltn _ e; omega)
          rw [← hE.out] at qI
          refine qI.mono ?_
          rintro e w' ⟨A6, c6, rfl, own6, ap6, nb6⟩
          have m6 := hW.hd.grown ap6 hW.ne
          exact ⟨A6, c6, rfl, StQ.mk hW g own6 ap6 nb6 hnd, ⟨_, m6.cell 0⟩, m6.free 0, (Kx.bl g).then (Kx.row pa ap6)⟩
        have hw : IntKind.i64.wrap ((p : Int) + 1) = (p : Int) + 1 := by rw [IntKind.wrap_i64]; omega
        have hx4 : ¬ SX pa A5 w.heap.size := fun hx => by
          rcases hx with rfl | hx
          · exact (b4.neP h5.hd (by decide)) rfl
          · exact hx4' hx
        have hx5 : ¬ SX pa A5 (w.heap.size + 1) := fun hx => by
          rcases hx with hx | hx
          · exact (b5.neP h5.hd (by decide)) hx
          · exact hx5' hx
        clear hge hge2 hgo hgo2 hnd hp hatD
        have SXF := Lib.hid (fun V (g : Kx (SX pa A5) w5 V) => (show V.cell? ⟨w.heap.size, 0, none⟩ = some (.int .i64 k.1) ∧ V.cell? ⟨w.heap.size, 1, none⟩ = some (.int .i64 k.2) ∧ V.cell? ⟨w.heap.size + 1, 0, none⟩ = some (.int .i64 o.1) ∧ V.cell? ⟨w.heap.size + 1, 1, none⟩ = some (.int .i64 o.2) from ⟨(b4.kx g hx4).cell 0, (b4.kx g hx4).cell 1, (b5.kx g hx5).cell 0, (b5.kx g hx5).cell 1⟩))
        go_wp2
        refine wp_region_held_drew (S := fun V => V.cell? ⟨w.heap.size, 0, none⟩ = some (.int .i64 k.1) ∧ V.cell? ⟨w.heap.size, 1, none⟩ = some (.int .i64 k.2) ∧ V.cell? ⟨w.heap.size + 1, 0, none⟩ = some (.int .i64 o.1) ∧ V.cell? ⟨w.heap.size + 1, 1, none⟩ = some (.int .i64 o.2)) (by kernel_rfl) (SXF.out _ (Kx.bl (Bl.refl _).drew)) (fun hHeld => ?_)
        have B0 := (Bl.refl w5).drew
        generalize w5.drew = U0 at *
        refine wpAnyH_take (i := 0) (v := ?_) rfl (by kernel_rfl) (by kernel_rfl) (by kernel_rfl) (fun _ _ _ h => h) (Or.inl ⟨by rfl, ?hy1⟩) (by assumption) ?rest1
        case hy1 => intro w' hSw; go_simp; (try with_reducible rfl)
        try simp only [Act.put, List.setIfInBounds_toArray, List.set_cons_zero, List.set_cons_succ, List.getElem_toArray, List.getElem_cons_zero]
        refine wpAnyH_take (i := 1) (v := ?_) rfl (by kernel_rfl) (by kernel_rfl) (by kernel_rfl) (fun _ _ _ h => h) (Or.inl ⟨by rfl, ?hy2⟩) (by assumption) ?rest2
        case hy2 => intro w' hSw; go_simp; (try with_reducible rfl)
        try simp only [Act.put, List.setIfInBounds_toArray, List.set_cons_zero, List.set_cons_succ, List.getElem_toArray, List.getElem_cons_succ, List.getElem_cons_zero]
        refine wpAnyH_take (i := 2) (v := ?_) rfl (by kernel_rfl) (by kernel_rfl) (by kernel_rfl) (fun _ _ _ h => h) (Or.inl ⟨by rfl, ?hy3⟩) (by assumption) ?rest3
        case hy3 => intro w' hSw; go_simp; (try with_reducible rfl)
        try simp only [Act.put, List.setIfInBounds_toArray, List.set_cons_zero, List.set_cons_succ, List.getElem_toArray, List.getElem_cons_succ, List.getElem_cons_zero]
        refine wpAnyH_take (i := 3) (v := ?_) rfl (by kernel_rfl) (by kernel_rfl) (by kernel_rfl) (fun _ _ _ h => h) (Or.inl ⟨by rfl, ?hy4⟩) (by assumption) ?rest4
        case hy4 => intro w' hSw; go_simp; (try with_reducible rfl)
        try simp only [Act.put, List.setIfInBounds_toArray, List.set_cons_zero, List.set_cons_succ, List.getElem_toArray, List.getElem_cons_succ, List.getElem_cons_zero]
        refine wpAnyH_take (i := 5) (v := ?_) rfl (by kernel_rfl) (by kernel_rfl) (by kernel_rfl) (fun _ _ _ h => h) (Or.inl ⟨by rfl, ?hy5⟩) (by assumption) ?rest5
        case hy5 => intro w' hSw; go_simp; (try with_reducible rfl)
        try simp only [Act.put, List.setIfInBounds_toArray, List.set_cons_zero, List.set_cons_succ, List.getElem_toArray, List.getElem_cons_succ, List.getElem_cons_zero]
        refine wpAnyH_take (i := 6) (v := ?_) rfl (by kernel_rfl) (by kernel_rfl) (by kernel_rfl) (fun _ _ _ h => h) (Or.inl ⟨by rfl, ?hy6⟩) (by assumption) ?rest6
        case hy6 => intro w' hSw; obtain ⟨s0, s1, s2, s3⟩ := hSw; go_simp; (try with_reducible rfl)
        try simp only [Act.put, List.setIfInBounds_toArray, List.set_cons_zero, List.set_cons_succ, List.getElem_toArray, List.getElem_cons_succ, List.getElem_cons_zero]
        refine wpAnyH_take (i := 9) (v := ?_) rfl (by kernel_rfl) (by kernel_rfl) (by kernel_rfl) (fun _ _ _ h => h) (Or.inl ⟨by rfl, ?hy7⟩) (by assumption) ?rest7
        case hy7 => intro w' hSw; obtain ⟨s0, s1, s2, s3⟩ := hSw; go_simp; (try with_reducible rfl)
        try simp only [Act.put, List.setIfInBounds_toArray, List.set_cons_zero, List.set_cons_succ, List.getElem_toArray, List.getElem_cons_succ, List.getElem_cons_zero]
        refine wpAnyH_ready (rs := [4, 7, 10]) (by kernel_rfl) (by simp) (AllReadyH.cons rfl (fun K9 hK9 => ?_) (AllReadyH.cons rfl (fun K9 hK9 => ?_) (AllReadyH.cons rfl (fun K9 hK9 => ?_) AllReadyH.nil)))
        · have h1 : U0.cell? ⟨pa, 0, none⟩ = some (.slice A5 D.length c5) := (h5.hd.bl B0).cell 0
          go_simp
          refine hK9.out _ _ (SXF.out _ (Kx.bl B0)) (fun _ => ?_)
          clear hK9 K9
          try simp only [Act.put, List.setIfInBounds_toArray, List.set_cons_zero, List.set_cons_succ, List.getElem_toArray, List.getElem_cons_succ, List.getElem_cons_zero]
          refine wpAnyH_ready (rs := [7, 10]) (by kernel_rfl) (by simp) (AllReadyH.cons rfl (fun K9 hK9 => ?_) (AllReadyH.cons rfl (fun K9 hK9 => ?_) AllReadyH.nil))
          · go_simp
            refine (cA2 U0 B0).mono ?_
            rintro e U2 ⟨rfl, g3⟩
            have B4 : Bl w5 U2 := Bl.gr B0 g3
            refine hK9.out _ _ (SXF.out _ (Kx.bl B4)) (fun _ => ?_)
            clear hK9 K9
            try simp only [Act.put, List.setIfInBounds_toArray, List.set_cons_zero, List.set_cons_succ, List.getElem_toArray, List.getElem_cons_succ, List.getElem_cons_zero]
            refine wpAnyH_take (i := 8) (v := ?_) rfl (by kernel_rfl) (by kernel_rfl) (by kernel_rfl) (fun _ _ _ h => h) (Or.inl ⟨by rfl, ?hy8⟩) (by assumption) ?rest8
            case hy8 => intro w' hSw; go_simp; (try with_reducible rfl)
            try simp only [Act.put, List.setIfInBounds_toArray, List.set_cons_zero, List.set_cons_succ, List.getElem_toArray, List.getElem_cons_succ, List.getElem_cons_zero]
            refine wpAnyH_ready (rs := [10]) (by kernel_rfl) (by simp) (AllReadyH.cons rfl (fun K9 hK9 => ?_) AllReadyH.nil)
            go_simp
            have B6 : Bl w5 _ := Bl.alloc B4 (.cells #[.int .i64 k.1, .int .i64 k.2] 26)
            have Y7 := At.new U2 (kC k) 26
            have l8 := Bl.size B4
            generalize U2.alloc (.cells #[.int .i64 k.1, .int .i64 k.2] 26) = U5 at *
            generalize U2.heap.size = v9 at *
            refine hK9.out _ _ (SXF.out _ (Kx.bl B6)) (fun _ => ?_)
            clear hK9 K9
            try simp only [Act.put, List.setIfInBounds_toArray, List.set_cons_zero, List.set_cons_succ, List.getElem_toArray, List.getElem_cons_succ, List.getElem_cons_zero]
            refine wpAnyH_ready (rs := [11]) (by kernel_rfl) (by simp) (AllReadyH.cons rfl (fun K9 hK9 => ?_) AllReadyH.nil)
            go_simp
            refine (cI U5 v9 B6 Y7 l8).mono ?_
            rintro e U10 ⟨A6, c6, rfl, q6, ⟨v6, m0⟩, z0, K6⟩
            refine hK9.out _ _ (SXF.out _ K6) (fun _ => ?_)
            clear hK9 K9
            try simp only [Act.put, List.setIfInBounds_toArray, List.set_cons_zero, List.set_cons_succ, List.getElem_toArray, List.getElem_cons_succ, List.getElem_cons_zero]
            refine wpAnyH_take (i := 12) (v := ?_) rfl (by kernel_rfl) (by kernel_rfl) (by kernel_rfl) (fun _ _ _ h => h) (Or.inl ⟨by rfl, ?hy9⟩) (by assumption) ?rest9
            case hy9 => intro w' hSw; go_simp; (try with_reducible rfl)
            try simp only [Act.put, List.setIfInBounds_toArray, List.set_cons_zero, List.set_cons_succ, List.getElem_toArray, List.getElem_cons_succ, List.getElem_cons_zero]
            refine wpAnyH_take (i := 13) (v := ?_) rfl (by kernel_rfl) (by kernel_rfl) (by kernel_rfl) (fun _ _ _ h => h) (Or.inl ⟨by rfl, ?hy10⟩) (by assumption) ?rest10
            case hy10 => intro w' hSw; go_simp; (try with_reducible rfl)
            try simp only [Act.put, List.setIfInBounds_toArray, List.set_cons_zero, List.set_cons_succ, List.getElem_toArray, List.getElem_cons_succ, List.getElem_cons_zero]
            refine wpAnyH_ready (rs := [14]) (by kernel_rfl) (by simp) (AllReadyH.cons rfl (fun K9 hK9 => ?_) AllReadyH.nil)
            go_simp
            have K7 := K6.set (p := ⟨pa, 0, none⟩) (.inl rfl) (.slice A6 E.length c6)
            generalize U10.setCell ⟨pa, 0, none⟩ (.slice A6 E.length c6) = U11 at *
            refine hK9.out _ _ (SXF.out _ K7) (fun _ => ?_)
            clear hK9 K9
            try simp only [Act.put, List.setIfInBounds_toArray, List.set_cons_zero, List.set_cons_succ, List.getElem_toArray, List.getElem_cons_succ, List.getElem_cons_zero]
            refine wpAnyH_done (by kernel_rfl) ?_ _
            go_wp2
            go_ret
            exact ⟨rfl, StQ.next K5 N5 q6⟩
          · go_simp
            have B3 : Bl w5 _ := Bl.alloc B0 (.cells #[.int .i64 k.1, .int .i64 k.2] 26)
            have Y4 := At.new U0 (kC k) 26
            have l5 := Bl.size B0
            generalize U0.alloc (.cells #[.int .i64 k.1, .int .i64 k.2] 26) = U2 at *
            generalize U0.heap.size = v6 at *
            refine hK9.out _ _ (SXF.out _ (Kx.bl B3)) (fun _ => ?_)
            clear hK9 K9
            try simp only [Act.put, List.setIfInBounds_toArray, List.set_cons_zero, List.set_cons_succ, List.getElem_toArray, List.getElem_cons_succ, List.getElem_cons_zero]
            refine wpAnyH_ready (rs := [7]) (by kernel_rfl) (by simp) (AllReadyH.cons rfl (fun K9 hK9 => ?_) AllReadyH.nil)
            go_simp
            refine (cA2 U2 B3).mono ?_
            rintro e U7 ⟨rfl, g8⟩
            have B9 : Bl w5 U7 := Bl.gr B3 g8
            have Y10 := Y4.gr g8
            refine hK9.out _ _ (SXF.out _ (Kx.bl B9)) (fun _ => ?_)
            clear hK9 K9
            try simp only [Act.put, List.setIfInBounds_toArray, List.set_cons_zero, List.set_cons_succ, List.getElem_toArray, List.getElem_cons_succ, List.getElem_cons_zero]
            refine wpAnyH_take (i := 8) (v := ?_) rfl (by kernel_rfl) (by kernel_rfl) (by kernel_rfl) (fun _ _ _ h => h) (Or.inl ⟨by rfl, ?hy11⟩) (by assumption) ?rest11
            case hy11 => intro w' hSw; go_simp; (try with_reducible rfl)
            try simp only [Act.put, List.setIfInBounds_toArray, List.set_cons_zero, List.set_cons_succ, List.getElem_toArray, List.getElem_cons_succ, List.getElem_cons_zero]
            refine wpAnyH_ready (rs := [11]) (by kernel_rfl) (by simp) (AllReadyH.cons rfl (fun K9 hK9 => ?_) AllReadyH.nil)
            go_simp
            refine (cI U7 v6 B9 Y10 l5).mono ?_
            rintro e U11 ⟨A6, c6, rfl, q6, ⟨v6, m0⟩, z0, K6⟩
            refine hK9.out _ _ (SXF.out _ K6) (fun _ => ?_)
            clear hK9 K9
            try simp only [Act.put, List.setIfInBounds_toArray, List.set_cons_zero, List.set_cons_succ, List.getElem_toArray, List.getElem_cons_succ, List.getElem_cons_zero]
            refine wpAnyH_take (i := 12) (v := ?_) rfl (by kernel_rfl) (by kernel_rfl) (by kernel_rfl) (fun _ _ _ h => h) (Or.inl ⟨by rfl, ?hy12⟩) (by assumption) ?rest12
            case hy12 => intro w' hSw; go_simp; (try with_reducible rfl)
            try simp only [Act.put, List.setIfInBounds_toArray, List.set_cons_zero, List.set_cons_succ, List.getElem_toArray, List.getElem_cons_succ, List.getElem_cons_zero]
            refine wpAnyH_take (i := 13) (v := ?_) rfl (by kernel_rfl) (by kernel_rfl) (by kernel_rfl) (fun _ _ _ h => h) (Or.inl ⟨by rfl, ?hy13⟩) (by assumption) ?rest13
            case hy13 => intro w' hSw; go_simp; (try with_reducible rfl)
            try simp only [Act.put, List.setIfInBounds_toArray, List.set_cons_zero, List.set_cons_succ, List.getElem_toArray, List.getElem_cons_succ, List.getElem_cons_zero]
            refine wpAnyH_ready (rs := [14]) (by kernel_rfl) (by simp) (AllReadyH.cons rfl (fun K9 hK9 => ?_) AllReadyH.nil)
            go_simp
            have K7 := K6.set (p := ⟨pa, 0, none⟩) (.inl rfl) (.slice A6 E.length c6)
            generalize U11.setCell ⟨pa, 0, none⟩ (.slice A6 E.length c6) = U12 at *
            refine hK9.out _ _ (SXF.out _ K7) (fun _ => ?_)
            clear hK9 K9
            try simp only [Act.put, List.setIfInBounds_toArray, List.set_cons_zero, List.set_cons_succ, List.getElem_toArray, List.getElem_cons_succ, List.getElem_cons_zero]
            refine wpAnyH_done (by kernel_rfl) ?_ _
            go_wp2
            go_ret
            exact ⟨rfl, StQ.next K5 N5 q6⟩
        · go_simp
          refine (cA2 U0 B0).mono ?_
          rintro e U1 ⟨rfl, g2⟩
          have B3 : Bl w5 U1 := Bl.gr B0 g2
          refine hK9.out _ _ (SXF.out _ (Kx.bl B3)) (fun _ => ?_)
          clear hK9 K9
          try simp only [Act.put, List.setIfInBounds_toArray, List.set_cons_zero, List.set_cons_succ, List.getElem_toArray, List.getElem_cons_succ, List.getElem_cons_zero]
          refine wpAnyH_take (i := 8) (v := ?_) rfl (by kernel_rfl) (by kernel_rfl) (by kernel_rfl) (fun _ _ _ h => h) (Or.inl ⟨by rfl, ?hy14⟩) (by assumption) ?rest14
          case hy14 => intro w' hSw; go_simp; (try with_reducible rfl)
          try simp only [Act.put, List.setIfInBounds_toArray, List.set_cons_zero, List.set_cons_succ, List.getElem_toArray, List.getElem_cons_succ, List.getElem_cons_zero]
          refine wpAnyH_ready (rs := [4, 10]) (by kernel_rfl) (by simp) (AllReadyH.cons rfl (fun K9 hK9 => ?_) (AllReadyH.cons rfl (fun K9 hK9 => ?_) AllReadyH.nil))
          · have h4 : U1.cell? ⟨pa, 0, none⟩ = some (.slice A5 D.length c5) := (h5.hd.bl B3).cell 0
            go_simp
            refine hK9.out _ _ (SXF.out _ (Kx.bl B3)) (fun _ => ?_)
            clear hK9 K9
            try simp only [Act.put, List.setIfInBounds_toArray, List.set_cons_zero, List.set_cons_succ, List.getElem_toArray, List.getElem_cons_succ, List.getElem_cons_zero]
            refine wpAnyH_ready (rs := [10]) (by kernel_rfl) (by simp) (AllReadyH.cons rfl (fun K9 hK9 => ?_) AllReadyH.nil)
            go_simp
            have B6 : Bl w5 _ := Bl.alloc B3 (.cells #[.int .i64 k.1, .int .i64 k.2] 26)
            have Y7 := At.new U1 (kC k) 26
            have l8 := Bl.size B3
            generalize U1.alloc (.cells #[.int .i64 k.1, .int .i64 k.2] 26) = U5 at *
            generalize U1.heap.size = v9 at *
            refine hK9.out _ _ (SXF.out _ (Kx.bl B6)) (fun _ => ?_)
            clear hK9 K9
            try simp only [Act.put, List.setIfInBounds_toArray, List.set_cons_zero, List.set_cons_succ, List.getElem_toArray, List.getElem_cons_succ, List.getElem_cons_zero]
            refine wpAnyH_ready (rs := [11]) (by kernel_rfl) (by simp) (AllReadyH.cons rfl (fun K9 hK9 => ?_) AllReadyH.nil)
            go_simp
            refine (cI U5 v9 B6 Y7 l8).mono ?_
            rintro e U10 ⟨A6, c6, rfl, q6, ⟨v6, m0⟩, z0, K6⟩
            refine hK9.out _ _ (SXF.out _ K6) (fun _ => ?_)
            clear hK9 K9
            try simp only [Act.put, List.setIfInBounds_toArray, List.set_cons_zero, List.set_cons_succ, List.getElem_toArray, List.getElem_cons_succ, List.getElem_cons_zero]
            refine wpAnyH_take (i := 12) (v := ?_) rfl (by kernel_rfl) (by kernel_rfl) (by kernel_rfl) (fun _ _ _ h => h) (Or.inl ⟨by rfl, ?hy15⟩) (by assumption) ?rest15
            case hy15 => intro w' hSw; go_simp; (try with_reducible rfl)
            try simp only [Act.put, List.setIfInBounds_toArray, List.set_cons_zero, List.set_cons_succ, List.getElem_toArray, List.getElem_cons_succ, List.getElem_cons_zero]
            refine wpAnyH_take (i := 13) (v := ?_) rfl (by kernel_rfl) (by kernel_rfl) (by kernel_rfl) (fun _ _ _ h => h) (Or.inl ⟨by rfl, ?hy16⟩) (by assumption) ?rest16
            case hy16 => intro w' hSw; go_simp; (try with_reducible rfl)
            try simp only [Act.put, List.setIfInBounds_toArray, List.set_cons_zero, List.set_cons_succ, List.getElem_toArray, List.getElem_cons_succ, List.getElem_cons_zero]
            refine wpAnyH_ready (rs := [14]) (by kernel_rfl) (by simp) (AllReadyH.cons rfl (fun K9 hK9 => ?_) AllReadyH.nil)
            go_simp
            have K7 := K6.set (p := ⟨pa, 0, none⟩) (.inl rfl) (.slice A6 E.length c6)
            generalize U10.setCell ⟨pa, 0, none⟩ (.slice A6 E.length c6) = U11 at *
            refine hK9.out _ _ (SXF.out _ K7) (fun _ => ?_)
            clear hK9 K9
            try simp only [Act.put, List.setIfInBounds_toArray, List.set_cons_zero, List.set_cons_succ, List.getElem_toArray, List.getElem_cons_succ, List.getElem_cons_zero]
            refine wpAnyH_done (by kernel_rfl) ?_ _
            go_wp2
            go_ret
            exact ⟨rfl, StQ.next K5 N5 q6⟩
          · go_simp
            have B5 : Bl w5 _ := Bl.alloc B3 (.cells #[.int .i64 k.1, .int .i64 k.2] 26)
            have Y6 := At.new U1 (kC k) 26
            have l7 := Bl.size B3
            generalize U1.alloc (.cells #[.int .i64 k.1, .int .i64 k.2] 26) = U4 at *
            generalize U1.heap.size = v8 at *
            refine hK9.out _ _ (SXF.out _ (Kx.bl B5)) (fun _ => ?_)
            clear hK9 K9
            try simp only [Act.put, List.setIfInBounds_toArray, List.set_cons_zero, List.set_cons_succ, List.getElem_toArray, List.getElem_cons_succ, List.getElem_cons_zero]
            refine wpAnyH_ready (rs := [4]) (by kernel_rfl) (by simp) (AllReadyH.cons rfl (fun K9 hK9 => ?_) AllReadyH.nil)
            have h9 : U4.cell? ⟨pa, 0, none⟩ = some (.slice A5 D.length c5) := (h5.hd.bl B5).cell 0
            go_simp
            refine hK9.out _ _ (SXF.out _ (Kx.bl B5)) (fun _ => ?_)
            clear hK9 K9
            try simp only [Act.put, List.setIfInBounds_toArray, List.set_cons_zero, List.set_cons_succ, List.getElem_toArray, List.getElem_cons_succ, List.getElem_cons_zero]
            refine wpAnyH_ready (rs := [11]) (by kernel_rfl) (by simp) (AllReadyH.cons rfl (fun K9 hK9 => ?_) AllReadyH.nil)
            go_simp
            refine (cI U4 v8 B5 Y6 l7).mono ?_
            rintro e U10 ⟨A6, c6, rfl, q6, ⟨v6, m0⟩, z0, K6⟩
            refine hK9.out _ _ (SXF.out _ K6) (fun _ => ?_)
            clear hK9 K9
            try simp only [Act.put, List.setIfInBounds_toArray, List.set_cons_zero, List.set_cons_succ, List.getElem_toArray, List.getElem_cons_succ, List.getElem_cons_zero]
            refine wpAnyH_take (i := 12) (v := ?_) rfl (by kernel_rfl) (by kernel_rfl) (by kernel_rfl) (fun _ _ _ h => h) (Or.inl ⟨by rfl, ?hy17⟩) (by assumption) ?rest17
            case hy17 => intro w' hSw; go_simp; (try with_reducible rfl)
            try simp only [Act.put, List.setIfInBounds_toArray, List.set_cons_zero, List.set_cons_succ, List.getElem_toArray, List.getElem_cons_succ, List.getElem_cons_zero]
            refine wpAnyH_take (i := 13) (v := ?_) rfl (by kernel_rfl) (by kernel_rfl) (by kernel_rfl) (fun _ _ _ h => h) (Or.inl ⟨by rfl, ?hy18⟩) (by assumption) ?rest18
            case hy18 => intro w' hSw; go_simp; (try with_reducible rfl)
            try simp only [Act.put, List.setIfInBounds_toArray, List.set_cons_zero, List.set_cons_succ, List.getElem_toArray, List.getElem_cons_succ, List.getElem_cons_zero]
            refine wpAnyH_ready (rs := [14]) (by kernel_rfl) (by simp) (AllReadyH.cons rfl (fun K9 hK9 => ?_) AllReadyH.nil)
            go_simp
            have K7 := K6.set (p := ⟨pa, 0, none⟩) (.inl rfl) (.slice A6 E.length c6)
            generalize U10.setCell ⟨pa, 0, none⟩ (.slice A6 E.length c6) = U11 at *
            refine hK9.out _ _ (SXF.out _ K7) (fun _ => ?_)
            clear hK9 K9
            try simp only [Act.put, List.setIfInBounds_toArray, List.set_cons_zero, List.set_cons_succ, List.getElem_toArray, List.getElem_cons_succ, List.getElem_cons_zero]
            refine wpAnyH_done (by kernel_rfl) ?_ _
            go_wp2
            go_ret
            exact ⟨rfl, StQ.next K5 N5 q6⟩
        · go_simp
          have B2 : Bl w5 _ := Bl.alloc B0 (.cells #[.int .i64 k.1, .int .i64 k.2] 26)
          have Y3 := At.new U0 (kC k) 26
          have l4 := Bl.size B0
          generalize U0.alloc (.cells #[.int .i64 k.1, .int .i64 k.2] 26) = U1 at *
          generalize U0.heap.size = v5 at *
          refine hK9.out _ _ (SXF.out _ (Kx.bl B2)) (fun _ => ?_)
          clear hK9 K9
          try simp only [Act.put, List.setIfInBounds_toArray, List.set_cons_zero, List.set_cons_succ, List.getElem_toArray, List.getElem_cons_succ, List.getElem_cons_zero]
          refine wpAnyH_ready (rs := [4, 7]) (by kernel_rfl) (by simp) (AllReadyH.cons rfl (fun K9 hK9 => ?_) (AllReadyH.cons rfl (fun K9 hK9 => ?_) AllReadyH.nil))
          · have h6 : U1.cell? ⟨pa, 0, none⟩ = some (.slice A5 D.length c5) := (h5.hd.bl B2).cell 0
            go_simp
            refine hK9.out _ _ (SXF.out _ (Kx.bl B2)) (fun _ => ?_)
            clear hK9 K9
            try simp only [Act.put, List.setIfInBounds_toArray, List.set_cons_zero, List.set_cons_succ, List.getElem_toArray, List.getElem_cons_succ, List.getElem_cons_zero]
            refine wpAnyH_ready (rs := [7]) (by kernel_rfl) (by simp) (AllReadyH.cons rfl (fun K9 hK9 => ?_) AllReadyH.nil)
            go_simp
            refine (cA2 U1 B2).mono ?_
            rintro e U7 ⟨rfl, g8⟩
            have B9 : Bl w5 U7 := Bl.gr B2 g8
            have Y10 := Y3.gr g8
            refine hK9.out _ _ (SXF.out _ (Kx.bl B9)) (fun _ => ?_)
            clear hK9 K9
            try simp only [Act.put, List.setIfInBounds_toArray, List.set_cons_zero, List.set_cons_succ, List.getElem_toArray, List.getElem_cons_succ, List.getElem_cons_zero]
            refine wpAnyH_take (i := 8) (v := ?_) rfl (by kernel_rfl) (by kernel_rfl) (by kernel_rfl) (fun _ _ _ h => h) (Or.inl ⟨by rfl, ?hy19⟩) (by assumption) ?rest19
            case hy19 => intro w' hSw; go_simp; (try with_reducible rfl)
            try simp only [Act.put, List.setIfInBounds_toArray, List.set_cons_zero, List.set_cons_succ, List.getElem_toArray, List.getElem_cons_succ, List.getElem_cons_zero]
            refine wpAnyH_ready (rs := [11]) (by kernel_rfl) (by simp) (AllReadyH.cons rfl (fun K9 hK9 => ?_) AllReadyH.nil)
            go_simp
            refine (cI U7 v5 B9 Y10 l4).mono ?_
            rintro e U11 ⟨A6, c6, rfl, q6, ⟨v6, m0⟩, z0, K6⟩
            refine hK9.out _ _ (SXF.out _ K6) (fun _ => ?_)
            clear hK9 K9
            try simp only [Act.put, List.setIfInBounds_toArray, List.set_cons_zero, List.set_cons_succ, List.getElem_toArray, List.getElem_cons_succ, List.getElem_cons_zero]
            refine wpAnyH_take (i := 12) (v := ?_) rfl (by kernel_rfl) (by kernel_rfl) (by kernel_rfl) (fun _ _ _ h => h) (Or.inl ⟨by rfl, ?hy20⟩) (by assumption) ?rest20
            case hy20 => intro w' hSw; go_simp; (try with_reducible rfl)
            try simp only [Act.put, List.setIfInBounds_toArray, List.set_cons_zero, List.set_cons_succ, List.getElem_toArray, List.getElem_cons_succ, List.getElem_cons_zero]
            refine wpAnyH_take (i := 13) (v := ?_) rfl (by kernel_rfl) (by kernel_rfl) (by kernel_rfl) (fun _ _ _ h => h) (Or.inl ⟨by rfl, ?hy21⟩) (by assumption) ?rest21
            case hy21 => intro w' hSw; go_simp; (try with_reducible rfl)
            try simp only [Act.put, List.setIfInBounds_toArray, List.set_cons_zero, List.set_cons_succ, List.getElem_toArray, List.getElem_cons_succ, List.getElem_cons_zero]
            refine wpAnyH_ready (rs := [14]) (by kernel_rfl) (by simp) (AllReadyH.cons rfl (fun K9 hK9 => ?_) AllReadyH.nil)
            go_simp
            have K7 := K6.set (p := ⟨pa, 0, none⟩) (.inl rfl) (.slice A6 E.length c6)
            generalize U11.setCell ⟨pa, 0, none⟩ (.slice A6 E.length c6) = U12 at *
            refine hK9.out _ _ (SXF.out _ K7) (fun _ => ?_)
            clear hK9 K9
            try simp only [Act.put, List.setIfInBounds_toArray, List.set_cons_zero, List.set_cons_succ, List.getElem_toArray, List.getElem_cons_succ, List.getElem_cons_zero]
            refine wpAnyH_done (by kernel_rfl) ?_ _
            go_wp2
            go_ret
            exact ⟨rfl, StQ.next K5 N5 q6⟩
          · go_simp
            refine (cA2 U1 B2).mono ?_
            rintro e U6 ⟨rfl, g7⟩
            have B8 : Bl w5 U6 := Bl.gr B2 g7
            have Y9 := Y3.gr g7
            refine hK9.out _ _ (SXF.out _ (Kx.bl B8)) (fun _ => ?_)
            clear hK9 K9
            try simp only [Act.put, List.setIfInBounds_toArray, List.set_cons_zero, List.set_cons_succ, List.getElem_toArray, List.getElem_cons_succ, List.getElem_cons_zero]
            refine wpAnyH_take (i := 8) (v := ?_) rfl (by kernel_rfl) (by kernel_rfl) (by kernel_rfl) (fun _ _ _ h => h) (Or.inl ⟨by rfl, ?hy22⟩) (by assumption) ?rest22
            case hy22 => intro w' hSw; go_simp; (try with_reducible rfl)
            try simp only [Act.put, List.setIfInBounds_toArray, List.set_cons_zero, List.set_cons_succ, List.getElem_toArray, List.getElem_cons_succ, List.getElem_cons_zero]
            refine wpAnyH_ready (rs := [4]) (by kernel_rfl) (by simp) (AllReadyH.cons rfl (fun K9 hK9 => ?_) AllReadyH.nil)
            have h10 : U6.cell? ⟨pa, 0, none⟩ = some (.slice A5 D.length c5) := (h5.hd.bl B8).cell 0
            go_simp
            refine hK9.out _ _ (SXF.out _ (Kx.bl B8)) (fun _ => ?_)
            clear hK9 K9
            try simp only [Act.put, List.setIfInBounds_toArray, List.set_cons_zero, List.set_cons_succ, List.getElem_toArray, List.getElem_cons_succ, List.getElem_cons_zero]
            refine wpAnyH_ready (rs := [11]) (by kernel_rfl) (by simp) (AllReadyH.cons rfl (fun K9 hK9 => ?_) AllReadyH.nil)
            go_simp
            refine (cI U6 v5 B8 Y9 l4).mono ?_
            rintro e U11 ⟨A6, c6, rfl, q6, ⟨v6, m0⟩, z0, K6⟩
            refine hK9.out _ _ (SXF.out _ K6) (fun _ => ?_)
            clear hK9 K9
            try simp only [Act.put, List.setIfInBounds_toArray, List.set_cons_zero, List.set_cons_succ, List.getElem_toArray, List.getElem_cons_succ, List.getElem_cons_zero]
            refine wpAnyH_take (i := 12) (v := ?_) rfl (by kernel_rfl) (by kernel_rfl) (by kernel_rfl) (fun _ _ _ h => h) (Or.inl ⟨by rfl, ?hy23⟩) (by assumption) ?rest23
            case hy23 => intro w' hSw; go_simp; (try with_reducible rfl)
            try simp only [Act.put, List.setIfInBounds_toArray, List.set_cons_zero, List.set_cons_succ, List.getElem_toArray, List.getElem_cons_succ, List.getElem_cons_zero]
            refine wpAnyH_take (i := 13) (v := ?_) rfl (by kernel_rfl) (by kernel_rfl) (by kernel_rfl) (fun _ _ _ h => h) (Or.inl ⟨by rfl, ?hy24⟩) (by assumption) ?rest24
            case hy24 => intro w' hSw; go_simp; (try with_reducible rfl)
            try simp only [Act.put, List.setIfInBounds_toArray, List.set_cons_zero, List.set_cons_succ, List.getElem_toArray, List.getElem_cons_succ, List.getElem_cons_zero]
            refine wpAnyH_ready (rs := [14]) (by kernel_rfl) (by simp) (AllReadyH.cons rfl (fun K9 hK9 => ?_) AllReadyH.nil)
            go_simp
            have K7 := K6.set (p := ⟨pa, 0, none⟩) (.inl rfl) (.slice A6 E.length c6)
            generalize U11.setCell ⟨pa, 0, none⟩ (.slice A6 E.length c6) = U12 at *
            refine hK9.out _ _ (SXF.out _ K7) (fun _ => ?_)
            clear hK9 K9
            try simp only [Act.put, List.setIfInBounds_toArray, List.set_cons_zero, List.set_cons_succ, List.getElem_toArray, List.getElem_cons_succ, List.getElem_cons_zero]
            refine wpAnyH_done (by kernel_rfl) ?_ _
            go_wp2
            go_ret
            exact ⟨rfl, StQ.next K5 N5 q6⟩
    · have hgo : (atK L o == -1) = true := by rw [at_out ho]; rfl
      have hgo2 : atK L o = -1 := at_out ho
      obtain ⟨e1, e2⟩ := raise_out (fun h' => ho h'.2 : ¬ (k ∈ L ∧ o ∈ L))
      rw [e1, e2]
      rw [hgo2] at cO
      clear e1 e2 hk ho hgo hgo2
      generalize atK L k = q at *
      go_enter Try.func24, Try.ntmps24
      go_wp2_with (rw [hW0'])
      refine (cA _ G0.bl).mono ?_
      rintro e w3 ⟨rfl, g3⟩
      have y0 : w3.cell? ⟨w.heap.size + 1, 0, none⟩ = some (.int .i64 o.1) := (b1.gr g3).cell 0
      have y1 : w3.cell? ⟨w.heap.size + 1, 1, none⟩ = some (.int .i64 o.2) := (b1.gr g3).cell 1
      go_wp2_with fail
      refine (cO _ (G0.trans g3).bl).mono ?_
      rintro e w4 ⟨rfl, g4⟩
      have G4 := ((G0.trans g3).trans g4).bl
      go_wp2
      go_ret
      exact ⟨rfl, StQ.refl h G4⟩
  · obtain ⟨e1, e2⟩ := raise_out (fun h' => hk h'.1 : ¬ (k ∈ L ∧ o ∈ L))
    rw [e1, e2]
    rw [at_out hk] at cA
    clear e1 e2 hk cO
    go_enter Try.func24, Try.ntmps24
    go_wp2_with (rw [hW0'])
    refine (cA _ G0.bl).mono ?_
    rintro e w3 ⟨rfl, g3⟩
    have G4 := (G0.trans g3).bl
    go_wp2
    go_ret
    exact ⟨rfl, StQ.refl h G4⟩

set_option maxRecDepth 100000 in
theorem pNewK {w : World} {A : Option Addr} {c : Nat} {L : List Ky} (h : shK.Rd w A L) (hl : L.length ≤ 10000) :
    Calls Try.prog 8 #[.slice A L.length c] w fun e w' => ∃ pa A' c', e = .returned (.pointer (some ⟨pa, 0, none⟩)) ∧ w.heap.size ≤ pa ∧ PrS w' w.heap.size pa A' c' (newK L) ∧ Bl w w' := by
  obtain ⟨N, hN⟩ : ∃ N, N = L.length := ⟨_, rfl⟩
  rw [← hN] at hl ⊢
  replace hN := Lib.hid hN
  go_enter Try.func8, Try.ntmps8
  go_wp2
  have bp := At.new w #[.slice none 0 0] 59
  have P0 : PrS (w.alloc (.cells #[.slice none 0 0] 59)) w.heap.size w.heap.size none 0 [] := ⟨bp, Shp.Ow.nil _ _, List.nodup_nil⟩
  have G0 := (Bl.refl w).alloc (.cells #[.slice none 0 0] 59)
  obtain ⟨sz, hsz⟩ : ∃ sz, sz = w.heap.size := ⟨_, rfl⟩
  rw [← hsz] at P0 ⊢
  replace hsz := Lib.hid hsz
  go_loopw [10] (fun iv wr => ∃ (j : Nat) (A2 : Option Addr) (c2 : Nat) (M : List Ky), j ≤ N ∧ iv = .int .i64 j ∧ PrS wr sz sz A2 c2 M ∧ Hid (M = newK (L.take j)) ∧ Bl w wr) (fun iv _ => N - (intOf iv).toNat)
  case atStart => exact ⟨0, none, 0, [], by omega, rfl, P0, Lib.hid (by simp [newK]), G0⟩
  case round =>
    clear P0 bp G0
    obtain ⟨j, A2, c2, M, hj, rfl, P, hM, G⟩ := hrel
    by_cases hlt : j < N
    · obtain ⟨p, hp⟩ := list_at (show j < L.length by have := hN.out; omega)
      obtain ⟨b, off, rfl, hrow⟩ := h.opened (by have := hN.out; omega)
      obtain ⟨e1, e2⟩ := k_at (hrow.bl G) hp
      have hM2 : Hid (addK M p = newK (L.take (j + 1))) := Lib.hid (by rw [hM.out]; exact (new_take hp).symm)
      have hMl : Hid (M.length ≤ 100000) := Lib.hid (by rw [hM.out]; have := new_len (L.take j); have := List.length_take_le j L; have := hN.out; omega)
      have hsG : sz ≤ wr.heap.size := by have := G.size; have := hsz.out; omega
      have cA := fun V (g : Bl wr V) => pAddK (P.bl g) hMl.out (by have := g.size; omega) p
      clear hp hM
      replace hj := Lib.hid hj
      go_wp2_with fail
      refine (cA _ ((Bl.refl _).alloc _)).mono ?_
      rintro e w3 ⟨rfl, A3, c3, P3, k3, n3⟩
      have G3 : Bl w w3 := k3.under (fun x hx => by
        have := hsz.out
        rcases hx with rfl | hx
        · omega
        · have := P.own.above hx; omega) (G.alloc _)
      go_wp2
      go_roundw
      case rel => exact ⟨j + 1, A3, c3, addK M p, by omega, by go_num, P3, hM2, G3⟩
      case measure => simp [intOf]; omega
    · obtain rfl : j = N := by omega
      have hf := hM.out
      rw [hN.out, List.take_length] at hf
      subst hf
      go_wp2
      go_ret
      exact ⟨sz, A2, c2, rfl, by rw [hsz.out]; exact Nat.le_refl _, by rw [← hsz.out]; exact P, G⟩
end

end Go.Proofs.Ytgjoipndhlngnaa
