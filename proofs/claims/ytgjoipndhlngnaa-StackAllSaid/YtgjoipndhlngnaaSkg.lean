/-
  What is proved: what the document's Raise and DropAll hand back. Conditions: bounds on lengths.
-/
import Derived.Test.YtgjoipndhlngnaaSkf
namespace Go.Proofs.Ytgjoipndhlngnaa
open Go.ChangeShapes Go.WideShapes Go.ChangeAt Go.RowKit Go.Joins Go.Sort Go.Deep

section
attribute [local go_sem ↓] eqlK neqK eqlP neqP

theorem flat_take {L : List Ky} {j : Nat} {p : Ky} (h : L[j]? = some p) (k o : Ky) : (L.take (j + 1)).flatMap (stepK k o) = (L.take j).flatMap (stepK k o) ++ stepK k o p := by
  rw [List.take_add_one, h, List.flatMap_append]; simp
theorem step_len (k o x : Ky) : (stepK k o x).length ≤ 2 := by
  unfold stepK
  rw [List.length_append]
  split <;> split <;> simp
theorem flat_len (k o : Ky) : ∀ L : List Ky, (L.flatMap (stepK k o)).length ≤ 2 * L.length
  | [] => by simp
  | x :: L => by
    have h1 := flat_len k o L
    have h2 := step_len k o x
    rw [List.flatMap_cons, List.length_append, List.length_cons]; omega
theorem raise_out {L : List Ky} {k o : Ky} (h : ¬ (k ∈ L ∧ o ∈ L)) : raiseK L k o = L ∧ raiseE L k o = 5 := ⟨if_neg fun h' => h ⟨h'.1, h'.2.1⟩, if_neg h⟩
theorem raise_self {L : List Ky} {k : Ky} (h : k ∈ L) : raiseK L k k = L ∧ raiseE L k k = 1 := ⟨if_neg fun h' => h'.2.2 rfl, by unfold raiseE; rw [if_pos ⟨h, h⟩, if_pos rfl]⟩
theorem raise_on {L : List Ky} {k o : Ky} (h : k ∈ L) (ho : o ∈ L) (hne : k ≠ o) : raiseK L k o = L.flatMap (stepK k o) ∧ raiseE L k o = 0 := ⟨if_pos ⟨h, ho, hne⟩, by unfold raiseE; rw [if_pos ⟨h, ho⟩, if_neg hne]⟩
theorem at_neg {L : List Ky} {k : Ky} (h : ¬ k ∈ L) : atK L k < 0 := by rw [at_out h]; omega

set_option maxRecDepth 100000 in
set_option maxHeartbeats 2000000 in
theorem rRaiseK {w : World} {B c : Nat} {A : Option Addr} {L : List Ky} (h : OwK w B A c L) (hl : L.length ≤ 100000) (hB : B ≤ w.heap.size) (k o : Ky) :
    Calls Try.prog 31 #[.slice A L.length c, kV k, kV o] w fun e w' => ∃ A' c', e = .returned (.tuple #[.slice A' (raiseK L k o).length c', .int .i64 (raiseE L k o)]) ∧ OwK w' B A' c' (raiseK L k o) ∧ Bl w w' := by
  have cA := fun V (g : Gr w V) => rAt1 (c := c) (h.rd.bl g.bl) (by omega) k
  have cO := fun V (g : Gr w V) => rAt1 (c := c) (h.rd.bl g.bl) (by omega) o
  have b0 := (At.new w (kC k) 27).alloc (.cells (kC o) 27)
  have b1 := At.newAt (w := w.alloc (.cells (kC k) 27)) (n := w.heap.size + 1) (by simp) (kC o) 27
  have G0 := ((Gr.refl w).alloc (.cells (kC k) 27)).alloc (.cells (kC o) 27)
  obtain ⟨W0, hW0⟩ : ∃ W0, W0 = (w.alloc (.cells (kC k) 27)).alloc (.cells (kC o) 27) := ⟨_, rfl⟩
  have hW0' : (w.alloc (.cells #[.int .i64 k.1, .int .i64 k.2] 27)).alloc (.cells #[.int .i64 o.1, .int .i64 o.2] 27) = W0 := hW0.symm
  rw [← hW0] at b0 b1 G0
  have hs0 : w.heap.size + 2 ≤ W0.heap.size := by rw [hW0]; simp
  clear hW0
  have x0 : W0.cell? ⟨w.heap.size, 0, none⟩ = some (.int .i64 k.1) := b0.cell 0
  have x1 : W0.cell? ⟨w.heap.size, 1, none⟩ = some (.int .i64 k.2) := b0.cell 1
  by_cases hk : k ∈ L
  · have hge : ¬ atK L k < 0 := by have := at_ge.2 hk; omega
    have hge' : decide (atK L k < 0) = false := by simpa using hge
    by_cases ho : o ∈ L
    · have hgo : ¬ atK L o < 0 := by have := at_ge.2 ho; omega
      have hgo' : decide (atK L o < 0) = false := by simpa using hgo
      by_cases hne : k = o
      · subst hne
        obtain ⟨e1, e2⟩ := raise_self hk
        rw [e1, e2]
        clear e1 e2 hk ho
        generalize atK L k = q at *
        go_enter Try.func31, Try.ntmps31
        go_wp2_with (rw [hW0'])
        refine (cA _ G0).mono ?_
        rintro e w3 ⟨rfl, g3⟩
        have y0 := (b1.gr g3).cell 0
        have y1 := (b1.gr g3).cell 1
        simp at y0 y1
        go_wp2_with fail
        refine (cO _ (G0.trans g3)).mono ?_
        rintro e w4 ⟨rfl, g4⟩
        have z0 := ((b0.gr g3).gr g4).cell 0
        have z1 := ((b0.gr g3).gr g4).cell 1
        have z2 := ((b1.gr g3).gr g4).cell 0
        have z3 := ((b1.gr g3).gr g4).cell 1
        simp at z0 z1 z2 z3
        go_wp2
        go_ret2
        have G4 := (G0.trans g3).trans g4
        exact ⟨A, c, rfl, h.bl G4.bl, G4.bl⟩
      · obtain ⟨e1, e2⟩ := raise_on hk ho hne
        rw [e1, e2]
        clear e1 e2 hk ho
        have hko := ky_ne hne
        generalize atK L k = q at *
        generalize atK L o = r at *
        obtain ⟨N, hN⟩ : ∃ N, N = L.length := ⟨_, rfl⟩
        rw [← hN] at hl cA cO ⊢
        replace hN := Lib.hid hN
        go_enter Try.func31, Try.ntmps31
        go_wp2_with (rw [hW0'])
        refine (cA _ G0).mono ?_
        rintro e w3 ⟨rfl, g3⟩
        have y0 := (b1.gr g3).cell 0
        have y1 := (b1.gr g3).cell 1
        simp at y0 y1
        go_wp2_with fail
        refine (cO _ (G0.trans g3)).mono ?_
        rintro e w4 ⟨rfl, g4⟩
        have b2 := (b0.gr g3).gr g4
        have b3 := (b1.gr g3).gr g4
        have z0 := b2.cell 0
        have z1 := b2.cell 1
        have z2 := b3.cell 0
        have z3 := b3.cell 1
        simp at z0 z1 z2 z3
        have G4 := (G0.trans g3).trans g4
        have hs4 : w.heap.size + 2 ≤ w4.heap.size := by have := g3.size; have := g4.size; omega
        go_wp2
        obtain ⟨sz, hsz⟩ : ∃ sz, sz = w.heap.size := ⟨_, rfl⟩
        rw [← hsz] at b2 b3 hs4 ⊢
        replace hsz := Lib.hid hsz
        clear x0 x1 y0 y1 z0 z1 z2 z3 cA cO b0 b1 g3 g4 G0 hs0 hge hge' hgo hgo' hW0'
        replace hko := Lib.hid hko
        go_loopw [8, 9] (fun v iv wr => ∃ (j : Nat) (A2 : Option Addr) (c2 : Nat) (M : List Ky), j ≤ N ∧ v = .slice A2 M.length c2 ∧ iv = .int .i64 j ∧ OwK wr (sz + 2) A2 c2 M ∧ Hid (M = (L.take j).flatMap (stepK k o)) ∧ Bl w wr ∧ At wr sz (kC k) 27 ∧ At wr (sz + 1) (kC o) 27 ∧ sz + 2 ≤ wr.heap.size) (fun _ iv _ => N - (intOf iv).toNat)
        case atStart => exact ⟨0, none, 0, [], by omega, rfl, rfl, Shp.Ow.nil _ _, Lib.hid (by simp), G4.bl, b2, b3, hs4⟩
        case round =>
          clear b2 b3 G4 hs4
          obtain ⟨j, A2, c2, M, hj, rfl, rfl, own, hM, G, bx, by_, hws⟩ := hrel
          by_cases hlt : j < N
          · obtain ⟨p, hp⟩ := list_at (show j < L.length by have := hN.out; omega)
            obtain ⟨b, off, rfl, hrow⟩ := h.rd.opened (by have := hN.out; omega)
            have e1 := fun n os => (k_at (hrow.bl ((G.drewN n).grow os)) hp).1
            have e2 := fun n os => (k_at (hrow.bl ((G.drewN n).grow os)) hp).2
            have x0 := fun n os => bx.cells n os 0
            have x1 := fun n os => bx.cells n os 1
            have hs := flat_take hp k o
            rw [← hM.out] at hs
            have hMl : Hid (M.length ≤ 1000000) := Lib.hid (by rw [hM.out]; have := flat_len k o (L.take j); have := List.length_take_le j L; have := hN.out; omega)
            replace hj := Lib.hid hj
            clear hM
            have X := Lib.hid (fun V (g : Bl w V) => k_at (hrow.bl g) hp)
            replace hrow := Lib.hid hrow
            by_cases hq : p = k
            · have hst : stepK k o p = [] := by unfold stepK; rw [if_neg (fun h' => h' hq), if_neg (fun e => hne (hq.symm.trans e))]; rfl
              rw [hst, List.append_nil] at hs
              replace hs := Lib.hid hs.symm
              have hd : decide (p = k) = true := by simpa using hq
              have hd2 : decide (p = o) = false := by rw [hq]; exact hko.out
              clear hp hst hne
              replace hq := Lib.hid hq
              go_wp2
              refine wp_region_quiet_grown (by kernel_rfl) (by kernel_rfl) ?_
              repeat (first | go_big_quiet_step (fail) | quiet_step (fail))
              refine wpQuiet_nil ?_
              intro w9 g9
              replace g9 : Gr _ w9 := g9
              have G9 := G.gr g9
              have b9 := by_.gr g9
              have a9 := bx.gr g9
              have own9 := own.bl g9.bl
              have hs9 := g9.size
              have f1 := fun n os => (X.out _ ((G9.drewN n).grow os)).1
              have f2 := fun n os => (X.out _ ((G9.drewN n).grow os)).2
              have u0 := fun n os => b9.cells n os 0
              have u1 := fun n os => b9.cells n os 1
              clear e1 e2 x0 x1 g9
              go_wp2
              refine wp_region_quiet_grown (by kernel_rfl) (by kernel_rfl) ?_
              repeat (first | go_big_quiet_step (fail) | quiet_step (fail))
              refine wpQuiet_nil ?_
              intro w8 g8
              replace g8 : Gr _ w8 := g8
              go_wp2
              go_roundw
              case rel => exact ⟨j + 1, A2, c2, M, by omega, rfl, by go_num, own9.bl g8.bl, hs, G9.gr g8, a9.gr g8, b9.gr g8, by have := g8.size; omega⟩
              case measure => simp [intOf]; omega
            · have hd := ky_ne hq
              go_wp2
              refine wp_region_quiet_grown (by kernel_rfl) (by kernel_rfl) ?_
              repeat (first | go_big_quiet_step (fail) | quiet_step (fail))
              refine wpQuiet_nil ?_
              intro w9 g9
              replace g9 : Gr _ w9 := g9
              have own9 := own.bl g9.bl
              have G9 := G.gr g9
              have b9 := by_.gr g9
              have a9 := bx.gr g9
              have hs9 := g9.size
              obtain ⟨y1, y2⟩ := X.out w9 G9
              clear e1 e2 x0 x1
              replace hq := Lib.hid hq
              replace hp := Lib.hid hp
              go_wp2_with (at_builtin; refine Shp.wp_app (S := shK) Try.underlying22 infoK rfl (by decide) rfl (.tmp 37) (.tmp 42) rfl A2 c2 M rfl (sz + 2) (own9.bl ((Bl.refl _).alloc _)) (some ⟨w9.heap.size, 0, none⟩) 1 [p] rfl (by first | simp | exact hcap) (Shp.Rd.new1 (At.new _ _ _) rfl) (by have := hMl.out; simp; omega) (by simp; omega) ?_; intro A3 c3 w3 own3 ap3 lies3)
              have G3 : Bl w w3 := own9.app_bl ap3 (G9.alloc _) (by rw [hsz.out]; omega)
              have a3 := (a9.alloc (.cells (kC p) 27)).grown ap3 (fun e => by have := own9.above e.symm; omega)
              have b3 := (b9.alloc (.cells (kC p) 27)).grown ap3 (fun e => by have := own9.above e.symm; omega)
              have hs3 : sz + 2 ≤ w3.heap.size := by have := ap3.size; simp at this; omega
              have hML3 : Hid ((M ++ [p]).length ≤ 1000001) := Lib.hid (by have := hMl.out; simp; omega)
              have hM3l : M.length + 1 = (M ++ [p]).length := by simp
              have f1 := fun n os => (X.out _ ((G3.drewN n).grow os)).1
              have f2 := fun n os => (X.out _ ((G3.drewN n).grow os)).2
              have u0 := fun n os => b3.cells n os 0
              have u1 := fun n os => b3.cells n os 1
              by_cases hr : p = o
              · have hst : stepK k o p = [p] ++ [k] := by unfold stepK; rw [if_pos hq.out, if_pos hr]
                rw [hst, ← List.append_assoc] at hs
                replace hs := Lib.hid hs.symm
                have hd2 : decide (p = o) = true := by simpa using hr
                replace hr := Lib.hid hr
                simp only [hM3l]
                generalize M ++ [p] = M3 at *
                clear hst hM3l y1 y2
                go_wp2
                refine wp_region_quiet_grown (by kernel_rfl) (by kernel_rfl) ?_
                repeat (first | go_big_quiet_step (fail) | quiet_step (fail))
                refine wpQuiet_nil ?_
                intro w8 g8
                replace g8 : Gr _ w8 := g8
                have own8 := own3.bl g8.bl
                have G8 := G3.gr g8
                have a8 := a3.gr g8
                have b8 := b3.gr g8
                have hs8 := g8.size
                have t0 := a8.cell 0
                have t1 := a8.cell 1
                simp at t0 t1
                clear f1 f2 u0 u1
                go_wp2_with (at_builtin; refine Shp.wp_app (S := shK) Try.underlying22 infoK rfl (by decide) rfl (.tmp 50) (.tmp 52) rfl A3 c3 M3 rfl (sz + 2) (own8.bl ((Bl.refl _).alloc _)) (some ⟨w8.heap.size, 0, none⟩) 1 [k] rfl (by first | simp | exact hcap) (Shp.Rd.new1 (At.new _ _ _) rfl) (by have := hML3.out; simp; omega) (by simp; omega) ?_; intro A5 c5 w5 own5 ap5 lies5)
                have G5 : Bl w w5 := own8.app_bl ap5 (G8.alloc _) (by rw [hsz.out]; omega)
                go_roundw
                case rel => exact ⟨j + 1, A5, c5, M3 ++ [k], by omega, by simp, by go_num, own5, hs, G5, (a8.alloc _).grown ap5 (fun e => by have := own8.above e.symm; omega), (b8.alloc _).grown ap5 (fun e => by have := own8.above e.symm; omega), by have := ap5.size; simp at this; omega⟩
                case measure => simp [intOf]; omega
              · have hst : stepK k o p = [p] := by unfold stepK; rw [if_pos hq.out, if_neg hr]; rfl
                rw [hst] at hs
                replace hs := Lib.hid hs.symm
                have hd2 := ky_ne hr
                replace hr := Lib.hid hr
                simp only [hM3l]
                generalize M ++ [p] = M3 at *
                clear hst hM3l y1 y2
                go_wp2
                refine wp_region_quiet_grown (by kernel_rfl) (by kernel_rfl) ?_
                repeat (first | go_big_quiet_step (fail) | quiet_step (fail))
                refine wpQuiet_nil ?_
                intro w8 g8
                replace g8 : Gr _ w8 := g8
                go_wp2
                go_roundw
                case rel => exact ⟨j + 1, A3, c3, M3, by omega, rfl, by go_num, own3.bl g8.bl, hs, G3.gr g8, a3.gr g8, b3.gr g8, by have := g8.size; omega⟩
                case measure => simp [intOf]; omega
          · obtain rfl : j = N := by omega
            have hf := hM.out
            rw [hN.out, List.take_length] at hf
            subst hf
            go_wp2
            go_ret2
            exact ⟨A2, c2, rfl, own.low (by have := hsz.out; omega), G⟩
    · have hgo : atK L o < 0 := at_neg ho
      have hgo' : decide (atK L o < 0) = true := by simpa using hgo
      obtain ⟨e1, e2⟩ := raise_out (fun h' => ho h'.2 : ¬ (k ∈ L ∧ o ∈ L))
      rw [e1, e2]
      clear e1 e2 hk ho
      generalize atK L k = q at *
      generalize atK L o = r at *
      go_enter Try.func31, Try.ntmps31
      go_wp2_with (rw [hW0'])
      refine (cA _ G0).mono ?_
      rintro e w3 ⟨rfl, g3⟩
      have y0 := (b1.gr g3).cell 0
      have y1 := (b1.gr g3).cell 1
      simp at y0 y1
      go_wp2_with fail
      refine (cO _ (G0.trans g3)).mono ?_
      rintro e w4 ⟨rfl, g4⟩
      go_wp2
      go_ret2
      have G4 := (G0.trans g3).trans g4
      exact ⟨A, c, rfl, h.bl G4.bl, G4.bl⟩
  · have hge : atK L k < 0 := at_neg hk
    have hge' : decide (atK L k < 0) = true := by simpa using hge
    obtain ⟨e1, e2⟩ := raise_out (fun h' => hk h'.1 : ¬ (k ∈ L ∧ o ∈ L))
    rw [e1, e2]
    clear e1 e2 hk cO
    generalize atK L k = q at *
    go_enter Try.func31, Try.ntmps31
    go_wp2_with (rw [hW0'])
    refine (cA _ G0).mono ?_
    rintro e w3 ⟨rfl, g3⟩
    go_wp2
    go_ret2
    have G4 := G0.trans g3
    exact ⟨A, c, rfl, h.bl G4.bl, G4.bl⟩
end

end Go.Proofs.Ytgjoipndhlngnaa
