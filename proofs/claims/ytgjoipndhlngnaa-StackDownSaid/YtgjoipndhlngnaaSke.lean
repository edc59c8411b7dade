/-
  What is proved: what the document's Add, New, Drop, Top, Lower, Over hand back. Conditions: bounds on lengths.
-/
import Derived.Test.YtgjoipndhlngnaaSkd
namespace Go.Proofs.Ytgjoipndhlngnaa
open Go.ChangeShapes Go.WideShapes Go.ChangeAt Go.RowKit Go.Joins Go.Sort Go.Deep

section
attribute [local go_sem ↓] eqlK neqK eqlP neqP

set_option maxRecDepth 100000 in
theorem rAddK {w : World} {B c : Nat} {A : Option Addr} {L : List Ky} (h : OwK w B A c L) (hl : L.length ≤ 1000000) (hB : B ≤ w.heap.size) (k : Ky) :
    Calls Try.prog 28 #[.slice A L.length c, kV k] w fun e w' => ∃ A' c', e = .returned (.tuple #[.slice A' (addK L k).length c', .bool (!decide (k ∈ L))]) ∧ OwK w' B A' c' (addK L k) ∧ Bl w w' := by
  have cA := fun V (g : Gr w V) => rAt1 (c := c) (h.rd.bl g.bl) hl k
  by_cases hk : k ∈ L
  · have e1 : addK L k = L := if_pos hk
    have e2 : (!decide (k ∈ L)) = false := by simp [hk]
    rw [e1, e2]
    have hge : (0 : Int) ≤ atK L k := at_ge.2 hk
    clear e1 e2 hk
    generalize atK L k = q at *
    go_enter Try.func28, Try.ntmps28
    go_wp2_with fail
    refine (cA _ ((Gr.refl w).alloc _)).mono ?_
    rintro e w3 ⟨rfl, g3⟩
    have G3 := ((Gr.refl w).alloc _).trans g3
    go_wp2
    go_ret2
    exact ⟨A, c, rfl, h.bl G3.bl, G3.bl⟩
  · have e1 : addK L k = L ++ [k] := if_neg hk
    have e2 : (!decide (k ∈ L)) = true := by simp [hk]
    rw [e1, e2]
    have hge : ¬ (0 : Int) ≤ atK L k := fun h' => hk (at_ge.1 h')
    clear e1 e2 hk
    generalize atK L k = q at *
    obtain ⟨sz, hsz⟩ : ∃ sz, sz = w.heap.size := ⟨_, rfl⟩
    have b0 := At.new w (kC k) 27
    rw [← hsz] at b0
    have G0 := (Gr.refl w).alloc (.cells (kC k) 27)
    go_enter Try.func28, Try.ntmps28
    go_wp2_with fail
    refine (cA _ ((Gr.refl w).alloc _)).mono ?_
    rintro e w3 ⟨rfl, g3⟩
    have G3 := G0.trans g3
    have h3 := h.bl G3.bl
    have hcap := h3.caps.2.2
    have b3 := b0.gr g3
    have hs3 := G3.size
    rw [← hsz] at hs3 ⊢
    replace hsz := Lib.hid hsz
    clear cA b0 G0 g3
    go_wp2_with (first
      | (have gd := own4; clear gd; at_builtin; refine Shp.wp_app (S := shK) Try.underlying22 infoK rfl (by decide) rfl (.tmp 15) (.tmp 17) rfl A4 c4 L rfl w3.heap.size (own4.bl ((Bl.refl _).alloc _)) (some ⟨w4.heap.size, 0, none⟩) 1 [k] rfl (by first | simp | exact hcap) (Shp.Rd.new1 (At.new _ _ _) rfl) (by simp; omega) (by have := ap4.size; simp; omega) ?_; intro A5 c5 w5 own5 ap5 lies5)
      | (at_builtin; refine Shp.wp_app (S := shK) Try.underlying22 infoK rfl (by decide) rfl (.tmp 12) (.tmp 13) rfl none 0 [] rfl w3.heap.size (Shp.Ow.nil _ _) A c L rfl (by first | simp | exact hcap) (h3.rd) (by simp; omega) (Nat.le_refl _) ?_; intro A4 c4 w4 own4 ap4 lies4; rw [List.nil_append] at own4; simp only [List.length_nil, Nat.zero_add]; have ap4' := By.none ap4; have q0 := (b3.bl ap4').cell 0; have q1 := (b3.bl ap4').cell 1; have ql := (b3.bl ap4').lt))
    have G5 := own4.app_bl ap5 (ap4'.alloc _) (Nat.le_refl _)
    go_ret2
    exact ⟨A5, c5, by simp, own5.low (by have := hsz.out; omega), G3.bl.trans G5⟩

set_option maxRecDepth 100000 in
theorem rNewK {w : World} {A : Option Addr} {c : Nat} {L : List Ky} (h : shK.Rd w A L) (hl : L.length ≤ 100000) :
    Calls Try.prog 9 #[.slice A L.length c] w fun e w' => ∃ A' c', e = .returned (.slice A' (newK L).length c') ∧ OwK w' w.heap.size A' c' (newK L) ∧ Bl w w' := by
  obtain ⟨N, hN⟩ : ∃ N, N = L.length := ⟨_, rfl⟩
  rw [← hN] at hl ⊢
  replace hN := Lib.hid hN
  obtain ⟨sz, hsz⟩ : ∃ sz, sz = w.heap.size := ⟨_, rfl⟩
  rw [← hsz]
  replace hsz := Lib.hid hsz
  go_enter Try.func9, Try.ntmps9
  go_wp2
  go_loopw [3, 4] (fun v iv wr => ∃ (j : Nat) (A2 : Option Addr) (c2 : Nat) (M : List Ky), j ≤ N ∧ v = .slice A2 M.length c2 ∧ iv = .int .i64 j ∧ OwK wr sz A2 c2 M ∧ Hid (M = newK (L.take j)) ∧ Bl w wr) (fun _ iv _ => N - (intOf iv).toNat)
  case atStart => exact ⟨0, none, 0, [], by omega, rfl, rfl, Shp.Ow.nil _ _, Lib.hid (by simp [newK]), Bl.refl _⟩
  case round =>
    obtain ⟨j, A2, c2, M, hj, rfl, rfl, own, hM, G⟩ := hrel
    by_cases hlt : j < N
    · obtain ⟨p, hp⟩ := list_at (show j < L.length by have := hN.out; omega)
      obtain ⟨b, off, rfl, hrow⟩ := h.opened (by have := hN.out; omega)
      obtain ⟨e1, e2⟩ := k_at (hrow.bl G) hp
      have hM2 : Hid (addK M p = newK (L.take (j + 1))) := Lib.hid (by rw [hM.out]; exact (new_take hp).symm)
      have hMl : Hid (M.length ≤ 1000000) := Lib.hid (by rw [hM.out]; have := new_len (L.take j); have := List.length_take_le j L; have := hN.out; omega)
      have cA := rAddK own hMl.out (by have := G.size; have := hsz.out; omega) p
      clear hp hM
      replace hj := Lib.hid hj
      go_wp2_with fail
      refine cA.mono ?_
      rintro e w3 ⟨A3, c3, rfl, own3, g3⟩
      go_wp2
      go_roundw
      case rel => exact ⟨j + 1, A3, c3, addK M p, by omega, rfl, by go_num, own3, hM2, G.trans g3⟩
      case measure => simp [intOf]; omega
    · obtain rfl : j = N := by omega
      have hf := hM.out
      rw [hN.out, List.take_length] at hf
      subst hf
      go_wp2
      go_ret
      exact ⟨A2, c2, rfl, own, G⟩

theorem dropK_take {L : List Ky} {j : Nat} {p : Ky} (h : L[j]? = some p) (k : Ky) : dropK (L.take (j + 1)) k = dropK (L.take j) k ++ if p = k then [] else [p] := by
  rw [List.take_add_one, h]
  unfold dropK
  rw [List.filter_append]
  congr 1
  by_cases hp : p = k
  · subst hp; simp
  · have : (p != k) = true := by simpa using hp
    simp [hp]
set_option maxRecDepth 100000 in
set_option maxHeartbeats 1000000 in
theorem rDropK {w : World} {A : Option Addr} {c : Nat} {L : List Ky} (h : shK.Rd w A L) (hl : L.length ≤ 1000000) (k : Ky) :
    Calls Try.prog 25 #[.slice A L.length c, kV k] w fun e w' => ∃ A' c', e = .returned (.tuple #[.slice A' (dropK L k).length c', .bool (decide (k ∈ L))]) ∧ OwK w' w.heap.size A' c' (dropK L k) ∧ Bl w w' := by
  have hwas := drop_lt L k
  obtain ⟨was, hw⟩ : ∃ was, was = decide (k ∈ L) := ⟨_, rfl⟩
  rw [← hw]
  obtain ⟨N, hN⟩ : ∃ N, N = L.length := ⟨_, rfl⟩
  rw [← hN] at hl hwas ⊢
  have hWas : Hid (decide ((dropK L k).length < N) = was) := Lib.hid (by rw [hw]; exact decide_eq_decide.2 hwas)
  clear hwas hw
  replace hN := Lib.hid hN
  obtain ⟨sz, hsz⟩ : ∃ sz, sz = w.heap.size := ⟨_, rfl⟩
  have b0 := At.new w (kC k) 27
  rw [← hsz] at b0 ⊢
  have G0 := (Bl.refl w).alloc (.cells (kC k) 27)
  go_enter Try.func25, Try.ntmps25
  go_wp2
  rw [← hsz]
  have hs0 : sz + 1 ≤ (w.alloc (.cells (kC k) 27)).heap.size := by simp; omega
  replace hsz := Lib.hid hsz
  go_loopw [6, 7] (fun v iv wr => ∃ (j : Nat) (A2 : Option Addr) (c2 : Nat) (M : List Ky), j ≤ N ∧ v = .slice A2 M.length c2 ∧ iv = .int .i64 j ∧ OwK wr (sz + 1) A2 c2 M ∧ Hid (M = dropK (L.take j) k) ∧ Bl w wr ∧ At wr sz (kC k) 27 ∧ sz + 1 ≤ wr.heap.size) (fun _ iv _ => N - (intOf iv).toNat)
  case atStart => exact ⟨0, none, 0, [], by omega, rfl, rfl, Shp.Ow.nil _ _, Lib.hid (by simp [dropK]), G0, b0, hs0⟩
  case round =>
    clear b0 G0 hs0
    obtain ⟨j, A2, c2, M, hj, rfl, rfl, own, hM, G, bx, hws⟩ := hrel
    by_cases hlt : j < N
    · obtain ⟨p, hp⟩ := list_at (show j < L.length by have := hN.out; omega)
      obtain ⟨b, off, rfl, hrow⟩ := h.opened (by have := hN.out; omega)
      have e1 := fun n os => (k_at (hrow.bl ((G.drewN n).grow os)) hp).1
      have e2 := fun n os => (k_at (hrow.bl ((G.drewN n).grow os)) hp).2
      have x0 := fun n os => bx.cells n os 0
      have x1 := fun n os => bx.cells n os 1
      have hs := dropK_take hp k
      rw [← hM.out] at hs
      have hMl : Hid (M.length ≤ 1000000) := Lib.hid (by rw [hM.out]; have := drop_len (L.take j) k; have := List.length_take_le j L; omega)
      replace hj := Lib.hid hj
      by_cases hq : p = k
      · rw [if_pos hq, List.append_nil] at hs
        replace hs := Lib.hid hs.symm
        have hd : decide (p = k) = true := by simpa using hq
        clear hp hM
        replace hq := Lib.hid hq
        go_wp2
        refine wp_region_quiet_grown (by kernel_rfl) (by kernel_rfl) ?_
        repeat (first | go_big_quiet_step (fail) | quiet_step (fail))
        refine wpQuiet_nil ?_
        intro w9 g9
        replace g9 : Gr _ w9 := g9
        go_wp2
        go_roundw
        case rel => exact ⟨j + 1, A2, c2, M, by omega, rfl, by go_num, own.bl g9.bl, hs, G.gr g9, bx.gr g9, by have := g9.size; omega⟩
        case measure => simp [intOf]; omega
      · rw [if_neg hq] at hs
        replace hs := Lib.hid hs.symm
        have hd := ky_ne hq
        clear hM
        replace hq := Lib.hid hq
        go_wp2
        refine wp_region_quiet_grown (by kernel_rfl) (by kernel_rfl) ?_
        repeat (first | go_big_quiet_step (fail) | quiet_step (fail))
        refine wpQuiet_nil ?_
        intro w9 g9
        replace g9 : Gr _ w9 := g9
        obtain ⟨y1, y2⟩ := k_at (hrow.bl (G.gr g9)) hp
        have own9 := own.bl g9.bl
        have hs9 := g9.size
        replace hp := Lib.hid hp
        clear e1 e2 x0 x1
        go_wp2_with (at_builtin; refine Shp.wp_app (S := shK) Try.underlying22 infoK rfl (by decide) rfl (.tmp 20) (.tmp 25) rfl A2 c2 M rfl (sz + 1) (own9.bl ((Bl.refl _).alloc _)) (some ⟨w9.heap.size, 0, none⟩) 1 [p] rfl (by first | simp | exact hcap) (Shp.Rd.new1 (At.new _ _ _) rfl) (by have := hMl.out; simp; omega) (by simp; omega) ?_; intro A3 c3 w3 own3 ap3 lies3)
        have G3 : Bl w w3 := own9.app_bl ap3 ((G.gr g9).alloc _) (by rw [hsz.out]; omega)
        go_roundw
        case rel => exact ⟨j + 1, A3, c3, M ++ [p], by omega, by simp, by go_num, own3, hs, G3, ((bx.gr g9).alloc _).grown ap3 (fun e => by have := own9.above e.symm; omega), by have := ap3.size; simp at this; omega⟩
        case measure => simp [intOf]; omega
    · obtain rfl : j = N := by omega
      have hf := hM.out
      rw [hN.out, List.take_length] at hf
      have hW2 := hWas.out
      rw [← hf] at hW2
      have hMl : M.length ≤ 1000000 := by rw [hf]; have := drop_len L k; have := hN.out; omega
      replace hf := Lib.hid hf
      replace hN := Lib.hid hN.out
      clear hM
      have hW3 : decide ((M.length : Int) < (j : Int)) = was := by rw [← hW2]; exact decide_eq_decide.2 (by omega)
      go_wp2
      go_ret2
      refine ⟨A2, c2, ?_, ?_, G⟩
      · rw [← hf.out]; first | rfl | (congr 3; exact hW3) | (congr 3; exact hW2)
      · rw [← hf.out]; exact own.low (by have := hsz.out; omega)
end

end Go.Proofs.Ytgjoipndhlngnaa
