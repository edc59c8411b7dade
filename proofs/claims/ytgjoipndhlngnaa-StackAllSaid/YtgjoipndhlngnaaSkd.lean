/-
  What is proved: what At of the program's stack, Same of the document, 'as' and 'small' of the statements hand back. Conditions: bounds on lengths.
-/
import Derived.Test.YtgjoipndhlngnaaSkc
import Derived.Test.YtgjoipndhlngnaaAm
import Derived.Deep.RegionHeld3
namespace Go.Proofs.Ytgjoipndhlngnaa
open Go.ChangeShapes Go.WideShapes Go.ChangeAt Go.RowKit Go.Joins Go.Sort Go.Deep

section
attribute [local go_sem ↓] eqlK neqK eqlP neqP

/-- A stack: its block, its row of keys, which are apart. -/
structure PrS (w : World) (B pa : Nat) (A : Option Addr) (c : Nat) (L : List Ky) : Prop where
  hd : At w pa #[.slice A L.length c] 59
  own : OwP w B A c L
  nd : L.Nodup
theorem PrS.bl {w w' : World} {B pa c : Nat} {A : Option Addr} {L : List Ky} (h : PrS w B pa A c L) (g : Bl w w') : PrS w' B pa A c L := ⟨h.hd.bl g, h.own.bl g, h.nd⟩

set_option maxRecDepth 100000 in
theorem pAt1 {w : World} {B pa c : Nat} {A : Option Addr} {L : List Ky} (h : PrS w B pa A c L) (hl : L.length ≤ 1000000) (k : Ky) :
    Calls Try.prog 15 #[.pointer (some ⟨pa, 0, none⟩), kV k] w (Rt w (.int .i64 (atK L k))) := by
  have hrd := h.own.rd
  have hd0 := h.hd.cell 0
  have hdl := h.hd.lt
  obtain ⟨N, hN⟩ : ∃ N, N = L.length := ⟨_, rfl⟩
  rw [← hN] at hl hd0
  replace hN := Lib.hid hN
  clear h
  go_enter Try.func15, Try.ntmps15
  go_wp2
  go_loopw [12] (fun v wr => ∃ j : Nat, j ≤ N ∧ v = .int .i64 j ∧ Gr w wr ∧ At wr w.heap.size (kC k) 26 ∧ Hid (∀ x ∈ L.take j, x ≠ k)) (fun v _ => N - (intOf v).toNat)
  case atStart => exact ⟨0, by omega, rfl, (Gr.refl w).alloc _, At.new _ _ _, Lib.hid (by simp)⟩
  case round =>
    obtain ⟨j, hj, rfl, G, bx, hd⟩ := hrel
    by_cases hlt : j < N
    · obtain ⟨p, hp⟩ := list_at (show j < L.length by have := hN.out; omega)
      obtain ⟨b, off, rfl, hrow⟩ := hrd.opened (by have := hN.out; omega)
      obtain ⟨e1, e2⟩ := k_at (hrow.bl G.bl) hp
      have x0 := bx.cell 0
      have x1 := bx.cell 1
      have xl := bx.lt
      by_cases hq : p = k
      · have hf := Lib.hid (at_first (hq ▸ hp) hd.out)
        subst hq
        clear hp hd
        go_wp2
        go_ret
        rw [hf.out]
        exact ⟨rfl, G.alloc _⟩
      · have hd2 := Lib.hid (take_ne hp hq hd.out)
        have hne := ky_ne hq
        clear hp hd hq
        go_wp2
        go_roundw
        case rel => exact ⟨j + 1, by omega, by go_num, G.alloc _, bx.alloc _, hd2⟩
        case measure => simp [intOf]; omega
    · obtain rfl : j = N := by omega
      have hf := hd.out
      rw [hN.out] at hf
      replace hf := Lib.hid (at_none hf)
      go_wp2
      go_ret
      rw [hf.out]
      exact ⟨rfl, G⟩

theorem sameK_cut {L M : List Ky} {j : Nat} {x y : Ky} (h : L.take j = M.take j) (hx : L[j]? = some x) (hy : M[j]? = some y) : (x ≠ y → L ≠ M) ∧ (x = y → L.take (j + 1) = M.take (j + 1)) := by
  refine ⟨fun hne e => ?_, fun e => ?_⟩
  · subst e; rw [hx] at hy; cases hy; exact hne rfl
  · rw [List.take_add_one, List.take_add_one, h, hx, hy, e]
set_option maxRecDepth 100000 in
theorem rSameK {w : World} {A B : Option Addr} {c d : Nat} {L M : List Ky} (hL : shK.Rd w A L) (hM : shK.Rd w B M) (hl : L.length ≤ 1000000) (hm : M.length ≤ 1000000) :
    Calls Try.prog 12 #[.slice A L.length c, .slice B M.length d] w (Rt w (.bool (decide (L = M)))) := by
  obtain ⟨r, hr⟩ : ∃ r, r = decide (L = M) := ⟨_, rfl⟩
  rw [← hr]
  replace hr := Lib.hid hr
  by_cases hn : L.length = M.length
  · have hne : ((L.length : Int) != (M.length : Int)) = false := by simp [hn]
    have hne' : (L.length != M.length) = false := by simp [hn]
    replace hn := Lib.hid hn
    go_enter Try.func12, Try.ntmps12
    go_wp2
    go_loopw [5] (fun iv wr => ∃ j : Nat, j ≤ L.length ∧ iv = .int .i64 j ∧ Gr w wr ∧ Hid (L.take j = M.take j)) (fun iv _ => L.length - (intOf iv).toNat)
    case atStart => exact ⟨0, by omega, rfl, Gr.refl _, Lib.hid (by simp)⟩
    case round =>
      obtain ⟨j, hj, rfl, G, hE⟩ := hrel
      by_cases hlt : j < L.length
      · obtain ⟨x, hx⟩ := list_at hlt
        obtain ⟨y, hy⟩ := list_at (l := M) (k := j) (by have := hn.out; omega)
        have hlt2 : j < M.length := by have := hn.out; omega
        obtain ⟨b, off, rfl, hrow⟩ := hL.opened (by omega)
        obtain ⟨b2, off2, rfl, hrow2⟩ := hM.opened (by omega)
        have e1 := fun n os => (k_at (hrow.bl ((G.bl.drewN n).grow os)) hx).1
        have e2 := fun n os => (k_at (hrow.bl ((G.bl.drewN n).grow os)) hx).2
        have e3 := fun n os => (k_at (hrow2.bl ((G.bl.drewN n).grow os)) hy).1
        have e4 := fun n os => (k_at (hrow2.bl ((G.bl.drewN n).grow os)) hy).2
        obtain ⟨q1, q2⟩ := sameK_cut hE.out hx hy
        replace hx := Lib.hid hx
        replace hy := Lib.hid hy
        by_cases hxy : x = y
        · have hs := Lib.hid (q2 hxy)
          have hb : decide (x = y) = true := by simp [hxy]
          clear q1 q2
          replace hxy := Lib.hid hxy
          go_wp2
          refine wp_region_quiet_grown (by kernel_rfl) (by kernel_rfl) ?_
          repeat (first | go_big_quiet_step (fail) | quiet_step (fail))
          refine wpQuiet_nil ?_
          intro w9 g9
          replace g9 : Gr _ w9 := g9
          go_wp2
          go_roundw
          case rel => exact ⟨j + 1, by omega, by go_num, G.trans g9, hs⟩
          case measure => simp [intOf]; omega
        · have hs := q1 hxy
          have hb : decide (x = y) = false := by simpa using hxy
          obtain rfl : r = false := by rw [hr.out]; exact decide_eq_false hs
          clear q1 q2 hs
          replace hxy := Lib.hid hxy
          go_wp2
          refine wp_region_quiet_grown (by kernel_rfl) (by kernel_rfl) ?_
          repeat (first | go_big_quiet_step (fail) | quiet_step (fail))
          refine wpQuiet_nil ?_
          intro w9 g9
          replace g9 : Gr _ w9 := g9
          go_wp2
          go_ret
          exact ⟨rfl, G.trans g9⟩
      · have hrt : r = true := by
          rw [hr.out]
          refine decide_eq_true ?_
          have h1 := hE.out
          rwa [List.take_of_length_le (by omega), List.take_of_length_le (by have := hn.out; omega)] at h1
        subst hrt
        go_wp2
        go_ret
        exact ⟨rfl, G⟩
  · have hne : ((L.length : Int) != (M.length : Int)) = true := by simp; omega
    have hne' : (L.length != M.length) = true := by simpa using hn
    obtain rfl : r = false := by rw [hr.out]; exact decide_eq_false (fun e => hn (by rw [e]))
    go_enter Try.func12, Try.ntmps12
    go_wp2
    go_ret
    exact ⟨rfl, Gr.refl _⟩

set_option maxRecDepth 100000 in
theorem as1 {w : World} {A : Option Addr} {c : Nat} {L : List Ky} (h : shK.Rd w A L) (hl : L.length ≤ 1000000) :
    Calls Try.prog 13 #[.slice A L.length c] w fun e w' => ∃ A' c', e = .returned (.slice A' L.length c') ∧ OwK w' w.heap.size A' c' L ∧ Bl w w' := by
  obtain ⟨N, hN⟩ : ∃ N, N = L.length := ⟨_, rfl⟩
  rw [← hN] at hl ⊢
  replace hN := Lib.hid hN
  obtain ⟨sz, hsz⟩ : ∃ sz, sz = w.heap.size := ⟨_, rfl⟩
  rw [← hsz]
  replace hsz := Lib.hid hsz
  go_enter Try.func13, Try.ntmps13
  go_wp2
  go_loopw [3, 4] (fun v iv wr => ∃ (j : Nat) (A2 : Option Addr) (c2 : Nat) (M : List Ky), j ≤ N ∧ v = .slice A2 M.length c2 ∧ iv = .int .i64 j ∧ OwK wr sz A2 c2 M ∧ Hid (M = L.take j) ∧ Bl w wr) (fun _ iv _ => N - (intOf iv).toNat)
  case atStart => exact ⟨0, none, 0, [], by omega, rfl, rfl, Shp.Ow.nil _ _, Lib.hid (by simp), Bl.refl _⟩
  case round =>
    obtain ⟨j, A2, c2, M, hj, rfl, rfl, own, hM, G⟩ := hrel
    by_cases hlt : j < N
    · obtain ⟨p, hp⟩ := list_at (show j < L.length by have := hN.out; omega)
      obtain ⟨b, off, rfl, hrow⟩ := h.opened (by have := hN.out; omega)
      obtain ⟨e1, e2⟩ := k_at (hrow.bl G) hp
      have hM2 : Hid (M ++ [p] = L.take (j + 1)) := Lib.hid (by rw [hM.out, List.take_add_one, hp]; rfl)
      have hMl : Hid (M.length ≤ 1000000) := Lib.hid (by rw [hM.out]; have := List.length_take_le j L; omega)
      clear hp hM
      replace hj := Lib.hid hj
      go_wp2_with (at_builtin; refine Shp.wp_app (S := shK) Try.underlying22 infoK rfl (by decide) rfl (.tmp 11) (.tmp 16) rfl A2 c2 M rfl sz (own.bl ((Bl.refl _).alloc _)) (some ⟨wr.heap.size, 0, none⟩) 1 [p] rfl (by simp) (Shp.Rd.new1 (At.new _ _ _) rfl) (by have := hMl.out; simp; omega) (by have := G.size; have := hsz.out; simp; omega) ?_; intro A3 c3 w3 own3 ap3 lies3)
      have G3 : Bl w w3 := own.app_bl ap3 (G.alloc _) (by rw [hsz.out]; omega)
      go_roundw
      case rel => exact ⟨j + 1, A3, c3, M ++ [p], by omega, by simp, by go_num, own3, hM2, G3⟩
      case measure => simp [intOf]; omega
    · obtain rfl : j = N := by omega
      have hf := hM.out
      rw [hN.out, List.take_length] at hf
      subst hf
      go_wp2
      go_ret
      exact ⟨A2, c2, congrArg (fun n => Ending.returned (.slice A2 n c2)) hN.out.symm, own, G⟩

def smK (k : Ky) : Ky := (aroundM k.1 3, aroundM k.2 3)
set_option maxRecDepth 100000 in
theorem small14 (k : Ky) (h1 : I64 k.1) (h2 : I64 k.2) (w : World) : Calls Try.prog 11 #[kV k] w (Rt w (kV (smK k))) := by
  have cA := fun (n : Int) (hn : I64 n) V => aroundM1 n 3 V hn (by omega)
  have c1 := fun V => (cA k.1 h1 V)
  have c2 := fun V => (cA k.2 h2 V)
  clear cA
  unfold smK
  generalize aroundM k.1 3 = a1 at *
  generalize aroundM k.2 3 = a2 at *
  go_enter Try.func11, Try.ntmps11
  go_wp2_with fail
  have b1 := (At.new w (kC k) 27).alloc (.cells #[.int .i64 0, .int .i64 0] 27)
  have b2 := At.newAt (w := w.alloc (.cells (kC k) 27)) (n := w.heap.size + 1) (by simp) #[.int .i64 0, .int .i64 0] 27
  have G := ((Gr.refl w).alloc (.cells (kC k) 27)).alloc (.cells #[.int .i64 0, .int .i64 0] 27)
  obtain ⟨W, hW⟩ : ∃ W, W = (w.alloc (.cells (kC k) 27)).alloc (.cells #[.int .i64 0, .int .i64 0] 27) := ⟨_, rfl⟩
  rw [← hW] at b1 b2 G
  rw [show (w.alloc (.cells #[.int .i64 k.1, .int .i64 k.2] 27)).alloc (.cells #[.int .i64 0, .int .i64 0] 27) = W from hW.symm]
  clear hW
  have e1 := b1.cell 0
  have e2 := b1.cell 1
  simp at e1 e2
  have f1 : W.cell? ⟨w.heap.size + 1, 0, none⟩ = some (.int .i64 0) := b2.cell 0
  have f2 : W.cell? ⟨w.heap.size + 1, 1, none⟩ = some (.int .i64 0) := b2.cell 1
  have f3 : W.drew.cell? ⟨w.heap.size + 1, 0, none⟩ = some (.int .i64 0) := b2.cell 0
  have f4 : W.drew.cell? ⟨w.heap.size + 1, 1, none⟩ = some (.int .i64 0) := b2.cell 1
  have z1 := b2.free 0
  have z2 := b2.free 1
  have z3 : W.drew.frozen? ⟨w.heap.size + 1, 0, none⟩ = false := b2.free 0
  have z4 : W.drew.frozen? ⟨w.heap.size + 1, 1, none⟩ = false := b2.free 1
  have bF := (b1.far (p := ⟨w.heap.size + 1, 0, none⟩) (by simp) (.int .i64 a1)).far (p := ⟨w.heap.size + 1, 1, none⟩) (by simp) (.int .i64 a2)
  have h0 : ((W.setCell ⟨w.heap.size + 1, 0, none⟩ (.int .i64 a1)).setCell ⟨w.heap.size + 1, 1, none⟩ (.int .i64 a2)).drew.cell? ⟨w.heap.size, 0, none⟩ = some (.int .i64 k.1) := bF.cell 0
  have h1' : ((W.setCell ⟨w.heap.size + 1, 0, none⟩ (.int .i64 a1)).setCell ⟨w.heap.size + 1, 1, none⟩ (.int .i64 a2)).drew.cell? ⟨w.heap.size, 1, none⟩ = some (.int .i64 k.2) := bF.cell 1
  have P2 := (b2.put 0 (.int .i64 a1)).put 1 (.int .i64 a2)
  have d0 : ((W.setCell ⟨w.heap.size + 1, 0, none⟩ (.int .i64 a1)).setCell ⟨w.heap.size + 1, 1, none⟩ (.int .i64 a2)).drew.cell? ⟨w.heap.size + 1, 0, none⟩ = some (.int .i64 a1) := P2.cell 0
  have d1 : ((W.setCell ⟨w.heap.size + 1, 0, none⟩ (.int .i64 a1)).setCell ⟨w.heap.size + 1, 1, none⟩ (.int .i64 a2)).drew.cell? ⟨w.heap.size + 1, 1, none⟩ = some (.int .i64 a2) := P2.cell 1
  have G2 := ((G.setCell (p := ⟨w.heap.size + 1, 0, none⟩) (by simp) (.int .i64 a1)).setCell (p := ⟨w.heap.size + 1, 1, none⟩) (by simp) (.int .i64 a2)).drew
  go_region_held3 (fun V => V.cell? ⟨w.heap.size, 0, none⟩ = some (.int .i64 k.1) ∧ V.cell? ⟨w.heap.size, 1, none⟩ = some (.int .i64 k.2)) (first | exact ⟨e1, e2⟩ | exact ⟨h0, h1'⟩) ((first | (have gd := dn1; clear gd; go_at_call 21; (refine (c2 _).mono ?_); rintro e V7 ⟨rfl, g7⟩; subst g7) | (go_at_call 21; (refine (c1 _).mono ?_); rintro e V7 ⟨rfl, g7⟩; subst g7; have dn1 := True.intro) | fail))
  go_wp2_with fail
  exact bodyPost_ret (v := kV (a1, a2)) (by simp [results, Try.results11, go_sem, d0, d1]) rfl ⟨rfl, G2⟩
end

end Go.Proofs.Ytgjoipndhlngnaa
