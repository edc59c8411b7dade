/-
  What is proved: what the document's DropAll and the program's hand back. Conditions: bounds on lengths.
-/
import Derived.Test.YtgjoipndhlngnaaSkg
namespace Go.Proofs.Ytgjoipndhlngnaa
open Go.ChangeShapes Go.WideShapes Go.ChangeAt Go.RowKit Go.Joins Go.Sort Go.Deep

section
attribute [local go_sem ↓] eqlK neqK eqlP neqP

theorem left_take {L : List Ky} {j : Nat} {p : Ky} (h : L[j]? = some p) (q : Int) : leftK (L.take (j + 1)) q = leftK (L.take j) q ++ (if (p.1 == q) = true then [] else [p]) ∧ goneK (L.take (j + 1)) q = goneK (L.take j) q ++ (if (p.1 == q) = true then [p] else []) := by
  rw [List.take_add_one, h]
  unfold leftK goneK
  rw [List.filter_append, List.filter_append]
  constructor
  · congr 1
    cases hp : p.1 == q
    · have : (p.1 != q) = true := by simp [bne, hp]
      simp [this]
    · have : (p.1 != q) = false := by simp [bne, hp]
      simp [this]
  · congr 1
    cases hp : p.1 == q <;> simp [hp]
theorem left_len (L : List Ky) (q : Int) : (leftK L q).length ≤ L.length := List.length_filter_le _ _
theorem gone_len (L : List Ky) (q : Int) : (goneK L q).length ≤ L.length := List.length_filter_le _ _
/-- Two rows do not lie in one block. -/
def ApQ (A C : Option Addr) : Prop := ∀ g, A.map (·.block) = some g → C.map (·.block) ≠ some g
theorem ApQ.symm {A C : Option Addr} (h : ApQ A C) : ApQ C A := fun g hg hA => h g hA hg
theorem ApQ.none (A : Option Addr) : ApQ A none := fun g _ h => by cases h
theorem ApQ.or {A C : Option Addr} (h : ApQ A C) : A = .none ∨ A.map (·.block) ≠ C.map (·.block) := by
  cases A with
  | none => exact .inl rfl
  | some a => exact .inr fun e => h a.block rfl e.symm
theorem ApQ.step {A C C' : Option Addr} {n : Nat} (h : ApQ A C) (hA : ∀ g, A.map (·.block) = some g → g < n) (lies : C'.map (·.block) = C.map (·.block) ∨ C'.map (·.block) = some n) : ApQ A C' := fun g hg hC => by
  rcases lies with l | l
  · exact h g hg (l ▸ hC)
  · rw [l] at hC
    cases hC
    have := hA _ hg
    omega
theorem Shp.Ow.ltn {α : Type} {S : Shp α} {T : TypeId} {w : World} {B c : Nat} {A : Option Addr} {l : List α} (h : S.Ow T w B A c l) : ∀ g, A.map (·.block) = some g → g < w.heap.size := fun g hg => by
  rcases h.lies with rfl | ⟨x, rfl, _, h2⟩
  · cases hg
  · cases hg; exact h2

set_option maxRecDepth 100000 in
set_option maxHeartbeats 2000000 in
theorem rDropAllK {w : World} {c : Nat} {A : Option Addr} {L : List Ky} (hrd : shK.Rd w A L) (hl : L.length ≤ 100000) (q : Int) :
    Calls Try.prog 29 #[.slice A L.length c, .int .i64 q] w fun e w' => ∃ A1 c1 A2 c2, e = .returned (.tuple #[.slice A1 (leftK L q).length c1, .slice A2 (goneK L q).length c2]) ∧ OwK w' w.heap.size A1 c1 (leftK L q) ∧ OwK w' w.heap.size A2 c2 (goneK L q) ∧ Bl w w' := by
  obtain ⟨N, hN⟩ : ∃ N, N = L.length := ⟨_, rfl⟩
  rw [← hN] at hl ⊢
  replace hN := Lib.hid hN
  obtain ⟨sz, hsz⟩ : ∃ sz, sz = w.heap.size := ⟨_, rfl⟩
  rw [← hsz]
  replace hsz := Lib.hid hsz
  go_enter Try.func29, Try.ntmps29
  go_wp2
  go_loopw [6, 7, 8] (fun v gv iv wr => ∃ (j : Nat) (A2 : Option Addr) (c2 : Nat) (M : List Ky) (A3 : Option Addr) (c3 : Nat) (E : List Ky), j ≤ N ∧ v = .slice A2 M.length c2 ∧ gv = .slice A3 E.length c3 ∧ iv = .int .i64 j ∧ OwK wr sz A2 c2 M ∧ OwK wr sz A3 c3 E ∧ ApQ A2 A3 ∧ Hid (M = leftK (L.take j) q) ∧ Hid (E = goneK (L.take j) q) ∧ Bl w wr) (fun v gv iv _ => N - (intOf iv).toNat)
  case atStart => exact ⟨0, none, 0, [], none, 0, [], by omega, rfl, rfl, rfl, Shp.Ow.nil _ _, Shp.Ow.nil _ _, ApQ.none _, Lib.hid (by simp [leftK]), Lib.hid (by simp [goneK]), Bl.refl _⟩
  case round =>
    obtain ⟨j, A2, c2, M, A3, c3, E, hj, rfl, rfl, rfl, own, own', ap, hM, hE, G⟩ := hrel
    by_cases hlt : j < N
    · obtain ⟨p, hp⟩ := list_at (show j < L.length by have := hN.out; omega)
      obtain ⟨b, off, rfl, hrow⟩ := hrd.opened (by have := hN.out; omega)
      obtain ⟨e1, e2⟩ := k_at (hrow.bl G) hp
      obtain ⟨s1, s2⟩ := left_take hp q
      rw [← hM.out] at s1
      rw [← hE.out] at s2
      have hMl : Hid (M.length ≤ 1000000) := Lib.hid (by rw [hM.out]; have := left_len (L.take j) q; have := List.length_take_le j L; omega)
      have hEl : Hid (E.length ≤ 1000000) := Lib.hid (by rw [hE.out]; have := gone_len (L.take j) q; have := List.length_take_le j L; omega)
      clear hp hM hE
      replace hj := Lib.hid hj
      have hsw : sz ≤ wr.heap.size := by rw [hsz.out]; exact G.size
      have H2 := own.ltn
      have H3 := own'.ltn
      cases hq : p.1 == q
      · rw [hq] at s1 s2
        simp only [Bool.false_eq_true, if_false, List.append_nil] at s1 s2
        replace s1 := Lib.hid s1.symm
        replace s2 := Lib.hid s2.symm
        have hq' : ¬ p.1 = q := by simpa using hq
        replace hq' := Lib.hid hq'
        go_wp2_with (at_builtin; refine Shp.wp_app (S := shK) Try.underlying22 infoK rfl (by decide) rfl (.tmp 29) (.tmp 34) rfl A2 c2 M rfl sz (own.bl ((Bl.refl _).alloc _)) (some ⟨wr.heap.size, 0, none⟩) 1 [p] rfl (by first | simp | exact hcap) (Shp.Rd.new1 (At.new _ _ _) rfl) (by have := hMl.out; simp; omega) (by simp; omega) ?_; intro A5 c5 w5 own5 ap5 lies5)
        have G5 : Bl w w5 := own.app_bl ap5 (G.alloc _) (by rw [hsz.out]; omega)
        have own'5 := (own'.bl ((Bl.refl _).alloc _)).by ap5 ap.symm.or
        have apn := (ap.symm.step (fun g hg => by have := H3 g hg; simp; omega) lies5).symm
        go_roundw
        case rel => exact ⟨j + 1, A5, c5, M ++ [p], A3, c3, E, by omega, by simp, rfl, by go_num, own5, own'5, apn, s1, s2, G5⟩
        case measure => simp [intOf]; omega
      · rw [hq] at s1 s2
        simp only [if_true, List.append_nil] at s1 s2
        replace s1 := Lib.hid s1.symm
        replace s2 := Lib.hid s2.symm
        go_wp2_with (at_builtin; refine Shp.wp_app (S := shK) Try.underlying22 infoK rfl (by decide) rfl (.tmp 22) (.tmp 27) rfl A3 c3 E rfl sz (own'.bl ((Bl.refl _).alloc _)) (some ⟨wr.heap.size, 0, none⟩) 1 [p] rfl (by first | simp | exact hcap) (Shp.Rd.new1 (At.new _ _ _) rfl) (by have := hEl.out; simp; omega) (by simp; omega) ?_; intro A5 c5 w5 own5 ap5 lies5)
        have G5 : Bl w w5 := own'.app_bl ap5 (G.alloc _) (by rw [hsz.out]; omega)
        have own_5 := (own.bl ((Bl.refl _).alloc _)).by ap5 ap.or
        have apn := ap.step (fun g hg => by have := H2 g hg; simp; omega) lies5
        go_roundw
        case rel => exact ⟨j + 1, A2, c2, M, A5, c5, E ++ [p], by omega, rfl, by simp, by go_num, own_5, own5, apn, s1, s2, G5⟩
        case measure => simp [intOf]; omega
    · obtain rfl : j = N := by omega
      have hf := hM.out
      have hg := hE.out
      rw [hN.out, List.take_length] at hf hg
      replace hf := Lib.hid hf
      replace hg := Lib.hid hg
      clear hM hE
      go_wp2
      go_ret2
      exact ⟨A2, c2, A3, c3, by rw [hf.out, hg.out]; rfl, by rw [← hf.out]; exact own, by rw [← hg.out]; exact own', G⟩

set_option maxRecDepth 100000 in
set_option maxHeartbeats 2000000 in
theorem pDropAllK {w : World} {B pa c : Nat} {A : Option Addr} {L : List Ky} (h : PrS w B pa A c L) (hl : L.length ≤ 100000) (hB : B ≤ w.heap.size) (q : Int) :
    Calls Try.prog 30 #[.pointer (some ⟨pa, 0, none⟩), .int .i64 q] w fun e w' => ∃ A1 c1 A2 c2, e = .returned (.slice A2 (goneK L q).length c2) ∧ PrS w' B pa A1 c1 (leftK L q) ∧ OwP w' w.heap.size A2 c2 (goneK L q) ∧ w.grownBy w' (some pa) := by
  have hrd := h.own.rd
  have hd0 := h.hd.cell 0
  have hdl := h.hd.lt
  have hnd := h.nd
  have hhd := h.hd
  obtain ⟨N, hN⟩ : ∃ N, N = L.length := ⟨_, rfl⟩
  rw [← hN] at hl hd0
  replace hN := Lib.hid hN
  obtain ⟨sz, hsz⟩ : ∃ sz, sz = w.heap.size := ⟨_, rfl⟩
  rw [← hsz]
  replace hsz := Lib.hid hsz
  go_enter Try.func30, Try.ntmps30
  go_wp2
  go_loopw [5, 6, 14] (fun gv v iv wr => ∃ (j : Nat) (A2 : Option Addr) (c2 : Nat) (M : List Ky) (A3 : Option Addr) (c3 : Nat) (E : List Ky), j ≤ N ∧ v = .slice A2 M.length c2 ∧ gv = .slice A3 E.length c3 ∧ iv = .int .i64 j ∧ OwP wr sz A2 c2 M ∧ OwP wr sz A3 c3 E ∧ ApQ A2 A3 ∧ Hid (M = leftK (L.take j) q) ∧ Hid (E = goneK (L.take j) q) ∧ Bl w wr) (fun gv v iv _ => N - (intOf iv).toNat)
  case atStart => exact ⟨0, none, 0, [], none, 0, [], by omega, rfl, rfl, rfl, Shp.Ow.nil _ _, Shp.Ow.nil _ _, ApQ.none _, Lib.hid (by simp [leftK]), Lib.hid (by simp [goneK]), Bl.refl _⟩
  case round =>
    obtain ⟨j, A2, c2, M, A3, c3, E, hj, rfl, rfl, rfl, own, own', ap, hM, hE, G⟩ := hrel
    by_cases hlt : j < N
    · obtain ⟨p, hp⟩ := list_at (show j < L.length by have := hN.out; omega)
      obtain ⟨b, off, rfl, hrow⟩ := hrd.opened (by have := hN.out; omega)
      obtain ⟨e1, e2⟩ := k_at (hrow.bl G) hp
      obtain ⟨s1, s2⟩ := left_take hp q
      rw [← hM.out] at s1
      rw [← hE.out] at s2
      have hMl : Hid (M.length ≤ 1000000) := Lib.hid (by rw [hM.out]; have := left_len (L.take j) q; have := List.length_take_le j L; omega)
      have hEl : Hid (E.length ≤ 1000000) := Lib.hid (by rw [hE.out]; have := gone_len (L.take j) q; have := List.length_take_le j L; omega)
      clear hp hM hE
      replace hj := Lib.hid hj
      have hsw : sz ≤ wr.heap.size := by rw [hsz.out]; exact G.size
      have H2 := own.ltn
      have H3 := own'.ltn
      cases hq : p.1 == q
      · rw [hq] at s1 s2
        simp only [Bool.false_eq_true, if_false, List.append_nil] at s1 s2
        replace s1 := Lib.hid s1.symm
        replace s2 := Lib.hid s2.symm
        have hq' : ¬ p.1 = q := by simpa using hq
        replace hq' := Lib.hid hq'
        go_wp2_with (at_builtin; refine Shp.wp_app (S := shK) Try.underlying24 infoP rfl (by decide) rfl (.tmp 26) (.tmp 28) rfl A2 c2 M rfl sz (own.bl (((Bl.refl _).alloc _).alloc _)) (some ⟨(wr.heap.size + 1), 0, none⟩) 1 [p] rfl (by first | simp | exact hcap) (Shp.Rd.new1 (At.newAt (by simp) _ _) rfl) (by have := hMl.out; simp; omega) (by simp; omega) ?_; intro A5 c5 w5 own5 ap5 lies5)
        have G5 : Bl w w5 := own.app_bl ap5 ((G.alloc _).alloc _) (by rw [hsz.out]; omega)
        have own'5 := (own'.bl (((Bl.refl _).alloc _).alloc _)).by ap5 ap.symm.or
        have apn := (ap.symm.step (fun g hg => by have := H3 g hg; simp; omega) lies5).symm
        go_roundw
        case rel => exact ⟨j + 1, A5, c5, M ++ [p], A3, c3, E, by omega, by simp, rfl, by go_num, own5, own'5, apn, s1, s2, G5⟩
        case measure => simp [intOf]; omega
      · rw [hq] at s1 s2
        simp only [if_true, List.append_nil] at s1 s2
        replace s1 := Lib.hid s1.symm
        replace s2 := Lib.hid s2.symm
        go_wp2_with (at_builtin; refine Shp.wp_app (S := shK) Try.underlying24 infoP rfl (by decide) rfl (.tmp 22) (.tmp 24) rfl A3 c3 E rfl sz (own'.bl (((Bl.refl _).alloc _).alloc _)) (some ⟨(wr.heap.size + 1), 0, none⟩) 1 [p] rfl (by first | simp | exact hcap) (Shp.Rd.new1 (At.newAt (by simp) _ _) rfl) (by have := hEl.out; simp; omega) (by simp; omega) ?_; intro A5 c5 w5 own5 ap5 lies5)
        have G5 : Bl w w5 := own'.app_bl ap5 ((G.alloc _).alloc _) (by rw [hsz.out]; omega)
        have own_5 := (own.bl (((Bl.refl _).alloc _).alloc _)).by ap5 ap.or
        have apn := ap.step (fun g hg => by have := H2 g hg; simp; omega) lies5
        go_roundw
        case rel => exact ⟨j + 1, A2, c2, M, A5, c5, E ++ [p], by omega, rfl, by simp, by go_num, own_5, own5, apn, s1, s2, G5⟩
        case measure => simp [intOf]; omega
    · obtain rfl : j = N := by omega
      have hf := hM.out
      have hg := hE.out
      rw [hN.out, List.take_length] at hf hg
      replace hf := Lib.hid hf
      replace hg := Lib.hid hg
      clear hM hE
      have bp := hhd.bl G
      have z0 : wr.cell? ⟨pa, 0, none⟩ = some (.slice A L.length c) := bp.cell 0
      have z1 := bp.free 0
      have hNd : (leftK L q).Nodup := hnd.filter _
      have gS : wr.grownBy (wr.setCell ⟨pa, 0, none⟩ (.slice A2 M.length c2)) (some pa) := By.set (p := ⟨pa, 0, none⟩) (By.refl wr _) _
      have P1 := bp.put 0 (.slice A2 M.length c2)
      have O1 := own.by gS (own.ne_at bp (by decide))
      have O2 := own'.by gS (own'.ne_at bp (by decide))
      have G1 := By.trans (G.byr (some pa)) gS
      go_wp2
      go_ret
      refine ⟨A2, c2, A3, c3, by rw [hg.out]; rfl, ⟨?_, ?_, hNd⟩, by rw [← hg.out]; exact O2, G1⟩
      · rw [← hf.out]; exact P1
      · rw [← hf.out]; exact O1.low (by have := hsz.out; omega)
end

end Go.Proofs.Ytgjoipndhlngnaa
