/-
  What is proved: what slices.Delete, slices.Clone and slices.Reverse do to a row of keys. Conditions: bounds on lengths.
-/
import Derived.Test.YtgjoipndhlngnaaSki
namespace Go.Proofs.Ytgjoipndhlngnaa
open Go.ChangeShapes Go.WideShapes Go.ChangeAt Go.RowKit Go.Joins Go.Sort Go.Deep Go.Shelf Go.Lib


theorem insK {w : World} {B c : Nat} {A : Option Addr} {L : List Ky} (h : OwP w B A c L) (hB : B ≤ w.heap.size) (hl : L.length ≤ 100000) (i : Nat) (hi : i ≤ L.length) (x : Ky) (vb : Nat) (hv : At w vb (kC x) 26) (hne : A.map (·.block) ≠ some vb) :
    Calls Try.prog 36 #[.slice A L.length c, .int .i64 i, .slice (some ⟨vb, 0, none⟩) 1 1] w (InQ w B A (L.take i ++ [x] ++ L.drop i)) := by
  by_cases he : i = L.length
  · subst he
    rw [List.take_length, List.drop_length, List.append_nil]
    exact insEnd h hB hl x vb hv
  · rcases h.lies with rfl | ⟨g, rfl, _, _⟩
    · have h0 := h.caps
      have := h0.2.2 rfl
      omega
    · by_cases hc : L.length + 1 ≤ c
      · exact insShift h hl i (by omega) hc x vb hv (fun e => hne (by rw [e]; rfl))
      · exact insGrow h hB hl i (by omega) (by omega) x vb hv

set_option maxRecDepth 100000 in
set_option maxHeartbeats 4000000 in
theorem delK {w : World} {B c g : Nat} {L : List Ky} (h : OwP w B (some ⟨g, 0, none⟩) c L) (hl : L.length ≤ 100000) (i : Nat) (hi : i < L.length) :
    Calls Try.prog 38 #[.slice (some ⟨g, 0, none⟩) L.length c, .int .i64 i, .int .i64 ((i : Int) + 1)] w fun e w' => e = .returned (.slice (some ⟨g, 0, none⟩) (L.take i ++ L.drop (i + 1)).length c) ∧ OwP w' B (some ⟨g, 0, none⟩) c (L.take i ++ L.drop (i + 1)) ∧ w.grownBy w' (some g) := by
  obtain ⟨sp, hb, hBg, hnc, hcm, hsp⟩ := h.block
  have hc63 : c ≤ 9223372036854775807 := by unfold maxLen at hcm; omega
  obtain ⟨i0, hi0, hz0, hzs, hzb⟩ := info_parts infoP
  obtain ⟨x, hx⟩ := list_at hi
  obtain ⟨D, hD⟩ : ∃ D, D = shK.cs (L.drop (i + 1)) := ⟨_, rfl⟩
  obtain ⟨P, hP⟩ : ∃ P, P = shK.cs (L.take i) := ⟨_, rfl⟩
  obtain ⟨X, hX⟩ : ∃ X, X = shK.c x := ⟨_, rfl⟩
  have hXl : X.length = 2 := by rw [hX]; rfl
  have hPl : P.length = i * 2 := by rw [hP, shK.cs_len, List.length_take, Nat.min_eq_left (by omega)]; rfl
  have hDl : D.length = (L.length - (i + 1)) * 2 := by rw [hD, shK.cs_len, List.length_drop]; rfl
  have hPD : shK.cs L = P ++ X ++ D := by
    rw [hP, hD, hX, ← shK.cs_one, ← shK.cs_app, ← shK.cs_app]
    congr 1
    rw [List.append_assoc]
    obtain ⟨q1, q2⟩ := List.getElem?_eq_some_iff.1 hx
    rw [← q2, List.singleton_append, List.getElem_cons_drop, List.take_append_drop]
  rw [hPD] at hb
  have hS : X ++ D = (X ++ D).take D.length ++ (X ++ D).drop D.length := (List.take_append_drop _ _).symm
  have hO : ((X ++ D).take D.length).length = D.length := by rw [List.length_take, List.length_append]; omega
  have hO2 : ((X ++ D).drop D.length).length = 2 := by rw [List.length_drop, List.length_append]; omega
  generalize (X ++ D).take D.length = O at *
  generalize (X ++ D).drop D.length = O2 at *
  have s1 : setsL (P ++ X ++ D ++ sp) (i * 2) D = P ++ D ++ (O2 ++ sp) := setsL_at (O := O) (by rw [List.append_assoc P, hS]; simp) (by rw [hPl]) hO
  have s2 : setsL (P ++ D ++ (O2 ++ sp)) ((L.length - 1) * 2) (Value.agg #[.int .i64 0, .int .i64 0]).cells.toList = (P ++ D) ++ (Value.agg #[.int .i64 0, .int .i64 0]).cells.toList ++ sp := setsL_at (O := O2) (by simp) (by rw [List.length_append, hPl, hDl]; omega) (by rw [hO2]; rfl)
  have b1 := At.puts D (i * 2) hb.drew
  rw [s1] at b1
  have b2 := At.puts (Value.agg #[.int .i64 0, .int .i64 0]).cells.toList ((L.length - 1) * 2) b1
  rw [s2] at b2
  have g1 : w.grownBy (w.drew.setCells g (i * 2) D) (some g) := By.trans ((Bl.refl w).drew.byr _) (setCells_by D w.drew _)
  have g2 := By.trans g1 (setCells_by (Value.agg #[.int .i64 0, .int .i64 0]).cells.toList _ ((L.length - 1) * 2))
  have hrow : OwP ((w.drew.setCells g (i * 2) D).setCells g ((L.length - 1) * 2) (Value.agg #[.int .i64 0, .int .i64 0]).cells.toList) B (some ⟨g, 0, none⟩) c (L.take i ++ L.drop (i + 1)) := by
    refine Shp.Ow.of (sp := (Value.agg #[.int .i64 0, .int .i64 0]).cells.toList ++ sp) ?_ hBg hcm ?_
    · rw [shK.cs_app, ← hP, ← hD, ← List.append_assoc]; exact b2
    · rw [shK.cs_app, ← hP, ← hD]
      simp only [List.length_append, hPl, hDl, hsp, show (Value.agg #[.int .i64 0, .int .i64 0]).cells.toList.length = 2 from rfl, show shK.n = 2 from rfl]
      omega
  have hlen : (L.take i ++ L.drop (i + 1)).length = L.length - 1 := by simp; omega
  rw [hlen]
  have hone : ∀ v ∈ D, v.oneCell' = true := by rw [hD]; exact shK.cs_ones _
  obtain ⟨A, hA, hsrc⟩ : ∃ A : Addr, (if c = i + 1 then some (⟨g, 0, none⟩ : Addr) else some ⟨g, (i + 1) * 2, none⟩) = some A ∧ Hid (∀ t u, D[t]? = some u → w.drew.cell? (A.add t) = some u) := by
    by_cases hci : c = i + 1
    · refine ⟨_, if_pos hci, fun t u hu => ?_⟩
      have h0 : D = [] := List.eq_nil_of_length_eq_zero (by rw [hDl]; omega)
      rw [h0] at hu
      simp at hu
    · refine ⟨_, if_neg hci, fun t u hu => ?_⟩
      rw [Addr.add_lit]
      show w.cell? _ = _
      rw [hb.cell, List.getElem?_toArray, List.append_assoc, List.getElem?_append_right (by rw [List.length_append]; omega), List.length_append, hPl, hXl, show (i + 1) * 2 + t - (i * 2 + 2) = t by omega, List.getElem?_append_left (by rcases Nat.lt_or_ge t D.length with h' | h'; exact h'; rw [List.getElem?_eq_none h'] at hu; cases hu)]
      exact hu
  have s3 : Hid (D.length = (L.length - (i + 1)) * 2) := hDl
  have s4 : Hid (∀ t, t < D.length → (w.drew.cell? ⟨g, 0 + i * 2 + t, none⟩).isSome = true ∧ w.drew.frozen? ⟨g, 0 + i * 2 + t, none⟩ = false) := by
    intro t ht
    refine ⟨?_, hb.free _⟩
    show (w.cell? _).isSome = true
    rw [hb.cell, Array.getElem?_eq_getElem (by simp [hPl, hXl]; omega)]; rfl
  have hcl : ∀ ty sc, (Builtin.clear_ #[24] ty #[.slice (some ⟨g, (L.length - 1) * 2, none⟩) (L.length - (L.length - 1)) sc]).run Try.prog (w.drew.setCells g (i * 2) D) = .ok (.tuple #[]) ((w.drew.setCells g (i * 2) D).setCells g ((L.length - 1) * 2) (Value.agg #[.int .i64 0, .int .i64 0]).cells.toList) := fun ty sc => by
    rw [show L.length - (L.length - 1) = 1 by omega]
    exact (
    run_clear_1 _ _ 26 ty (Value.agg #[.int .i64 0, .int .i64 0]) Try.underlying24 (fun w => by kernel_rfl) (by intro v hv; simp [Value.cells] at hv; subst hv; rfl) g _ sc
      (fun j hj => by rw [b1.cell, Array.getElem?_eq_getElem (by have : j < 2 := hj; simp [hPl, hDl, hO2]; omega)]; rfl) (fun j hj => b1.free _))
  obtain ⟨W1, hW1⟩ : ∃ W1, W1 = w.drew.setCells g (i * 2) D := ⟨_, rfl⟩
  have hW1' : Hid (W1 = w.drew.setCells g (0 + i * 2) D) := by rw [Nat.zero_add]; exact hW1
  rw [← hW1] at hcl hrow g2
  obtain ⟨N, hN⟩ : ∃ N, N = L.length := ⟨_, rfl⟩
  rw [← hN] at hcl hrow g2 s3 hi hl hnc ⊢
  have fin := Lib.hid (And.intro hrow g2)
  have hw1 : IntKind.i64.wrap ((i : Int) + 1) = (i : Int) + 1 := by rw [IntKind.wrap_i64]; omega
  have hic : i ≤ c := by omega
  have hjc : i + 1 ≤ c := by omega
  have hjn : i + 1 ≤ N := by omega
  have htn : ((i : Int) + 1).toNat = i + 1 := by omega
  have hb1 : (0 : Int) ≤ (i : Int) + 1 := by omega
  have hb3 : (i : Int) + 1 ≤ (N : Int) := by omega
  have hnn : (i + (N - (i + 1))) = N - 1 := by omega
  clear b1 b2 g1 g2 s1 s2 hO2 hO hS hb hPD hPl hDl hP hD hX hXl hsp hcm hN hW1 h hrow hlen hz0 hzb hx
  go_enter Try.func38, Try.ntmps38
  go_wp2_with fail
  go_region_law (refine step_append_room rfl (.tmp 22) (.tmp 25) 24 rfl 26 i0 2 Try.underlying24 hi0 hzs g 0 i c (by simp [Act.eval, Act.put]) A (N - (i + 1)) (c - (i + 1)) D (by simp [Act.eval, Act.put]) s3.out hsrc.out hone (by omega) s4.out ?_; rw [← hW1'.out])
  go_wp2
  go_ret
  exact ⟨rfl, fin.out⟩

set_option maxRecDepth 100000 in
set_option maxHeartbeats 2000000 in
theorem clnK {w : World} {c : Nat} {A : Option Addr} {L : List Ky} (h : shK.Rd w A L) (hA : A = none → c = 0) (hn : L.length ≤ c) (hl : L.length ≤ 100000) :
    Calls Try.prog 34 #[.slice A L.length c] w fun e w' => ∃ A' c', e = .returned (.slice A' L.length c') ∧ OwP w' w.heap.size A' c' L ∧ Bl w w' := by
  have qT : ∀ (w : World) (a : Option Addr) (n c n' c' : Nat), (binOp .eql 24 (.slice a n c) (.slice none n' c')).run Try.prog w = .ok (.bool a.isNone) w := fun w a n c n' c' => Lib.run_eql_slice_nil w _ _ a n c n' c' Try.underlying24
  cases A with
  | none =>
    obtain rfl : c = 0 := hA rfl
    obtain rfl : L = [] := List.eq_nil_of_length_eq_zero (by omega)
    simp only [List.length_nil] at *
    go_enter Try.func34, Try.ntmps34
    go_wp2
    go_ret
    exact ⟨none, 0, rfl, Shp.Ow.nil _ _, Bl.refl _⟩
  | some a =>
    have own : OwP (w.alloc (.cells #[] 26)) w.heap.size (some ⟨w.heap.size, 0, none⟩) 0 [] := ⟨rfl, .inr ⟨w.heap.size, 0, #[], rfl, Nat.le_refl _, heap_alloc_new w _, Nat.le_refl _, Nat.zero_le _, rfl, rfl⟩⟩
    have h1 := h.bl ((Bl.refl w).alloc (.cells #[] 26))
    clear hA
    go_enter Try.func34, Try.ntmps34
    go_wp2_with (at_builtin; refine Shp.wp_app (S := shK) Try.underlying24 infoP rfl (by decide) rfl (.tmp 5) (.tmp 6) rfl (some ⟨w.heap.size, 0, none⟩) 0 [] rfl w.heap.size (own) (some a) c L rfl (by first | simp | exact hcap) (h1) (by simp; omega) (by simp) ?_; intro A5 c5 w5 own5 ap5 lies5)
    have G5 : Bl w w5 := own.app_bl ap5 ((Bl.refl w).alloc _) (Nat.le_refl _)
    go_ret
    rw [List.nil_append] at own5
    exact ⟨A5, c5, by simp, own5, G5⟩

end Go.Proofs.Ytgjoipndhlngnaa
