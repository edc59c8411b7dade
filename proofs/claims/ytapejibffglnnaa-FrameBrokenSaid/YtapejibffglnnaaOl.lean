/-
  What is proved: what Put of a reader of package frame hands back, and leaves. No conditions but bounds.
-/
import Derived.Test.YtapejibffglnnaaOk
import Derived.Test.YtapejibffglnnaaOjb
import Derived.Deep.RegionLaw
import Derived.Deep.RegionHeld3
namespace Go.Proofs.Ytapejibffglnnaa
open Go.RowKit Go.Sort

/-- What a reader tells, and how it lies then. -/
def PuR (w : World) (r : Nat) (Z : List Ms) (B : Bool) (F : List Int) (e : Ending) (w' : World) : Prop :=
  ∃ (A' : Option Addr) (c' : Nat) (X : List (Ms × Value)) (lA : Option Addr) (lc : Nat), e = .returned (.slice A' X.length c') ∧ X.map Prod.fst = Z ∧ Mv w' A' X ∧ (A' = none → c' = 0) ∧ Fr w.heap.size X ∧
    At w' r #[.slice lA F.length lc, .bool B] 45 ∧ Sv w' (.slice lA F.length lc) F ∧ (F = [] ∨ ∃ k, lA.map (·.block) = some k ∧ w.heap.size ≤ k) ∧ w.grownBy w' (some r)
def PuQ (w : World) (r : Nat) (L : List Int) (br : Bool) (M : List Int) : Ending → World → Prop := PuR w r (putM L br M) (putB L br M) (putL L br M)
theorem By.bl {a b c : World} {row : Option Nat} (h : a.grownBy b row) (g : Bl b c) : a.grownBy c row := By.trans h (g.byr row)

set_option maxRecDepth 100000 in
set_option maxHeartbeats 4000000 in
theorem put_broken (r : Nat) (v : Value) (M : List Int) (w : World) (h : At w r #[.slice none 0 0, .bool true] 45) :
    Calls Try.prog 24 #[.pointer (some ⟨r, 0, none⟩), v] w (PuQ w r [] true M) := by
  have h0 := h.cell 0
  have h1 := h.cell 1
  simp only [List.getElem?_toArray, List.getElem?_cons_zero, List.getElem?_cons_succ] at h0 h1
  have hb : putB [] true M = true := rfl
  have hl : putL [] true M = [] := by unfold putL; rw [hb]; rfl
  go_enter Try.func24, Try.ntmps24
  go_wp2
  go_ret
  exact ⟨none, 0, [], none, 0, rfl, rfl, ⟨.inl rfl, fun p hp => by simp at hp⟩, fun _ => rfl, Fr.nil _, by rw [hb, hl]; exact h, by rw [hl]; exact Sv.nil _, .inl hl, By.refl _ _⟩

set_option maxRecDepth 100000 in
set_option maxHeartbeats 4000000 in
theorem put_whole (r : Nat) (A : Option Addr) (c : Nat) (L : List Int) (A1 : Option Addr) (c1 : Nat) (M : List Int) (w : World) (h : At w r #[.slice A L.length c, .bool false] 45)
    (hL : RwB w A L) (hLc : L.length ≤ c) (hLn : A = none → c = 0) (hf : L = [] ∨ A.map (·.block) ≠ some r) (hM : RwB w A1 M) (hMn : A1 = none → c1 = 0) (hl : L.length + M.length ≤ 1000000) (hbL : ByL L) (hbM : ByL M) :
    Calls Try.prog 24 #[.pointer (some ⟨r, 0, none⟩), .slice A1 M.length c1] w (PuQ w r L false M) := by
  have h0 := h.cell 0
  have h1 := h.cell 1
  simp only [List.getElem?_toArray, List.getElem?_cons_zero, List.getElem?_cons_succ] at h0 h1
  have hA0 : A = none → L = [] := fun e => by have := hLn e; exact List.eq_nil_of_length_eq_zero (by omega)
  obtain ⟨n, hn⟩ : ∃ n, n = L.length := ⟨_, rfl⟩
  obtain ⟨k, hk⟩ : ∃ k, k = M.length := ⟨_, rfl⟩
  rw [← hn] at h h0 hLc hl
  rw [← hk] at hl ⊢
  have hnc : ∀ A2 : Option Addr, A = A2 → A2 = none → n = 0 := fun A2 e1 e2 => by rw [hn, hA0 (e1.trans e2)]; rfl
  replace hn := Lib.hid hn
  replace hk := Lib.hid hk
  have hlP : (L ++ M).length ≤ 1000000 := by rw [List.length_append, ← hn.out, ← hk.out]; exact hl
  have hbP := hbL.app hbM
  unfold PuQ
  rw [show putM L false M = (spl (L ++ M)).1 from rfl, show putL L false M = (if putB L false M then [] else (L ++ M).drop (spl (L ++ M)).2.1) from rfl, show putB L false M = decide ((spl (L ++ M)).2.2 = 2) from by unfold putB; rw [Bool.false_or]; rfl]
  obtain ⟨P, hPP⟩ : ∃ P, P = L ++ M := ⟨_, rfl⟩
  rw [← hPP] at hlP hbP ⊢
  replace hPP := Lib.hid hPP
  obtain ⟨N, hN⟩ : ∃ N, N = (spl P).2.1 := ⟨_, rfl⟩
  obtain ⟨E, hE⟩ : ∃ E, E = (spl P).2.2 := ⟨_, rfl⟩
  obtain ⟨Z, hZ⟩ : ∃ Z, Z = (spl P).1 := ⟨_, rfl⟩
  rw [← hN, ← hE, ← hZ]
  obtain ⟨B, hB⟩ : ∃ B, B = decide (E = 2) := ⟨_, rfl⟩
  rw [← hB]
  obtain ⟨F, hF⟩ : ∃ F, F = (if B = true then [] else P.drop N) := ⟨_, rfl⟩
  rw [← hF]
  replace hB := Lib.hid hB
  replace hF := Lib.hid hF
  replace hN := Lib.hid hN
  replace hE := Lib.hid hE
  replace hZ := Lib.hid hZ
  go_enter Try.func24, Try.ntmps24
  cases A with
  | none =>
    obtain rfl : c = 0 := hLn rfl
    obtain rfl : n = 0 := by omega
    go_wp2
    rename_i K hK
    have rest : ∀ (v9 : Value) (w1 : World), Sv w1 v9 P → Bl w w1 → (P = [] ∨ v9.ownBlock ≠ some r) →
        K { tmps := #[.pointer (some ⟨r, 0, none⟩), .slice A1 k c1, undef, undef, .slice none 0 0, v9, undef, undef, undef, .pointer (some ⟨r, 0, none⟩), .pointer (some ⟨r, 0, none⟩), .pointer (some ⟨r, 1, none⟩), .bool false,
          .pointer (some ⟨r, 0, none⟩), .pointer (some ⟨r, 0, none⟩), .pointer (some ⟨r, 0, none⟩), .slice none 0 0, .pointer (some ⟨r, 0, none⟩), .pointer (some ⟨r, 0, none⟩), .pointer (some ⟨r, 0, none⟩), .slice none 0 0, .int .i64 0,
          .pointer (some ⟨r, 0, none⟩), .pointer (some ⟨r, 0, none⟩), .pointer (some ⟨r, 0, none⟩), .slice none 0 0, .int .i64 0, .slice none 0 0, .slice A1 k c1, v9,
          undef, undef, undef, undef, undef, undef, undef, undef, undef, undef, undef, undef, undef, undef, undef, undef, undef, undef, undef, undef, undef, undef, undef, undef, undef, undef, undef, undef, undef, undef, undef], defers := [] } w1 := by
      intro v9 w1 sv1 G1 hfar
      refine hK _ _ ?_
      clear hK
      have hR := h.bl G1
      obtain ⟨A2, c2, rfl, hz2, hle2, hmx2, hr2⟩ := sv1
      rw [slice_block] at hfar
      have cs := fsplit1 A2 c2 P w1 hr2 hle2 hmx2 hbP hlP
      have hle := spl_le P
      have hE3 : (spl P).2.2 = 0 ∨ (spl P).2.2 = 3 ∨ (spl P).2.2 = 2 := spl_e P
      have hdl : (P.drop (spl P).2.1).length = P.length - (spl P).2.1 := List.length_drop
      have hdr := fun (V : World) b off (hr : RowB V b off P) => hr.drop (spl P).2.1
      unfold SpQ at cs
      rw [← hN.out, ← hE.out, ← hZ.out] at cs
      rw [← hN.out] at hle hdl hdr
      rw [← hE.out] at hE3
      obtain ⟨T, hTT⟩ : ∃ T, T = P.length := ⟨_, rfl⟩
      rw [← hTT] at cs hle hdl hle2 ⊢
      have hT9 : T ≤ 1000000 := by rw [hTT]; exact hlP
      replace hTT := Lib.hid hTT
      replace hdl := Lib.hid hdl
      replace hdr := Lib.hid hdr
      go_wp2_with fail
      refine cs.mono ?_
      rintro e w2 ⟨A3, c3, X, rfl, hX, mv, hn3, hlow, hfr, g2⟩
      have G2 := G1.trans g2
      have hR2 := h.bl G2
      have hr3 := hr2.bl g2
      have hrw : r < w.heap.size := h.lt
      have z1 := G1.size
      have fX : Fr w1.heap.size X := hfr
      have k0 := hR2.cell 0
      have k1 := hR2.cell 1
      have f0 := hR2.free 0
      have f1 := hR2.free 1
      simp only [List.getElem?_toArray, List.getElem?_cons_zero, List.getElem?_cons_succ] at k0 k1
      have whole : ∀ E', E = E' → E' ≠ 2 → (N ≤ T) → True := fun _ _ _ _ => trivial
      rcases hE3 with rfl | rfl | rfl
      · have hv : B = false := by rw [hB.out]; rfl
        have hFv : F = P.drop N := by rw [hF.out, hv]; rfl
        have hP : At (w2.setCell ⟨r, 1, none⟩ (.bool false)) r #[.slice none 0 0, .bool false] 45 := by simpa using hR2.put 1 (.bool false)
        have gV : w2.grownBy (w2.setCell ⟨r, 1, none⟩ (.bool false)) (some r) := By.set (p := ⟨r, 1, none⟩) (By.refl _ _) _
        have hne : ∀ k, A3.map (·.block) = some k → k ≠ r := fun k hk => by have := hlow k hk; omega
        have mvV := mv.by gV hne (fX.far (by omega))
        have hrV : RwB (w2.setCell ⟨r, 1, none⟩ (.bool false)) A2 P := hr3.by gV (by
          rcases hfar with h | h
          · exact .inl h
          · exact .inr (.inr h))
        have GV : w.grownBy (w2.setCell ⟨r, 1, none⟩ (.bool false)) (some r) := (G2.byr _).trans gV
        have hpV1 := hP.cell 1
        simp only [List.getElem?_toArray, List.getElem?_cons_zero, List.getElem?_cons_succ] at hpV1
        obtain ⟨V, hV⟩ : ∃ V, V = w2.setCell ⟨r, 1, none⟩ (.bool false) := ⟨_, rfl⟩
        rw [← hV] at hP gV mvV hrV GV hpV1
        replace hV := Lib.hid hV
        have fin : ∀ (A4 : Option Addr) (c4 : Nat) (w3 : World), Sv w3 (.slice A4 (P.drop N).length c4) (P.drop N) → (P.drop N = [] ∨ ∃ k, A4.map (·.block) = some k ∧ V.heap.size ≤ k) → Bl V w3 →
            w3.cell? ⟨r, 0, none⟩ = some (.slice none 0 0) ∧ w3.frozen? ⟨r, 0, none⟩ = false ∧
            PuR w r Z B F (.returned (.slice A3 X.length c3)) (w3.setCell ⟨r, 0, none⟩ (.slice A4 (P.drop N).length c4)) := by
          intro A4 c4 w3 sv3 fr3 g3
          have hR3 := hP.bl g3
          have gF : w3.grownBy (w3.setCell ⟨r, 0, none⟩ (.slice A4 (P.drop N).length c4)) (some r) := By.set (p := ⟨r, 0, none⟩) (By.refl _ _) _
          refine ⟨by simpa using hR3.cell 0, hR3.free 0, A3, c3, X, A4, c4, rfl, hX, (mvV.bl g3).by gF hne (fX.far (by omega)), hn3, fX.le z1, ?_, ?_, ?_, (By.bl GV g3).trans gF⟩
          · rw [hv, hFv]; simpa using hR3.put 0 (.slice A4 (P.drop N).length c4)
          · rw [hFv]
            refine sv3.by gF ?_
            rcases fr3 with h | ⟨k9, h, h9⟩
            · exact .inl h
            · refine .inr (.inr ?_)
              rw [slice_block, h]
              intro e
              injection e with e
              have := GV.size
              omega
          · rw [hFv]
            rcases fr3 with h | ⟨k9, h, h9⟩
            · exact .inl h
            · exact .inr ⟨k9, h, Nat.le_trans GV.size h9⟩
        replace fin := Lib.hid fin
        clear hv hFv
        by_cases hT0 : T = 0
        · have hP0 : P = [] := List.eq_nil_of_length_eq_zero (by rw [← hTT.out]; exact hT0)
          have hD0 : P.drop N = [] := by rw [hP0]; simp
          have cc := fun A9 => clone1 A9 0 [] V (.inl rfl) (by simp)
          have hN0 : N = 0 := by omega
          rw [hD0] at fin
          subst hN0 hT0
          clear hdl hdr hP0 hD0
          replace hfar := Lib.hid hfar
          cases A2 with
          | none =>
            go_wp2_with fail
            rw [← hV.out]
            refine (cc none).mono ?_
            rintro e w3 ⟨A4, c4, rfl, sv3, fr3, g3⟩
            obtain ⟨e1, e2, e3⟩ := fin.out A4 c4 w3 sv3 fr3 g3
            replace e3 := Lib.hid e3
            go_wp2
            go_ret
            exact e3.out
          | some a2 =>
            go_wp2_with fail
            rw [← hV.out]
            refine (cc (some a2)).mono ?_
            rintro e w3 ⟨A4, c4, rfl, sv3, fr3, g3⟩
            obtain ⟨e1, e2, e3⟩ := fin.out A4 c4 w3 sv3 fr3 g3
            replace e3 := Lib.hid e3
            go_wp2
            go_ret
            exact e3.out
        · obtain ⟨b2, off2, rfl, hrow⟩ := hrV.opened (by rw [← hTT.out]; omega)
          have hdV := hdr.out V b2 off2 hrow
          by_cases hTN : T = N
          · have hD0 : P.drop N = [] := List.eq_nil_of_length_eq_zero (by rw [hdl.out]; omega)
            have cc := clone1 (some ⟨b2, off2, none⟩) 0 [] V (.inl rfl) (by simp)
            rw [hD0] at fin
            subst hTN
            clear hdl hdr hD0 hdV
            replace hfar := Lib.hid hfar
            go_wp2_with fail
            rw [← hV.out]
            refine cc.mono ?_
            rintro e w3 ⟨A4, c4, rfl, sv3, fr3, g3⟩
            obtain ⟨e1, e2, e3⟩ := fin.out A4 c4 w3 sv3 fr3 g3
            replace e3 := Lib.hid e3
            go_wp2
            go_ret
            exact e3.out
          · have cc := clone1 (some ⟨b2, off2 + N, none⟩) (T - N) (P.drop N) V (.inr ⟨b2, off2 + N, rfl, hdV⟩) (by rw [hdl.out]; omega)
            rw [hdl.out] at cc fin
            have q5 : (N : Int) ≤ (T : Int) := by omega
            have q6 : ¬ T - N = 0 := by omega
            clear hdl hdr hdV
            replace hfar := Lib.hid hfar
            go_wp2_with fail
            rw [← hV.out]
            refine cc.mono ?_
            rintro e w3 ⟨A4, c4, rfl, sv3, fr3, g3⟩
            obtain ⟨e1, e2, e3⟩ := fin.out A4 c4 w3 sv3 fr3 g3
            replace e3 := Lib.hid e3
            go_wp2
            go_ret
            exact e3.out
      · have hv : B = false := by rw [hB.out]; rfl
        have hFv : F = P.drop N := by rw [hF.out, hv]; rfl
        have hP : At (w2.setCell ⟨r, 1, none⟩ (.bool false)) r #[.slice none 0 0, .bool false] 45 := by simpa using hR2.put 1 (.bool false)
        have gV : w2.grownBy (w2.setCell ⟨r, 1, none⟩ (.bool false)) (some r) := By.set (p := ⟨r, 1, none⟩) (By.refl _ _) _
        have hne : ∀ k, A3.map (·.block) = some k → k ≠ r := fun k hk => by have := hlow k hk; omega
        have mvV := mv.by gV hne (fX.far (by omega))
        have hrV : RwB (w2.setCell ⟨r, 1, none⟩ (.bool false)) A2 P := hr3.by gV (by
          rcases hfar with h | h
          · exact .inl h
          · exact .inr (.inr h))
        have GV : w.grownBy (w2.setCell ⟨r, 1, none⟩ (.bool false)) (some r) := (G2.byr _).trans gV
        have hpV1 := hP.cell 1
        simp only [List.getElem?_toArray, List.getElem?_cons_zero, List.getElem?_cons_succ] at hpV1
        obtain ⟨V, hV⟩ : ∃ V, V = w2.setCell ⟨r, 1, none⟩ (.bool false) := ⟨_, rfl⟩
        rw [← hV] at hP gV mvV hrV GV hpV1
        replace hV := Lib.hid hV
        have fin : ∀ (A4 : Option Addr) (c4 : Nat) (w3 : World), Sv w3 (.slice A4 (P.drop N).length c4) (P.drop N) → (P.drop N = [] ∨ ∃ k, A4.map (·.block) = some k ∧ V.heap.size ≤ k) → Bl V w3 →
            w3.cell? ⟨r, 0, none⟩ = some (.slice none 0 0) ∧ w3.frozen? ⟨r, 0, none⟩ = false ∧
            PuR w r Z B F (.returned (.slice A3 X.length c3)) (w3.setCell ⟨r, 0, none⟩ (.slice A4 (P.drop N).length c4)) := by
          intro A4 c4 w3 sv3 fr3 g3
          have hR3 := hP.bl g3
          have gF : w3.grownBy (w3.setCell ⟨r, 0, none⟩ (.slice A4 (P.drop N).length c4)) (some r) := By.set (p := ⟨r, 0, none⟩) (By.refl _ _) _
          refine ⟨by simpa using hR3.cell 0, hR3.free 0, A3, c3, X, A4, c4, rfl, hX, (mvV.bl g3).by gF hne (fX.far (by omega)), hn3, fX.le z1, ?_, ?_, ?_, (By.bl GV g3).trans gF⟩
          · rw [hv, hFv]; simpa using hR3.put 0 (.slice A4 (P.drop N).length c4)
          · rw [hFv]
            refine sv3.by gF ?_
            rcases fr3 with h | ⟨k9, h, h9⟩
            · exact .inl h
            · refine .inr (.inr ?_)
              rw [slice_block, h]
              intro e
              injection e with e
              have := GV.size
              omega
          · rw [hFv]
            rcases fr3 with h | ⟨k9, h, h9⟩
            · exact .inl h
            · exact .inr ⟨k9, h, Nat.le_trans GV.size h9⟩
        replace fin := Lib.hid fin
        clear hv hFv
        by_cases hT0 : T = 0
        · have hP0 : P = [] := List.eq_nil_of_length_eq_zero (by rw [← hTT.out]; exact hT0)
          have hD0 : P.drop N = [] := by rw [hP0]; simp
          have cc := fun A9 => clone1 A9 0 [] V (.inl rfl) (by simp)
          have hN0 : N = 0 := by omega
          rw [hD0] at fin
          subst hN0 hT0
          clear hdl hdr hP0 hD0
          replace hfar := Lib.hid hfar
          cases A2 with
          | none =>
            go_wp2_with fail
            rw [← hV.out]
            refine (cc none).mono ?_
            rintro e w3 ⟨A4, c4, rfl, sv3, fr3, g3⟩
            obtain ⟨e1, e2, e3⟩ := fin.out A4 c4 w3 sv3 fr3 g3
            replace e3 := Lib.hid e3
            go_wp2
            go_ret
            exact e3.out
          | some a2 =>
            go_wp2_with fail
            rw [← hV.out]
            refine (cc (some a2)).mono ?_
            rintro e w3 ⟨A4, c4, rfl, sv3, fr3, g3⟩
            obtain ⟨e1, e2, e3⟩ := fin.out A4 c4 w3 sv3 fr3 g3
            replace e3 := Lib.hid e3
            go_wp2
            go_ret
            exact e3.out
        · obtain ⟨b2, off2, rfl, hrow⟩ := hrV.opened (by rw [← hTT.out]; omega)
          have hdV := hdr.out V b2 off2 hrow
          by_cases hTN : T = N
          · have hD0 : P.drop N = [] := List.eq_nil_of_length_eq_zero (by rw [hdl.out]; omega)
            have cc := clone1 (some ⟨b2, off2, none⟩) 0 [] V (.inl rfl) (by simp)
            rw [hD0] at fin
            subst hTN
            clear hdl hdr hD0 hdV
            replace hfar := Lib.hid hfar
            go_wp2_with fail
            rw [← hV.out]
            refine cc.mono ?_
            rintro e w3 ⟨A4, c4, rfl, sv3, fr3, g3⟩
            obtain ⟨e1, e2, e3⟩ := fin.out A4 c4 w3 sv3 fr3 g3
            replace e3 := Lib.hid e3
            go_wp2
            go_ret
            exact e3.out
          · have cc := clone1 (some ⟨b2, off2 + N, none⟩) (T - N) (P.drop N) V (.inr ⟨b2, off2 + N, rfl, hdV⟩) (by rw [hdl.out]; omega)
            rw [hdl.out] at cc fin
            have q5 : (N : Int) ≤ (T : Int) := by omega
            have q6 : ¬ T - N = 0 := by omega
            clear hdl hdr hdV
            replace hfar := Lib.hid hfar
            go_wp2_with fail
            rw [← hV.out]
            refine cc.mono ?_
            rintro e w3 ⟨A4, c4, rfl, sv3, fr3, g3⟩
            obtain ⟨e1, e2, e3⟩ := fin.out A4 c4 w3 sv3 fr3 g3
            replace e3 := Lib.hid e3
            go_wp2
            go_ret
            exact e3.out
      · have hP : At (w2.setCell ⟨r, 1, none⟩ (.bool true)) r #[.slice none 0 0, .bool true] 45 := by simpa using hR2.put 1 (.bool true)
        have hP2 : At ((w2.setCell ⟨r, 1, none⟩ (.bool true)).setCell ⟨r, 0, none⟩ (.slice none 0 0)) r #[.slice none 0 0, .bool true] 45 := by simpa using hP.put 0 (.slice none 0 0)
        have gF : w2.grownBy ((w2.setCell ⟨r, 1, none⟩ (.bool true)).setCell ⟨r, 0, none⟩ (.slice none 0 0)) (some r) := By.set (p := ⟨r, 0, none⟩) (By.set (p := ⟨r, 1, none⟩) (By.refl _ _) _) _
        have p0 := hP.cell 0
        have p1 := hP.cell 1
        have p2 := hP.free 0
        simp only [List.getElem?_toArray, List.getElem?_cons_zero, List.getElem?_cons_succ] at p0 p1
        go_wp2
        go_ret
        have hne : ∀ k, A3.map (·.block) = some k → k ≠ r := fun k hk => by have := hlow k hk; omega
        have hv : B = true := by rw [hB.out]; rfl
        have hFv : F = [] := by rw [hF.out, hv]; rfl
        exact ⟨A3, c3, X, none, 0, rfl, hX, mv.by gF hne (fX.far (by omega)), hn3, fX.le z1, by rw [hv, hFv]; exact hP2, by rw [hFv]; exact Sv.nil _, .inl hFv, (G2.byr _).trans gF⟩
    go_region_held3 (fun V => V.cell? ⟨r, 0, none⟩ = some (.slice none 0 0)) ((first | with_reducible assumption | exact Bl.keep G1 h0 | exact h0)) ((first | (refine step_app_full (by rfl) (.tmp 27) (.tmp 28) (by rfl) none L (by rw [← hn.out]; rfl) (hL.bl ((Bl.refl _).drew)) (by simpa using hA0) A1 M c1 (by rw [← hk.out]; rfl) hMn (hM.bl ((Bl.refl _).drew)) (by rw [← hn.out, ← hk.out]; omega) ?_; intro v9 w1 sv1 g1 fv1; have G1 := (Bl.refl w).drew.trans g1)))
    all_goals
      refine rest v9 w1 (by rw [hPP.out]; exact sv1) G1 ?_
      rw [hPP.out]
      by_cases hem : L ++ M = []
      · exact .inl hem
      · right
        have hrw : r < w.heap.size := h.lt
        rcases fv1 with ⟨fm, fv1⟩ | ⟨kk, fv1, fv2⟩
        · rw [fv1]
          rcases hf with hf | hf
          · exact absurd (by rw [hf, fm]; rfl) hem
          · exact hf
        · rw [fv1]; intro e; injection e with e; have z9 : w.drew.heap.size = w.heap.size := rfl; omega
  | some a =>
    go_wp2
    rename_i K hK
    have rest : ∀ (v9 : Value) (w1 : World), Sv w1 v9 P → Bl w w1 → (P = [] ∨ v9.ownBlock ≠ some r) →
        K { tmps := #[.pointer (some ⟨r, 0, none⟩), .slice A1 k c1, undef, undef, .slice none 0 0, v9, undef, undef, undef, .pointer (some ⟨r, 0, none⟩), .pointer (some ⟨r, 0, none⟩), .pointer (some ⟨r, 1, none⟩), .bool false,
          .pointer (some ⟨r, 0, none⟩), .pointer (some ⟨r, 0, none⟩), .pointer (some ⟨r, 0, none⟩), .slice (some a) n c, .pointer (some ⟨r, 0, none⟩), .pointer (some ⟨r, 0, none⟩), .pointer (some ⟨r, 0, none⟩), .slice (some a) n c, .int .i64 (n : Int),
          .pointer (some ⟨r, 0, none⟩), .pointer (some ⟨r, 0, none⟩), .pointer (some ⟨r, 0, none⟩), .slice (some a) n c, .int .i64 (n : Int), .slice (some a) n n, .slice A1 k c1, v9,
          undef, undef, undef, undef, undef, undef, undef, undef, undef, undef, undef, undef, undef, undef, undef, undef, undef, undef, undef, undef, undef, undef, undef, undef, undef, undef, undef, undef, undef, undef, undef], defers := [] } w1 := by
      intro v9 w1 sv1 G1 hfar
      refine hK _ _ ?_
      clear hK
      have hR := h.bl G1
      obtain ⟨A2, c2, rfl, hz2, hle2, hmx2, hr2⟩ := sv1
      rw [slice_block] at hfar
      have cs := fsplit1 A2 c2 P w1 hr2 hle2 hmx2 hbP hlP
      have hle := spl_le P
      have hE3 : (spl P).2.2 = 0 ∨ (spl P).2.2 = 3 ∨ (spl P).2.2 = 2 := spl_e P
      have hdl : (P.drop (spl P).2.1).length = P.length - (spl P).2.1 := List.length_drop
      have hdr := fun (V : World) b off (hr : RowB V b off P) => hr.drop (spl P).2.1
      unfold SpQ at cs
      rw [← hN.out, ← hE.out, ← hZ.out] at cs
      rw [← hN.out] at hle hdl hdr
      rw [← hE.out] at hE3
      obtain ⟨T, hTT⟩ : ∃ T, T = P.length := ⟨_, rfl⟩
      rw [← hTT] at cs hle hdl hle2 ⊢
      have hT9 : T ≤ 1000000 := by rw [hTT]; exact hlP
      replace hTT := Lib.hid hTT
      replace hdl := Lib.hid hdl
      replace hdr := Lib.hid hdr
      go_wp2_with fail
      refine cs.mono ?_
      rintro e w2 ⟨A3, c3, X, rfl, hX, mv, hn3, hlow, hfr, g2⟩
      have G2 := G1.trans g2
      have hR2 := h.bl G2
      have hr3 := hr2.bl g2
      have hrw : r < w.heap.size := h.lt
      have z1 := G1.size
      have fX : Fr w1.heap.size X := hfr
      have k0 := hR2.cell 0
      have k1 := hR2.cell 1
      have f0 := hR2.free 0
      have f1 := hR2.free 1
      simp only [List.getElem?_toArray, List.getElem?_cons_zero, List.getElem?_cons_succ] at k0 k1
      have whole : ∀ E', E = E' → E' ≠ 2 → (N ≤ T) → True := fun _ _ _ _ => trivial
      rcases hE3 with rfl | rfl | rfl
      · have hv : B = false := by rw [hB.out]; rfl
        have hFv : F = P.drop N := by rw [hF.out, hv]; rfl
        have hP : At (w2.setCell ⟨r, 1, none⟩ (.bool false)) r #[.slice (some a) n c, .bool false] 45 := by simpa using hR2.put 1 (.bool false)
        have gV : w2.grownBy (w2.setCell ⟨r, 1, none⟩ (.bool false)) (some r) := By.set (p := ⟨r, 1, none⟩) (By.refl _ _) _
        have hne : ∀ k, A3.map (·.block) = some k → k ≠ r := fun k hk => by have := hlow k hk; omega
        have mvV := mv.by gV hne (fX.far (by omega))
        have hrV : RwB (w2.setCell ⟨r, 1, none⟩ (.bool false)) A2 P := hr3.by gV (by
          rcases hfar with h | h
          · exact .inl h
          · exact .inr (.inr h))
        have GV : w.grownBy (w2.setCell ⟨r, 1, none⟩ (.bool false)) (some r) := (G2.byr _).trans gV
        have hpV1 := hP.cell 1
        simp only [List.getElem?_toArray, List.getElem?_cons_zero, List.getElem?_cons_succ] at hpV1
        obtain ⟨V, hV⟩ : ∃ V, V = w2.setCell ⟨r, 1, none⟩ (.bool false) := ⟨_, rfl⟩
        rw [← hV] at hP gV mvV hrV GV hpV1
        replace hV := Lib.hid hV
        have fin : ∀ (A4 : Option Addr) (c4 : Nat) (w3 : World), Sv w3 (.slice A4 (P.drop N).length c4) (P.drop N) → (P.drop N = [] ∨ ∃ k, A4.map (·.block) = some k ∧ V.heap.size ≤ k) → Bl V w3 →
            w3.cell? ⟨r, 0, none⟩ = some (.slice (some a) n c) ∧ w3.frozen? ⟨r, 0, none⟩ = false ∧
            PuR w r Z B F (.returned (.slice A3 X.length c3)) (w3.setCell ⟨r, 0, none⟩ (.slice A4 (P.drop N).length c4)) := by
          intro A4 c4 w3 sv3 fr3 g3
          have hR3 := hP.bl g3
          have gF : w3.grownBy (w3.setCell ⟨r, 0, none⟩ (.slice A4 (P.drop N).length c4)) (some r) := By.set (p := ⟨r, 0, none⟩) (By.refl _ _) _
          refine ⟨by simpa using hR3.cell 0, hR3.free 0, A3, c3, X, A4, c4, rfl, hX, (mvV.bl g3).by gF hne (fX.far (by omega)), hn3, fX.le z1, ?_, ?_, ?_, (By.bl GV g3).trans gF⟩
          · rw [hv, hFv]; simpa using hR3.put 0 (.slice A4 (P.drop N).length c4)
          · rw [hFv]
            refine sv3.by gF ?_
            rcases fr3 with h | ⟨k9, h, h9⟩
            · exact .inl h
            · refine .inr (.inr ?_)
              rw [slice_block, h]
              intro e
              injection e with e
              have := GV.size
              omega
          · rw [hFv]
            rcases fr3 with h | ⟨k9, h, h9⟩
            · exact .inl h
            · exact .inr ⟨k9, h, Nat.le_trans GV.size h9⟩
        replace fin := Lib.hid fin
        clear hv hFv
        by_cases hT0 : T = 0
        · have hP0 : P = [] := List.eq_nil_of_length_eq_zero (by rw [← hTT.out]; exact hT0)
          have hD0 : P.drop N = [] := by rw [hP0]; simp
          have cc := fun A9 => clone1 A9 0 [] V (.inl rfl) (by simp)
          have hN0 : N = 0 := by omega
          rw [hD0] at fin
          subst hN0 hT0
          clear hdl hdr hP0 hD0
          replace hfar := Lib.hid hfar
          cases A2 with
          | none =>
            go_wp2_with fail
            rw [← hV.out]
            refine (cc none).mono ?_
            rintro e w3 ⟨A4, c4, rfl, sv3, fr3, g3⟩
            obtain ⟨e1, e2, e3⟩ := fin.out A4 c4 w3 sv3 fr3 g3
            replace e3 := Lib.hid e3
            go_wp2
            go_ret
            exact e3.out
          | some a2 =>
            go_wp2_with fail
            rw [← hV.out]
            refine (cc (some a2)).mono ?_
            rintro e w3 ⟨A4, c4, rfl, sv3, fr3, g3⟩
            obtain ⟨e1, e2, e3⟩ := fin.out A4 c4 w3 sv3 fr3 g3
            replace e3 := Lib.hid e3
            go_wp2
            go_ret
            exact e3.out
        · obtain ⟨b2, off2, rfl, hrow⟩ := hrV.opened (by rw [← hTT.out]; omega)
          have hdV := hdr.out V b2 off2 hrow
          by_cases hTN : T = N
          · have hD0 : P.drop N = [] := List.eq_nil_of_length_eq_zero (by rw [hdl.out]; omega)
            have cc := clone1 (some ⟨b2, off2, none⟩) 0 [] V (.inl rfl) (by simp)
            rw [hD0] at fin
            subst hTN
            clear hdl hdr hD0 hdV
            replace hfar := Lib.hid hfar
            go_wp2_with fail
            rw [← hV.out]
            refine cc.mono ?_
            rintro e w3 ⟨A4, c4, rfl, sv3, fr3, g3⟩
            obtain ⟨e1, e2, e3⟩ := fin.out A4 c4 w3 sv3 fr3 g3
            replace e3 := Lib.hid e3
            go_wp2
            go_ret
            exact e3.out
          · have cc := clone1 (some ⟨b2, off2 + N, none⟩) (T - N) (P.drop N) V (.inr ⟨b2, off2 + N, rfl, hdV⟩) (by rw [hdl.out]; omega)
            rw [hdl.out] at cc fin
            have q5 : (N : Int) ≤ (T : Int) := by omega
            have q6 : ¬ T - N = 0 := by omega
            clear hdl hdr hdV
            replace hfar := Lib.hid hfar
            go_wp2_with fail
            rw [← hV.out]
            refine cc.mono ?_
            rintro e w3 ⟨A4, c4, rfl, sv3, fr3, g3⟩
            obtain ⟨e1, e2, e3⟩ := fin.out A4 c4 w3 sv3 fr3 g3
            replace e3 := Lib.hid e3
            go_wp2
            go_ret
            exact e3.out
      · have hv : B = false := by rw [hB.out]; rfl
        have hFv : F = P.drop N := by rw [hF.out, hv]; rfl
        have hP : At (w2.setCell ⟨r, 1, none⟩ (.bool false)) r #[.slice (some a) n c, .bool false] 45 := by simpa using hR2.put 1 (.bool false)
        have gV : w2.grownBy (w2.setCell ⟨r, 1, none⟩ (.bool false)) (some r) := By.set (p := ⟨r, 1, none⟩) (By.refl _ _) _
        have hne : ∀ k, A3.map (·.block) = some k → k ≠ r := fun k hk => by have := hlow k hk; omega
        have mvV := mv.by gV hne (fX.far (by omega))
        have hrV : RwB (w2.setCell ⟨r, 1, none⟩ (.bool false)) A2 P := hr3.by gV (by
          rcases hfar with h | h
          · exact .inl h
          · exact .inr (.inr h))
        have GV : w.grownBy (w2.setCell ⟨r, 1, none⟩ (.bool false)) (some r) := (G2.byr _).trans gV
        have hpV1 := hP.cell 1
        simp only [List.getElem?_toArray, List.getElem?_cons_zero, List.getElem?_cons_succ] at hpV1
        obtain ⟨V, hV⟩ : ∃ V, V = w2.setCell ⟨r, 1, none⟩ (.bool false) := ⟨_, rfl⟩
        rw [← hV] at hP gV mvV hrV GV hpV1
        replace hV := Lib.hid hV
        have fin : ∀ (A4 : Option Addr) (c4 : Nat) (w3 : World), Sv w3 (.slice A4 (P.drop N).length c4) (P.drop N) → (P.drop N = [] ∨ ∃ k, A4.map (·.block) = some k ∧ V.heap.size ≤ k) → Bl V w3 →
            w3.cell? ⟨r, 0, none⟩ = some (.slice (some a) n c) ∧ w3.frozen? ⟨r, 0, none⟩ = false ∧
            PuR w r Z B F (.returned (.slice A3 X.length c3)) (w3.setCell ⟨r, 0, none⟩ (.slice A4 (P.drop N).length c4)) := by
          intro A4 c4 w3 sv3 fr3 g3
          have hR3 := hP.bl g3
          have gF : w3.grownBy (w3.setCell ⟨r, 0, none⟩ (.slice A4 (P.drop N).length c4)) (some r) := By.set (p := ⟨r, 0, none⟩) (By.refl _ _) _
          refine ⟨by simpa using hR3.cell 0, hR3.free 0, A3, c3, X, A4, c4, rfl, hX, (mvV.bl g3).by gF hne (fX.far (by omega)), hn3, fX.le z1, ?_, ?_, ?_, (By.bl GV g3).trans gF⟩
          · rw [hv, hFv]; simpa using hR3.put 0 (.slice A4 (P.drop N).length c4)
          · rw [hFv]
            refine sv3.by gF ?_
            rcases fr3 with h | ⟨k9, h, h9⟩
            · exact .inl h
            · refine .inr (.inr ?_)
              rw [slice_block, h]
              intro e
              injection e with e
              have := GV.size
              omega
          · rw [hFv]
            rcases fr3 with h | ⟨k9, h, h9⟩
            · exact .inl h
            · exact .inr ⟨k9, h, Nat.le_trans GV.size h9⟩
        replace fin := Lib.hid fin
        clear hv hFv
        by_cases hT0 : T = 0
        · have hP0 : P = [] := List.eq_nil_of_length_eq_zero (by rw [← hTT.out]; exact hT0)
          have hD0 : P.drop N = [] := by rw [hP0]; simp
          have cc := fun A9 => clone1 A9 0 [] V (.inl rfl) (by simp)
          have hN0 : N = 0 := by omega
          rw [hD0] at fin
          subst hN0 hT0
          clear hdl hdr hP0 hD0
          replace hfar := Lib.hid hfar
          cases A2 with
          | none =>
            go_wp2_with fail
            rw [← hV.out]
            refine (cc none).mono ?_
            rintro e w3 ⟨A4, c4, rfl, sv3, fr3, g3⟩
            obtain ⟨e1, e2, e3⟩ := fin.out A4 c4 w3 sv3 fr3 g3
            replace e3 := Lib.hid e3
            go_wp2
            go_ret
            exact e3.out
          | some a2 =>
            go_wp2_with fail
            rw [← hV.out]
            refine (cc (some a2)).mono ?_
            rintro e w3 ⟨A4, c4, rfl, sv3, fr3, g3⟩
            obtain ⟨e1, e2, e3⟩ := fin.out A4 c4 w3 sv3 fr3 g3
            replace e3 := Lib.hid e3
            go_wp2
            go_ret
            exact e3.out
        · obtain ⟨b2, off2, rfl, hrow⟩ := hrV.opened (by rw [← hTT.out]; omega)
          have hdV := hdr.out V b2 off2 hrow
          by_cases hTN : T = N
          · have hD0 : P.drop N = [] := List.eq_nil_of_length_eq_zero (by rw [hdl.out]; omega)
            have cc := clone1 (some ⟨b2, off2, none⟩) 0 [] V (.inl rfl) (by simp)
            rw [hD0] at fin
            subst hTN
            clear hdl hdr hD0 hdV
            replace hfar := Lib.hid hfar
            go_wp2_with fail
            rw [← hV.out]
            refine cc.mono ?_
            rintro e w3 ⟨A4, c4, rfl, sv3, fr3, g3⟩
            obtain ⟨e1, e2, e3⟩ := fin.out A4 c4 w3 sv3 fr3 g3
            replace e3 := Lib.hid e3
            go_wp2
            go_ret
            exact e3.out
          · have cc := clone1 (some ⟨b2, off2 + N, none⟩) (T - N) (P.drop N) V (.inr ⟨b2, off2 + N, rfl, hdV⟩) (by rw [hdl.out]; omega)
            rw [hdl.out] at cc fin
            have q5 : (N : Int) ≤ (T : Int) := by omega
            have q6 : ¬ T - N = 0 := by omega
            clear hdl hdr hdV
            replace hfar := Lib.hid hfar
            go_wp2_with fail
            rw [← hV.out]
            refine cc.mono ?_
            rintro e w3 ⟨A4, c4, rfl, sv3, fr3, g3⟩
            obtain ⟨e1, e2, e3⟩ := fin.out A4 c4 w3 sv3 fr3 g3
            replace e3 := Lib.hid e3
            go_wp2
            go_ret
            exact e3.out
      · have hP : At (w2.setCell ⟨r, 1, none⟩ (.bool true)) r #[.slice (some a) n c, .bool true] 45 := by simpa using hR2.put 1 (.bool true)
        have hP2 : At ((w2.setCell ⟨r, 1, none⟩ (.bool true)).setCell ⟨r, 0, none⟩ (.slice none 0 0)) r #[.slice none 0 0, .bool true] 45 := by simpa using hP.put 0 (.slice none 0 0)
        have gF : w2.grownBy ((w2.setCell ⟨r, 1, none⟩ (.bool true)).setCell ⟨r, 0, none⟩ (.slice none 0 0)) (some r) := By.set (p := ⟨r, 0, none⟩) (By.set (p := ⟨r, 1, none⟩) (By.refl _ _) _) _
        have p0 := hP.cell 0
        have p1 := hP.cell 1
        have p2 := hP.free 0
        simp only [List.getElem?_toArray, List.getElem?_cons_zero, List.getElem?_cons_succ] at p0 p1
        go_wp2
        go_ret
        have hne : ∀ k, A3.map (·.block) = some k → k ≠ r := fun k hk => by have := hlow k hk; omega
        have hv : B = true := by rw [hB.out]; rfl
        have hFv : F = [] := by rw [hF.out, hv]; rfl
        exact ⟨A3, c3, X, none, 0, rfl, hX, mv.by gF hne (fX.far (by omega)), hn3, fX.le z1, by rw [hv, hFv]; exact hP2, by rw [hFv]; exact Sv.nil _, .inl hFv, (G2.byr _).trans gF⟩
    go_region_held3 (fun V => V.cell? ⟨r, 0, none⟩ = some (.slice (some a) n c)) ((first | with_reducible assumption | exact Bl.keep G1 h0 | exact h0)) ((first | (refine step_app_full (by rfl) (.tmp 27) (.tmp 28) (by rfl) ((some a)) L (by rw [← hn.out]; rfl) (hL.bl ((Bl.refl _).drew)) (by simp) A1 M c1 (by rw [← hk.out]; rfl) hMn (hM.bl ((Bl.refl _).drew)) (by rw [← hn.out, ← hk.out]; omega) ?_; intro v9 w1 sv1 g1 fv1; have G1 := (Bl.refl w).drew.trans g1)))
    all_goals
      refine rest v9 w1 (by rw [hPP.out]; exact sv1) G1 ?_
      rw [hPP.out]
      by_cases hem : L ++ M = []
      · exact .inl hem
      · right
        have hrw : r < w.heap.size := h.lt
        rcases fv1 with ⟨fm, fv1⟩ | ⟨kk, fv1, fv2⟩
        · rw [fv1]
          rcases hf with hf | hf
          · exact absurd (by rw [hf, fm]; rfl) hem
          · exact hf
        · rw [fv1]; intro e; injection e with e; have z9 : w.drew.heap.size = w.heap.size := rfl; omega

end Go.Proofs.Ytapejibffglnnaa
