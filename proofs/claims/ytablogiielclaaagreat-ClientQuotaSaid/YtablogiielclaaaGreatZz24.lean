/-
  What is proved: what Commit of package surface does. No conditions but what its callees tell.
-/
import Derived.Test.YtablogiielclaaaGreatZz22
import Derived.Test.YtablogiielclaaaGreatZz23
namespace Go.Proofs.YtablogiielclaaaGreat
open Go.RowKit Go.Sort Go.Deep

theorem results2c {fn : Func} {p u : Tmp} {ty : TypeId} (h : fn.results = #[.cell p ty, .tmp u]) (tmps : Array Value) (w : World) (g : Nat) (cs : Array Value)
    (hp : tmps.getD p undef = .pointer (some ⟨g, 0, none⟩)) (hl : (loadVar ty ⟨g, 0, none⟩).run Tryz.prog w = .ok (.agg cs) w) :
    (results fn tmps).run Tryz.prog w = .ok (.tuple #[.agg cs, tmps.getD u undef]) w := by
  rw [results_cell_tmp h, hp]
  simp [asAddr, Result.andThen, hl]

theorem xf_one {w : World} {b : Nat} {cs : Array Value} {t u : TypeId} (h : At w b cs t) (hne : t ≠ u) : Xf w (fun k => k = b) u := fun k cs' hk h' => by
  subst hk
  exact (At.neP h h' hne) rfl
theorem Kx.srow {X : Nat → Prop} {a b : World} (h : Kx X a b) {r : Nat} (hp : a.heap.size ≤ r) (cs : Array Value) : Kx X a (b.setRow r cs) :=
  ⟨h.os, h.tape, h.output, Nat.le_trans h.size (by simp [World.setRow]), fun k hk hx => (setRow_other b r k cs (by omega)).trans (h.block k hk hx)⟩
theorem pre_of {vs rest : List Value} (j : Nat) (v : Value) (h : vs[j]? = some v) : (vs ++ rest)[0 + j]? = some v := by
  rw [Nat.zero_add, List.getElem?_append_left (List.getElem?_eq_some_iff.1 h).1]
  exact h
set_option maxRecDepth 100000 in
set_option maxHeartbeats 8000000 in
theorem sfcommitT {sb : Nat} (px : Option Addr) (ax ay s al p q r t : Int) (AO : Option Addr) (nO cO : Nat) (pa : Option Addr) (ax' ay' s' al' p' q' r' t' : Int) (AL : Option Addr) (nL cL : Nat) (AD : Option Addr) (nD cD : Nat) (AR : Option Addr) (nR cR : Nat) (w : World) (h : At w sb #[.pointer px, .int .i64 ax, .int .i64 ay, .int .i64 s, .int .i64 al, .int .i64 p, .int .i64 q, .int .i64 r, .int .i64 t, .slice AO nO cO, .string ⟨#[]⟩, .pointer pa, .int .i64 ax', .int .i64 ay', .int .i64 s', .int .i64 al', .int .i64 p', .int .i64 q', .int .i64 r', .int .i64 t', .slice AL nL cL, .string ⟨#[]⟩, .slice AD nD cD, .slice AR nR cR] 140)
    (IM : World → Option Addr → Prop) (QC QS QD : List Rc → Prop) (ar : Int)
    (cM : pa ≠ none → ∀ w', Kx (fun k => k = sb) w w' → Calls Tryz.prog 83 #[.agg #[.pointer pa, .int .i64 ax', .int .i64 ay', .int .i64 s', .int .i64 al', .int .i64 p', .int .i64 q', .int .i64 r', .int .i64 t']] w' (Rt w' (.bool true)))
    (cC : ∀ w', Kx (fun k => k = sb) w w' → Calls Tryz.prog 84 #[.agg #[.pointer pa, .int .i64 ax', .int .i64 ay', .int .i64 s', .int .i64 al', .int .i64 p', .int .i64 q', .int .i64 r', .int .i64 t', .slice AL nL cL, .string ⟨#[]⟩, .slice AD nD cD, .slice AR nR cR]] w' (RR w' QC))
    (cN : ∀ w' AC cC1 MC, Kx (fun k => k = sb) w w' → OwR w' 0 AC cC1 MC → QC MC → Calls Tryz.prog 85 #[.pointer px, .pointer pa, .slice AC MC.length cC1] w' (fun e w2 => ∃ px', e = .returned (.pointer px') ∧ IM w2 px' ∧ Bl w' w2))
    (bI : ∀ V V' px' (Y : Nat → Prop), IM V px' → Kx Y V V' → Xf V Y 173 → Xf V Y 52 → IM V' px')
    (cSo : ∀ w' px', Kx (fun k => k = sb) w w' → IM w' px' → Calls Tryz.prog 86 #[.pointer px', .slice AL nL cL] w' (WQ w' QS))
    (cG : ∀ w' px' AC cC1 MC AS cS MS, Kx (fun k => k = sb) w w' → IM w' px' → OwR w' 0 AC cC1 MC → QC MC → OwR w' 0 AS cS MS → QS MS → Calls Tryz.prog 87 #[.agg #[.pointer px, .int .i64 ax, .int .i64 ay, .int .i64 s, .int .i64 al, .int .i64 p, .int .i64 q, .int .i64 r, .int .i64 t, .slice AO nO cO, .string ⟨#[]⟩], .agg #[.pointer px', .int .i64 ax', .int .i64 ay', .int .i64 s', .int .i64 al', .int .i64 p', .int .i64 q', .int .i64 r', .int .i64 t', .slice AS MS.length cS, .string ⟨#[]⟩], .slice AC MC.length cC1] w' (WQ w' QD))
    (cA : ∀ w' AC cC1 MC, OwR w' 0 AC cC1 MC → QC MC → Calls Tryz.prog 88 #[.slice AC MC.length cC1] w' (Rt w' (.int .i64 ar))) :
    Calls Tryz.prog 18 #[.pointer (some ⟨sb, 0, none⟩)] w (fun e w' => ∃ px' AS cS MS A3 c3 M3, e = .returned (.tuple #[.agg #[.slice A3 M3.length c3, .slice AR nR cR, .int .i64 ar], .int .i64 0]) ∧ At w' sb #[.pointer px', .int .i64 ax', .int .i64 ay', .int .i64 s', .int .i64 al', .int .i64 p', .int .i64 q', .int .i64 r', .int .i64 t', .slice AS MS.length cS, .string ⟨#[]⟩, .pointer pa, .int .i64 ax', .int .i64 ay', .int .i64 s', .int .i64 al', .int .i64 p', .int .i64 q', .int .i64 r', .int .i64 t', .slice AL nL cL, .string ⟨#[]⟩, .slice none 0 0, .slice none 0 0] 140 ∧ IM w' px' ∧ OwR w' 0 AS cS MS ∧ QS MS ∧ OwR w' w.heap.size A3 c3 M3 ∧ QD M3 ∧ Kx (fun k => k = sb) w w') := by
  have hsb := h.lt
  have H0 := h.alloc (.cells #[.slice none 0 0, .slice none 0 0, .int .i64 0] 48)
  have g0 := (Bl.refl w).alloc (.cells #[.slice none 0 0, .slice none 0 0, .int .i64 0] 48)
  have D0 := At.new w #[.slice none 0 0, .slice none 0 0, .int .i64 0] 48
  have k11 := H0.cell 11; have k12 := H0.cell 12; have k13 := H0.cell 13; have k14 := H0.cell 14; have k15 := H0.cell 15; have k16 := H0.cell 16; have k17 := H0.cell 17; have k18 := H0.cell 18; have k19 := H0.cell 19; have k20 := H0.cell 20; have k21 := H0.cell 21; have k22 := H0.cell 22; have k23 := H0.cell 23
  go_enter Tryz.func18, Tryz.ntmps18
  go_upto_region 2 with fail
  obtain ⟨W1, hW⟩ : ∃ W1, W1 = (w.alloc (.cells #[.slice none 0 0, .slice none 0 0, .int .i64 0] 48)).alloc (.cells #[.pointer pa, .int .i64 ax', .int .i64 ay', .int .i64 s', .int .i64 al', .int .i64 p', .int .i64 q', .int .i64 r', .int .i64 t', .slice AL nL cL, .string ⟨#[]⟩, .slice AD nD cD, .slice AR nR cR] 138) := ⟨_, rfl⟩
  have H1 := H0.alloc (.cells #[.pointer pa, .int .i64 ax', .int .i64 ay', .int .i64 s', .int .i64 al', .int .i64 p', .int .i64 q', .int .i64 r', .int .i64 t', .slice AL nL cL, .string ⟨#[]⟩, .slice AD nD cD, .slice AR nR cR] 138)
  have G1 := g0.alloc (.cells #[.pointer pa, .int .i64 ax', .int .i64 ay', .int .i64 s', .int .i64 al', .int .i64 p', .int .i64 q', .int .i64 r', .int .i64 t', .slice AL nL cL, .string ⟨#[]⟩, .slice AD nD cD, .slice AR nR cR] 138)
  have D1 := D0.alloc (.cells #[.pointer pa, .int .i64 ax', .int .i64 ay', .int .i64 s', .int .i64 al', .int .i64 p', .int .i64 q', .int .i64 r', .int .i64 t', .slice AL nL cL, .string ⟨#[]⟩, .slice AD nD cD, .slice AR nR cR] 138)
  have P1 := At.newAt (w := w.alloc (.cells #[.slice none 0 0, .slice none 0 0, .int .i64 0] 48)) (n := w.heap.size + 1) (by simp) #[.pointer pa, .int .i64 ax', .int .i64 ay', .int .i64 s', .int .i64 al', .int .i64 p', .int .i64 q', .int .i64 r', .int .i64 t', .slice AL nL cL, .string ⟨#[]⟩, .slice AD nD cD, .slice AR nR cR] 138
  rw [← hW] at H1 G1 D1 P1 ⊢
  clear hW H0 g0 D0 k11 k12 k13 k14 k15 k16 k17 k18 k19 k20 k21 k22 k23
  have l0 := P1.cell 0; have l1 := P1.cell 1; have l2 := P1.cell 2; have l3 := P1.cell 3; have l4 := P1.cell 4; have l5 := P1.cell 5; have l6 := P1.cell 6; have l7 := P1.cell 7; have l8 := P1.cell 8; have l9 := P1.cell 9; have l10 := P1.cell 10
  rename_i K hK
  have REST : ∀ (y15 y16 y17 y18 y19 y20 y21 : Value) (W2 : World), Bl W1 W2 → K { tmps := #[.pointer (some ⟨sb, 0, none⟩), undef, .pointer (some ⟨w.heap.size, 0, none⟩), .int .i64 0, .pointer (some ⟨w.heap.size + 1, 0, none⟩), undef, undef, undef, .pointer (some ⟨sb, 0, none⟩), .pointer (some ⟨sb, 0, none⟩), .pointer (some ⟨sb, 11, none⟩), .agg #[.pointer pa, .int .i64 ax', .int .i64 ay', .int .i64 s', .int .i64 al', .int .i64 p', .int .i64 q', .int .i64 r', .int .i64 t', .slice AL nL cL, .string ⟨#[]⟩, .slice AD nD cD, .slice AR nR cR], .pointer (some ⟨w.heap.size + 1, 0, none⟩), .pointer (some ⟨w.heap.size + 1, 0, none⟩), .pointer pa, y15, y16, y17, y18, y19, y20, y21, .bool false, undef, undef, undef, undef, undef, undef, undef, undef, undef, undef, undef, undef, undef, undef, undef, undef, undef, undef, undef, undef, undef, undef, undef, undef, undef, undef, undef, undef, undef, undef, undef, undef, undef, undef, undef, undef, undef, undef, undef, undef, undef, undef, undef, undef, undef], defers := [] } W2 := by
    intro y15 y16 y17 y18 y19 y20 y21 W2 G2
    refine hK _ _ ?_
    clear hK cM
    replace H1 := H1.bl G2
    replace D1 := D1.bl G2
    replace P1 := P1.bl G2
    replace G1 := G1.trans G2
    clear G2 l0 l1 l2 l3 l4 l5 l6 l7 l8 l9 l10
    go_upto_region 4 with fail
    rename_i K4 hK4
    have REST2 : ∀ (b5 b6 : Nat) (AC : Option Addr) (cC1 : Nat) (MC : List Rc) (V : World), At V b5 #[.pointer px, .int .i64 ax, .int .i64 ay, .int .i64 s, .int .i64 al, .int .i64 p, .int .i64 q, .int .i64 r, .int .i64 t, .slice AO nO cO, .string ⟨#[]⟩] 60 → At V b6 #[.pointer pa, .int .i64 ax', .int .i64 ay', .int .i64 s', .int .i64 al', .int .i64 p', .int .i64 q', .int .i64 r', .int .i64 t', .slice AL nL cL, .string ⟨#[]⟩] 60 → b5 ≠ b6 → W2.heap.size ≤ b5 → W2.heap.size ≤ b6 → OwR V 0 AC cC1 MC → QC MC → Bl W2 V → K4 { tmps := #[.pointer (some ⟨sb, 0, none⟩), undef, .pointer (some ⟨w.heap.size, 0, none⟩), .int .i64 0, .pointer (some ⟨w.heap.size + 1, 0, none⟩), .pointer (some ⟨b5, 0, none⟩), .pointer (some ⟨b6, 0, none⟩), .slice AC MC.length cC1, .pointer (some ⟨sb, 0, none⟩), .pointer (some ⟨sb, 0, none⟩), .pointer (some ⟨sb, 11, none⟩), .agg #[.pointer pa, .int .i64 ax', .int .i64 ay', .int .i64 s', .int .i64 al', .int .i64 p', .int .i64 q', .int .i64 r', .int .i64 t', .slice AL nL cL, .string ⟨#[]⟩, .slice AD nD cD, .slice AR nR cR], .pointer (some ⟨w.heap.size + 1, 0, none⟩), .pointer (some ⟨w.heap.size + 1, 0, none⟩), .pointer pa, y15, y16, y17, y18, y19, y20, y21, .bool false, undef, .pointer (some ⟨sb, 0, none⟩), .pointer (some ⟨sb, 0, none⟩), .pointer (some ⟨sb, 0, none⟩), .agg #[.pointer px, .int .i64 ax, .int .i64 ay, .int .i64 s, .int .i64 al, .int .i64 p, .int .i64 q, .int .i64 r, .int .i64 t, .slice AO nO cO, .string ⟨#[]⟩], .pointer (some ⟨w.heap.size + 1, 0, none⟩), .agg #[.pointer pa, .int .i64 ax', .int .i64 ay', .int .i64 s', .int .i64 al', .int .i64 p', .int .i64 q', .int .i64 r', .int .i64 t', .slice AL nL cL, .string ⟨#[]⟩], .agg #[.pointer pa, .int .i64 ax', .int .i64 ay', .int .i64 s', .int .i64 al', .int .i64 p', .int .i64 q', .int .i64 r', .int .i64 t', .slice AL nL cL, .string ⟨#[]⟩, .slice AD nD cD, .slice AR nR cR], .slice AC MC.length cC1, undef, undef, undef, undef, undef, undef, undef, undef, undef, undef, undef, undef, undef, undef, undef, undef, undef, undef, undef, undef, undef, undef, undef, undef, undef, undef, undef, undef, undef, undef, undef, undef, undef, undef, undef, undef], defers := [] } V := by
      intro b5 b6 AC cC1 MC V A5 A6 n56 h5 h6 oC hQ g
      refine hK4 _ _ ?_
      clear hK4 cC
      have Hv := H1.bl g
      have Pv := P1.bl g
      have Dv := D1.bl g
      have GV := G1.trans g
      have hszW := G1.size
      clear g H1 P1 D1
      have x0 := A5.cell 0
      have y0 := Pv.cell 0
      go_wp2_with fail
      refine (cN V AC cC1 MC (Kx.bl GV) oC hQ).mono ?_
      rintro e V2 ⟨px', rfl, I2, g2⟩
      replace A5 := A5.bl g2
      replace A6 := A6.bl g2
      replace Hv := Hv.bl g2
      replace Pv := Pv.bl g2
      replace Dv := Dv.bl g2
      replace GV := GV.trans g2
      replace oC := oC.bl g2
      clear g2 x0 y0
      have z0 := A6.cell 0
      have zf := A6.free 0
      go_upto_region 6 with fail
      replace I2 := bI _ _ _ _ I2 (Kx.by (X := fun k => k = b6) (By.set (p := ⟨b6, 0, none⟩) (By.refl V2 _) (.pointer px')) rfl) (xf_one A6 (by decide)) (xf_one A6 (by decide))
      replace oC := oC.grown (By.set (p := ⟨b6, 0, none⟩) (By.refl V2 _) (.pointer px')) (.inr (Ne.symm (oC.ne_at A6 (by decide))))
      replace Hv := Hv.far (p := ⟨b6, 0, none⟩) (by have := Hv.neP A6 (by decide); simpa using this) (.pointer px')
      replace Pv := Pv.far (p := ⟨b6, 0, none⟩) (by have := Pv.neP A6 (by decide); simpa using this) (.pointer px')
      replace Dv := Dv.far (p := ⟨b6, 0, none⟩) (by have := Dv.neP A6 (by decide); simpa using this) (.pointer px')
      replace A5 := A5.far (p := ⟨b6, 0, none⟩) (by simpa using n56) (.pointer px')
      replace GV := GV.st1 (p := ⟨b6, 0, none⟩) (by show w.heap.size ≤ b6; omega) (.pointer px')
      replace A6 : At (V2.setCell ⟨b6, 0, none⟩ (.pointer px')) b6 #[.pointer px', .int .i64 ax', .int .i64 ay', .int .i64 s', .int .i64 al', .int .i64 p', .int .i64 q', .int .i64 r', .int .i64 t', .slice AL nL cL, .string ⟨#[]⟩] 60 := by simpa using A6.put 0 (.pointer px')
      generalize V2.setCell ⟨b6, 0, none⟩ (.pointer px') = V3 at *
      clear z0 zf
      have z0 := A6.cell 0
      have y9 := Pv.cell 9
      go_wp2_with fail
      refine (cSo V3 px' (Kx.bl GV) I2).mono ?_
      rintro e V4 ⟨AS, cS, MS, rfl, hlS, oS, hS, g4⟩
      replace A5 := A5.bl g4
      replace A6 := A6.bl g4
      replace Hv := Hv.bl g4
      replace Pv := Pv.bl g4
      replace Dv := Dv.bl g4
      replace GV := GV.trans g4
      replace oC := oC.bl g4
      replace oS := oS.base (Nat.zero_le _)
      replace I2 := bI _ _ _ (fun _ => False) I2 (Kx.bl g4) (fun _ _ h => h.elim) (fun _ _ h => h.elim)
      clear g4 z0 y9
      have z9 := A6.cell 9
      have zf := A6.free 9
      go_upto_region 7 with fail
      replace I2 := bI _ _ _ _ I2 (Kx.by (X := fun k => k = b6) (By.set (p := ⟨b6, 9, none⟩) (By.refl V4 _) (.slice AS MS.length cS)) rfl) (xf_one A6 (by decide)) (xf_one A6 (by decide))
      replace oC := oC.grown (By.set (p := ⟨b6, 9, none⟩) (By.refl V4 _) (.slice AS MS.length cS)) (.inr (Ne.symm (oC.ne_at A6 (by decide))))
      replace oS := oS.grown (By.set (p := ⟨b6, 9, none⟩) (By.refl V4 _) (.slice AS MS.length cS)) (.inr (Ne.symm (oS.ne_at A6 (by decide))))
      replace Hv := Hv.far (p := ⟨b6, 9, none⟩) (by have := Hv.neP A6 (by decide); simpa using this) (.slice AS MS.length cS)
      replace Pv := Pv.far (p := ⟨b6, 9, none⟩) (by have := Pv.neP A6 (by decide); simpa using this) (.slice AS MS.length cS)
      replace Dv := Dv.far (p := ⟨b6, 9, none⟩) (by have := Dv.neP A6 (by decide); simpa using this) (.slice AS MS.length cS)
      replace A5 := A5.far (p := ⟨b6, 9, none⟩) (by simpa using n56) (.slice AS MS.length cS)
      replace GV := GV.st1 (p := ⟨b6, 9, none⟩) (by show w.heap.size ≤ b6; omega) (.slice AS MS.length cS)
      replace A6 : At (V4.setCell ⟨b6, 9, none⟩ (.slice AS MS.length cS)) b6 #[.pointer px', .int .i64 ax', .int .i64 ay', .int .i64 s', .int .i64 al', .int .i64 p', .int .i64 q', .int .i64 r', .int .i64 t', .slice AS MS.length cS, .string ⟨#[]⟩] 60 := by simpa using A6.put 9 (.slice AS MS.length cS)
      generalize V4.setCell ⟨b6, 9, none⟩ (.slice AS MS.length cS) = V5 at *
      clear z9 zf
      have l0 := A6.cell 0; have l1 := A6.cell 1; have l2 := A6.cell 2; have l3 := A6.cell 3; have l4 := A6.cell 4; have l5 := A6.cell 5; have l6 := A6.cell 6; have l7 := A6.cell 7; have l8 := A6.cell 8; have l9 := A6.cell 9; have l10 := A6.cell 10
      have m0 := Hv.cell 0; have m1 := Hv.cell 1; have m2 := Hv.cell 2; have m3 := Hv.cell 3; have m4 := Hv.cell 4; have m5 := Hv.cell 5; have m6 := Hv.cell 6; have m7 := Hv.cell 7; have m8 := Hv.cell 8; have m9 := Hv.cell 9; have m10 := Hv.cell 10
      have n0 := Hv.free 0; have n1 := Hv.free 1; have n2 := Hv.free 2; have n3 := Hv.free 3; have n4 := Hv.free 4; have n5 := Hv.free 5; have n6 := Hv.free 6; have n7 := Hv.free 7; have n8 := Hv.free 8; have n9 := Hv.free 9; have n10 := Hv.free 10
      go_upto_region 8 with fail
      have g7 : V5.grownBy (((((((((((V5.setCell ⟨sb, 0, none⟩ (.pointer px')).setCell ⟨sb, 1, none⟩ (.int .i64 ax')).setCell ⟨sb, 2, none⟩ (.int .i64 ay')).setCell ⟨sb, 3, none⟩ (.int .i64 s')).setCell ⟨sb, 4, none⟩ (.int .i64 al')).setCell ⟨sb, 5, none⟩ (.int .i64 p')).setCell ⟨sb, 6, none⟩ (.int .i64 q')).setCell ⟨sb, 7, none⟩ (.int .i64 r')).setCell ⟨sb, 8, none⟩ (.int .i64 t')).setCell ⟨sb, 9, none⟩ (.slice AS MS.length cS)).setCell ⟨sb, 10, none⟩ (.string ⟨#[]⟩)) (some sb) := (By.set (p := ⟨sb, 10, none⟩) (By.set (p := ⟨sb, 9, none⟩) (By.set (p := ⟨sb, 8, none⟩) (By.set (p := ⟨sb, 7, none⟩) (By.set (p := ⟨sb, 6, none⟩) (By.set (p := ⟨sb, 5, none⟩) (By.set (p := ⟨sb, 4, none⟩) (By.set (p := ⟨sb, 3, none⟩) (By.set (p := ⟨sb, 2, none⟩) (By.set (p := ⟨sb, 1, none⟩) (By.set (p := ⟨sb, 0, none⟩) (By.refl V5 (some sb)) (.pointer px')) (.int .i64 ax')) (.int .i64 ay')) (.int .i64 s')) (.int .i64 al')) (.int .i64 p')) (.int .i64 q')) (.int .i64 r')) (.int .i64 t')) (.slice AS MS.length cS)) (.string ⟨#[]⟩))
      have H7 : At (((((((((((V5.setCell ⟨sb, 0, none⟩ (.pointer px')).setCell ⟨sb, 1, none⟩ (.int .i64 ax')).setCell ⟨sb, 2, none⟩ (.int .i64 ay')).setCell ⟨sb, 3, none⟩ (.int .i64 s')).setCell ⟨sb, 4, none⟩ (.int .i64 al')).setCell ⟨sb, 5, none⟩ (.int .i64 p')).setCell ⟨sb, 6, none⟩ (.int .i64 q')).setCell ⟨sb, 7, none⟩ (.int .i64 r')).setCell ⟨sb, 8, none⟩ (.int .i64 t')).setCell ⟨sb, 9, none⟩ (.slice AS MS.length cS)).setCell ⟨sb, 10, none⟩ (.string ⟨#[]⟩)) sb #[.pointer px', .int .i64 ax', .int .i64 ay', .int .i64 s', .int .i64 al', .int .i64 p', .int .i64 q', .int .i64 r', .int .i64 t', .slice AS MS.length cS, .string ⟨#[]⟩, .pointer pa, .int .i64 ax', .int .i64 ay', .int .i64 s', .int .i64 al', .int .i64 p', .int .i64 q', .int .i64 r', .int .i64 t', .slice AL nL cL, .string ⟨#[]⟩, .slice AD nD cD, .slice AR nR cR] 140 := by have h7 := (((((((((((Hv.put 0 (.pointer px')).put 1 (.int .i64 ax')).put 2 (.int .i64 ay')).put 3 (.int .i64 s')).put 4 (.int .i64 al')).put 5 (.int .i64 p')).put 6 (.int .i64 q')).put 7 (.int .i64 r')).put 8 (.int .i64 t')).put 9 (.slice AS MS.length cS)).put 10 (.string ⟨#[]⟩)); simpa using h7
      generalize hW7 : (((((((((((V5.setCell ⟨sb, 0, none⟩ (.pointer px')).setCell ⟨sb, 1, none⟩ (.int .i64 ax')).setCell ⟨sb, 2, none⟩ (.int .i64 ay')).setCell ⟨sb, 3, none⟩ (.int .i64 s')).setCell ⟨sb, 4, none⟩ (.int .i64 al')).setCell ⟨sb, 5, none⟩ (.int .i64 p')).setCell ⟨sb, 6, none⟩ (.int .i64 q')).setCell ⟨sb, 7, none⟩ (.int .i64 r')).setCell ⟨sb, 8, none⟩ (.int .i64 t')).setCell ⟨sb, 9, none⟩ (.slice AS MS.length cS)).setCell ⟨sb, 10, none⟩ (.string ⟨#[]⟩)) = V6 at *
      clear l0 l1 l2 l3 l4 l5 l6 l7 l8 l9 l10 m0 m1 m2 m3 m4 m5 m6 m7 m8 m9 m10 n0 n1 n2 n3 n4 n5 n6 n7 n8 n9 n10
      have K7 : Kx (fun k => k = sb) w V6 := (Kx.bl GV).then (Kx.by (X := (fun k => k = sb)) g7 rfl)
      replace I2 := bI _ _ _ _ I2 (Kx.by (X := (fun k => k = sb)) g7 rfl) (xf_one Hv (by decide)) (xf_one Hv (by decide))
      replace oC := oC.grown g7 (.inr (Ne.symm (oC.ne_at Hv (by decide))))
      replace oS := oS.grown g7 (.inr (Ne.symm (oS.ne_at Hv (by decide))))
      replace Pv := Pv.kept g7 (by have := Pv.neP Hv (by decide); simpa using this)
      replace Dv := Dv.kept g7 (by have := Dv.neP Hv (by decide); simpa using this)
      replace A5 := A5.kept g7 (by have := A5.neP Hv (by decide); simpa using this)
      replace A6 := A6.kept g7 (by have := A6.neP Hv (by decide); simpa using this)
      clear Hv hW7
      have c22 := H7.cell 22
      have c23 := H7.cell 23
      have f22 := H7.free 22
      have f23 := H7.free 23
      go_upto_region 9 with fail
      have g8 : V6.grownBy ((V6.setCell ⟨sb, 22, none⟩ (.slice none 0 0)).setCell ⟨sb, 23, none⟩ (.slice none 0 0)) (some sb) := By.set (p := ⟨sb, 23, none⟩) (By.set (p := ⟨sb, 22, none⟩) (By.refl V6 _) _) _
      have H8 : At ((V6.setCell ⟨sb, 22, none⟩ (.slice none 0 0)).setCell ⟨sb, 23, none⟩ (.slice none 0 0)) sb #[.pointer px', .int .i64 ax', .int .i64 ay', .int .i64 s', .int .i64 al', .int .i64 p', .int .i64 q', .int .i64 r', .int .i64 t', .slice AS MS.length cS, .string ⟨#[]⟩, .pointer pa, .int .i64 ax', .int .i64 ay', .int .i64 s', .int .i64 al', .int .i64 p', .int .i64 q', .int .i64 r', .int .i64 t', .slice AL nL cL, .string ⟨#[]⟩, .slice none 0 0, .slice none 0 0] 140 := by simpa using (H7.put 22 (.slice none 0 0)).put 23 (.slice none 0 0)
      generalize (V6.setCell ⟨sb, 22, none⟩ (.slice none 0 0)).setCell ⟨sb, 23, none⟩ (.slice none 0 0) = V7 at *
      have K8 : Kx (fun k => k = sb) w V7 := (K7).then (Kx.by (X := (fun k => k = sb)) g8 rfl)
      replace I2 := bI _ _ _ _ I2 (Kx.by (X := (fun k => k = sb)) g8 rfl) (xf_one H7 (by decide)) (xf_one H7 (by decide))
      replace oC := oC.grown g8 (.inr (Ne.symm (oC.ne_at H7 (by decide))))
      replace oS := oS.grown g8 (.inr (Ne.symm (oS.ne_at H7 (by decide))))
      replace Pv := Pv.kept g8 (by have := Pv.neP H7 (by decide); simpa using this)
      replace Dv := Dv.kept g8 (by have := Dv.neP H7 (by decide); simpa using this)
      replace A5 := A5.kept g8 (by have := A5.neP H7 (by decide); simpa using this)
      replace A6 := A6.kept g8 (by have := A6.neP H7 (by decide); simpa using this)
      clear H7 c22 c23 f22 f23 g7 g8 K7
      refine wp_region_held_drew (S := fun V => At V b5 #[.pointer px, .int .i64 ax, .int .i64 ay, .int .i64 s, .int .i64 al, .int .i64 p, .int .i64 q, .int .i64 r, .int .i64 t, .slice AO nO cO, .string ⟨#[]⟩] 60 ∧ At V b6 #[.pointer px', .int .i64 ax', .int .i64 ay', .int .i64 s', .int .i64 al', .int .i64 p', .int .i64 q', .int .i64 r', .int .i64 t', .slice AS MS.length cS, .string ⟨#[]⟩] 60 ∧ At V (w.heap.size + 1) #[.pointer pa, .int .i64 ax', .int .i64 ay', .int .i64 s', .int .i64 al', .int .i64 p', .int .i64 q', .int .i64 r', .int .i64 t', .slice AL nL cL, .string ⟨#[]⟩, .slice AD nD cD, .slice AR nR cR] 138) (by kernel_rfl) ⟨A5.drew, A6.drew, Pv.drew⟩ (fun hHeld => ?_)
      replace A5 := A5.drew
      replace A6 := A6.drew
      replace Pv := Pv.drew
      replace Dv := Dv.drew
      replace H8 := H8.drew
      replace oC := oC.bl (Bl.refl _).drew
      replace oS := oS.bl (Bl.refl _).drew
      replace I2 := bI _ _ _ (fun _ => False) I2 (Kx.bl (Bl.refl _).drew) (fun _ _ h => h.elim) (fun _ _ h => h.elim)
      replace K8 := K8.gr (Bl.refl _).drew
      generalize V7.drew = U0 at *
      refine wpAnyH_take (i := 0) (v := .agg #[.pointer px, .int .i64 ax, .int .i64 ay, .int .i64 s, .int .i64 al, .int .i64 p, .int .i64 q, .int .i64 r, .int .i64 t, .slice AO nO cO, .string ⟨#[]⟩]) rfl (by kernel_rfl) (by kernel_rfl) (by kernel_rfl) (fun _ _ _ h => h) (yieldsIf_load_mid (by rfl) 60 _ rfl (b5) 0 rfl [.pointer px, .int .i64 ax, .int .i64 ay, .int .i64 s, .int .i64 al, .int .i64 p, .int .i64 q, .int .i64 r, .int .i64 t, .slice AO nO cO, .string ⟨#[]⟩] _ (fun V hS => At.range (cs := [.pointer px, .int .i64 ax, .int .i64 ay, .int .i64 s, .int .i64 al, .int .i64 p, .int .i64 q, .int .i64 r, .int .i64 t, .slice AO nO cO, .string ⟨#[]⟩]) hS.1 0 _ (fun j v hj => by rw [Nat.zero_add]; exact hj)) Tryz.underlying60 rfl (by kernel_rfl)) (by assumption) ?_
      try simp only [Act.put, List.setIfInBounds_toArray, List.set_cons_zero, List.set_cons_succ, List.getElem_toArray, List.getElem_cons_zero]
      refine wpAnyH_take (i := 1) (v := .agg #[.pointer px', .int .i64 ax', .int .i64 ay', .int .i64 s', .int .i64 al', .int .i64 p', .int .i64 q', .int .i64 r', .int .i64 t', .slice AS MS.length cS, .string ⟨#[]⟩]) rfl (by kernel_rfl) (by kernel_rfl) (by kernel_rfl) (fun _ _ _ h => h) (yieldsIf_load_mid (by rfl) 60 _ rfl (b6) 0 rfl [.pointer px', .int .i64 ax', .int .i64 ay', .int .i64 s', .int .i64 al', .int .i64 p', .int .i64 q', .int .i64 r', .int .i64 t', .slice AS MS.length cS, .string ⟨#[]⟩] _ (fun V hS => At.range (cs := [.pointer px', .int .i64 ax', .int .i64 ay', .int .i64 s', .int .i64 al', .int .i64 p', .int .i64 q', .int .i64 r', .int .i64 t', .slice AS MS.length cS, .string ⟨#[]⟩]) hS.2.1 0 _ (fun j v hj => by rw [Nat.zero_add]; exact hj)) Tryz.underlying60 rfl (by kernel_rfl)) (by assumption) ?_
      try simp only [Act.put, List.setIfInBounds_toArray, List.set_cons_zero, List.set_cons_succ, List.getElem_toArray, List.getElem_cons_succ, List.getElem_cons_zero]
      refine wpAnyH_take (i := 2) (v := ?_) rfl (by kernel_rfl) (by kernel_rfl) (by kernel_rfl) (fun _ _ _ h => h) (Or.inl ⟨by rfl, ?hy101⟩) (by assumption) ?rest101
      case hy101 => intro w' hSw; go_simp; (try with_reducible rfl)
      try simp only [Act.put, List.setIfInBounds_toArray, List.set_cons_zero, List.set_cons_succ, List.getElem_toArray, List.getElem_cons_succ, List.getElem_cons_zero]
      refine wpAnyH_take (i := 4) (v := ?_) rfl (by kernel_rfl) (by kernel_rfl) (by kernel_rfl) (fun _ _ _ h => h) (Or.inl ⟨by rfl, ?hy102⟩) (by assumption) ?rest102
      case hy102 => intro w' hSw; go_simp; (try with_reducible rfl)
      try simp only [Act.put, List.setIfInBounds_toArray, List.set_cons_zero, List.set_cons_succ, List.getElem_toArray, List.getElem_cons_succ, List.getElem_cons_zero]
      refine wpAnyH_take (i := 5) (v := ?_) rfl (by kernel_rfl) (by kernel_rfl) (by kernel_rfl) (fun _ _ _ h => h) (Or.inl ⟨by rfl, ?hy103⟩) (by assumption) ?rest103
      case hy103 => intro w' hSw; have hc := hSw.2.2.cell 12; go_simp; (try with_reducible rfl)
      try simp only [Act.put, List.setIfInBounds_toArray, List.set_cons_zero, List.set_cons_succ, List.getElem_toArray, List.getElem_cons_succ, List.getElem_cons_zero]
      refine wpAnyH_take (i := 6) (v := ?_) rfl (by kernel_rfl) (by kernel_rfl) (by kernel_rfl) (fun _ _ _ h => h) (Or.inl ⟨by rfl, ?hy104⟩) (by assumption) ?rest104
      case hy104 => intro w' hSw; go_simp; (try with_reducible rfl)
      try simp only [Act.put, List.setIfInBounds_toArray, List.set_cons_zero, List.set_cons_succ, List.getElem_toArray, List.getElem_cons_succ, List.getElem_cons_zero]
      refine wpAnyH_ready (rs := [3]) (by kernel_rfl) (by simp) (AllReadyH.cons rfl (fun K9 hK9 => ?_) AllReadyH.nil)
      go_simp
      refine (cG _ px' AC cC1 MC AS cS MS K8 I2 oC hQ oS hS).mono ?_
      rintro e U1 ⟨A3, c3, M3, rfl, hl3, o3, hQ3, g1⟩
      replace o3 := o3.base (B' := w.heap.size) K8.size
      replace A5 := A5.bl (g1)
      replace A6 := A6.bl (g1)
      replace Pv := Pv.bl (g1)
      replace Dv := Dv.bl (g1)
      replace H8 := H8.bl (g1)
      replace oC := oC.bl (g1)
      replace oS := oS.bl (g1)
      replace I2 := bI _ _ _ (fun _ => False) I2 (Kx.bl (g1)) (fun _ _ h => h.elim) (fun _ _ h => h.elim)
      replace K8 := K8.gr (g1)
      refine hK9.out _ _ (⟨A5, A6, Pv⟩) (fun _ => ?_)
      clear hK9 K9
      try simp only [Act.put, List.setIfInBounds_toArray, List.set_cons_zero, List.set_cons_succ, List.getElem_toArray, List.getElem_cons_succ, List.getElem_cons_zero]
      refine wpAnyH_ready (rs := [7]) (by kernel_rfl) (by simp) (AllReadyH.cons rfl (fun K9 hK9 => ?_) AllReadyH.nil)
      go_simp
      refine (cA _ AC cC1 MC oC hQ).mono ?_
      rintro e U2 ⟨rfl, g2⟩
      replace A5 := A5.bl (g2.bl)
      replace A6 := A6.bl (g2.bl)
      replace Pv := Pv.bl (g2.bl)
      replace Dv := Dv.bl (g2.bl)
      replace H8 := H8.bl (g2.bl)
      replace oC := oC.bl (g2.bl)
      replace oS := oS.bl (g2.bl)
      replace o3 := o3.bl (g2.bl)
      replace I2 := bI _ _ _ (fun _ => False) I2 (Kx.bl (g2.bl)) (fun _ _ h => h.elim) (fun _ _ h => h.elim)
      replace K8 := K8.gr (g2.bl)
      refine hK9.out _ _ (⟨A5, A6, Pv⟩) (fun _ => ?_)
      clear hK9 K9
      try simp only [Act.put, List.setIfInBounds_toArray, List.set_cons_zero, List.set_cons_succ, List.getElem_toArray, List.getElem_cons_succ, List.getElem_cons_zero]
      refine wpAnyH_take (i := 8) (v := ?_) rfl (by kernel_rfl) (by kernel_rfl) (by kernel_rfl) (fun _ _ _ h => h) (Or.inl ⟨by rfl, ?hy105⟩) (by assumption) ?rest105
      case hy105 => intro w' hSw; go_simp; (try with_reducible rfl)
      try simp only [Act.put, List.setIfInBounds_toArray, List.set_cons_zero, List.set_cons_succ, List.getElem_toArray, List.getElem_cons_succ, List.getElem_cons_zero]
      refine wpAnyH_ready (rs := [9]) (by kernel_rfl) (by simp) (AllReadyH.cons rfl (fun K9 hK9 => ?_) AllReadyH.nil)
      refine step_store_row rfl 48 _ _ rfl w.heap.size #[.slice A3 M3.length c3, .slice AR nR cR, .int .i64 ar] rfl rfl _ _ Dv (by kernel_rfl) rfl (by simp [Value.oneCell']) ?_
      replace A5 := A5.kept (setRow_by _ w.heap.size #[.slice A3 M3.length c3, .slice AR nR cR, .int .i64 ar]) (by have := A5.neP Dv (by decide); simpa using this)
      replace A6 := A6.kept (setRow_by _ w.heap.size #[.slice A3 M3.length c3, .slice AR nR cR, .int .i64 ar]) (by have := A6.neP Dv (by decide); simpa using this)
      replace Pv := Pv.kept (setRow_by _ w.heap.size #[.slice A3 M3.length c3, .slice AR nR cR, .int .i64 ar]) (by simp)
      replace H8 := H8.kept (setRow_by _ w.heap.size #[.slice A3 M3.length c3, .slice AR nR cR, .int .i64 ar]) (by have := H8.neP Dv (by decide); simpa using this)
      replace oC := oC.grown (setRow_by _ w.heap.size #[.slice A3 M3.length c3, .slice AR nR cR, .int .i64 ar]) (.inr (Ne.symm (oC.ne_at Dv (by decide))))
      replace oS := oS.grown (setRow_by _ w.heap.size #[.slice A3 M3.length c3, .slice AR nR cR, .int .i64 ar]) (.inr (Ne.symm (oS.ne_at Dv (by decide))))
      replace o3 := o3.grown (setRow_by _ w.heap.size #[.slice A3 M3.length c3, .slice AR nR cR, .int .i64 ar]) (.inr (Ne.symm (o3.ne_at Dv (by decide))))
      replace I2 := bI _ _ _ _ I2 (Kx.by (X := fun k => k = w.heap.size) (setRow_by _ w.heap.size #[.slice A3 M3.length c3, .slice AR nR cR, .int .i64 ar]) rfl) (xf_one Dv (by decide)) (xf_one Dv (by decide))
      replace K8 := K8.srow (Nat.le_refl _) #[.slice A3 M3.length c3, .slice AR nR cR, .int .i64 ar]
      replace Dv := Dv.setRow #[.slice A3 M3.length c3, .slice AR nR cR, .int .i64 ar]
      generalize World.setRow _ w.heap.size #[.slice A3 M3.length c3, .slice AR nR cR, .int .i64 ar] = U3 at *
      refine hK9.out _ _ (⟨A5, A6, Pv⟩) (fun _ => ?_)
      clear hK9 K9
      try simp only [Act.put, List.getElem_toArray, List.getElem_cons_succ, List.getElem_cons_zero]
      refine wpAnyH_take (i := 10) (v := ?_) rfl (by kernel_rfl) (by kernel_rfl) (by kernel_rfl) (fun _ _ _ h => h) (Or.inl ⟨by rfl, ?hy106⟩) (by assumption) ?rest106
      case hy106 => intro w' hSw; go_simp; (try with_reducible rfl)
      try simp only [Act.put, List.setIfInBounds_toArray, List.set_cons_zero, List.set_cons_succ, List.getElem_toArray, List.getElem_cons_succ, List.getElem_cons_zero]
      refine wpAnyH_done (by kernel_rfl) ?_ _
      go_wp2
      exact bodyPost_ret (results2c rfl _ _ w.heap.size #[.slice A3 M3.length c3, .slice AR nR cR, .int .i64 ar] rfl (run_loadVar_row _ _ _ _ _ (0, 0) _ Dv Tryz.underlying48 rfl (by kernel_rfl))) rfl ⟨px', AS, cS, MS, A3, c3, M3, rfl, H8, I2, oS, hS, o3, hQ3, K8⟩

    clear hK4
    have SK := Lib.hid (fun (V : World) (g : Bl W2 V) => (show At V sb #[.pointer px, .int .i64 ax, .int .i64 ay, .int .i64 s, .int .i64 al, .int .i64 p, .int .i64 q, .int .i64 r, .int .i64 t, .slice AO nO cO, .string ⟨#[]⟩, .pointer pa, .int .i64 ax', .int .i64 ay', .int .i64 s', .int .i64 al', .int .i64 p', .int .i64 q', .int .i64 r', .int .i64 t', .slice AL nL cL, .string ⟨#[]⟩, .slice AD nD cD, .slice AR nR cR] 140 ∧ At V (w.heap.size + 1) #[.pointer pa, .int .i64 ax', .int .i64 ay', .int .i64 s', .int .i64 al', .int .i64 p', .int .i64 q', .int .i64 r', .int .i64 t', .slice AL nL cL, .string ⟨#[]⟩, .slice AD nD cD, .slice AR nR cR] 138 ∧ Bl W2 V from ⟨H1.bl g, P1.bl g, g⟩))
    refine wp_region_held_drew (S := fun V => At V sb #[.pointer px, .int .i64 ax, .int .i64 ay, .int .i64 s, .int .i64 al, .int .i64 p, .int .i64 q, .int .i64 r, .int .i64 t, .slice AO nO cO, .string ⟨#[]⟩, .pointer pa, .int .i64 ax', .int .i64 ay', .int .i64 s', .int .i64 al', .int .i64 p', .int .i64 q', .int .i64 r', .int .i64 t', .slice AL nL cL, .string ⟨#[]⟩, .slice AD nD cD, .slice AR nR cR] 140 ∧ At V (w.heap.size + 1) #[.pointer pa, .int .i64 ax', .int .i64 ay', .int .i64 s', .int .i64 al', .int .i64 p', .int .i64 q', .int .i64 r', .int .i64 t', .slice AL nL cL, .string ⟨#[]⟩, .slice AD nD cD, .slice AR nR cR] 138 ∧ Bl W2 V) (by kernel_rfl) (SK.out _ (Bl.refl _).drew) (fun hHeld => ?_)
    have B0 : Bl W2 W2.drew := (Bl.refl _).drew
    have cC := Lib.hid (fun (V : World) (g : Bl W2 V) => cC V (Kx.bl (G1.trans g)))
    generalize W2.drew = U0 at *
    refine wpAnyH_take (i := 0) (v := ?_) rfl (by kernel_rfl) (by kernel_rfl) (by kernel_rfl) (fun _ _ _ h => h) (Or.inl ⟨by rfl, ?hy1⟩) (by assumption) ?rest1
    case hy1 => intro w' hSw; go_simp; (try with_reducible rfl)
    try simp only [Act.put, List.setIfInBounds_toArray, List.set_cons_zero, List.set_cons_succ, List.getElem_toArray, List.getElem_cons_zero]
    refine wpAnyH_take (i := 1) (v := ?_) rfl (by kernel_rfl) (by kernel_rfl) (by kernel_rfl) (fun _ _ _ h => h) (Or.inl ⟨by rfl, ?hy2⟩) (by assumption) ?rest2
    case hy2 => intro w' hSw; go_simp; (try with_reducible rfl)
    try simp only [Act.put, List.setIfInBounds_toArray, List.set_cons_zero, List.set_cons_succ, List.getElem_toArray, List.getElem_cons_succ, List.getElem_cons_zero]
    refine wpAnyH_take (i := 2) (v := ?_) rfl (by kernel_rfl) (by kernel_rfl) (by kernel_rfl) (fun _ _ _ h => h) (Or.inl ⟨by rfl, ?hy3⟩) (by assumption) ?rest3
    case hy3 => intro w' hSw; go_simp; (try with_reducible rfl)
    try simp only [Act.put, List.setIfInBounds_toArray, List.set_cons_zero, List.set_cons_succ, List.getElem_toArray, List.getElem_cons_succ, List.getElem_cons_zero]
    refine wpAnyH_take (i := 3) (v := .agg #[.pointer px, .int .i64 ax, .int .i64 ay, .int .i64 s, .int .i64 al, .int .i64 p, .int .i64 q, .int .i64 r, .int .i64 t, .slice AO nO cO, .string ⟨#[]⟩]) rfl (by kernel_rfl) (by kernel_rfl) (by kernel_rfl) (fun _ _ _ h => h) (yieldsIf_load_mid (by rfl) 60 _ rfl (sb) 0 rfl [.pointer px, .int .i64 ax, .int .i64 ay, .int .i64 s, .int .i64 al, .int .i64 p, .int .i64 q, .int .i64 r, .int .i64 t, .slice AO nO cO, .string ⟨#[]⟩] _ (fun V hS => At.range (cs := [.pointer px, .int .i64 ax, .int .i64 ay, .int .i64 s, .int .i64 al, .int .i64 p, .int .i64 q, .int .i64 r, .int .i64 t, .slice AO nO cO, .string ⟨#[]⟩, .pointer pa, .int .i64 ax', .int .i64 ay', .int .i64 s', .int .i64 al', .int .i64 p', .int .i64 q', .int .i64 r', .int .i64 t', .slice AL nL cL, .string ⟨#[]⟩, .slice AD nD cD, .slice AR nR cR]) hS.1 0 _ (fun j v hj => pre_of (rest := [.pointer pa, .int .i64 ax', .int .i64 ay', .int .i64 s', .int .i64 al', .int .i64 p', .int .i64 q', .int .i64 r', .int .i64 t', .slice AL nL cL, .string ⟨#[]⟩, .slice AD nD cD, .slice AR nR cR]) j v hj)) Tryz.underlying60 rfl (by kernel_rfl)) (by assumption) ?_
    try simp only [Act.put, List.setIfInBounds_toArray, List.set_cons_zero, List.set_cons_succ, List.getElem_toArray, List.getElem_cons_succ, List.getElem_cons_zero]
    refine wpAnyH_take (i := 4) (v := ?_) rfl (by kernel_rfl) (by kernel_rfl) (by kernel_rfl) (fun _ _ _ h => h) (Or.inl ⟨by rfl, ?hy4⟩) (by assumption) ?rest4
    case hy4 => intro w' hSw; go_simp; (try with_reducible rfl)
    try simp only [Act.put, List.setIfInBounds_toArray, List.set_cons_zero, List.set_cons_succ, List.getElem_toArray, List.getElem_cons_succ, List.getElem_cons_zero]
    refine wpAnyH_take (i := 5) (v := .agg #[.pointer pa, .int .i64 ax', .int .i64 ay', .int .i64 s', .int .i64 al', .int .i64 p', .int .i64 q', .int .i64 r', .int .i64 t', .slice AL nL cL, .string ⟨#[]⟩]) rfl (by kernel_rfl) (by kernel_rfl) (by kernel_rfl) (fun _ _ _ h => h) (yieldsIf_load_mid (by rfl) 60 _ rfl (w.heap.size + 1) 0 rfl [.pointer pa, .int .i64 ax', .int .i64 ay', .int .i64 s', .int .i64 al', .int .i64 p', .int .i64 q', .int .i64 r', .int .i64 t', .slice AL nL cL, .string ⟨#[]⟩] _ (fun V hS => At.range (cs := [.pointer pa, .int .i64 ax', .int .i64 ay', .int .i64 s', .int .i64 al', .int .i64 p', .int .i64 q', .int .i64 r', .int .i64 t', .slice AL nL cL, .string ⟨#[]⟩, .slice AD nD cD, .slice AR nR cR]) hS.2.1 0 _ (fun j v hj => pre_of (rest := [.slice AD nD cD, .slice AR nR cR]) j v hj)) Tryz.underlying60 rfl (by kernel_rfl)) (by assumption) ?_
    try simp only [Act.put, List.setIfInBounds_toArray, List.set_cons_zero, List.set_cons_succ, List.getElem_toArray, List.getElem_cons_succ, List.getElem_cons_zero]
    refine wpAnyH_take (i := 6) (v := .agg #[.pointer pa, .int .i64 ax', .int .i64 ay', .int .i64 s', .int .i64 al', .int .i64 p', .int .i64 q', .int .i64 r', .int .i64 t', .slice AL nL cL, .string ⟨#[]⟩, .slice AD nD cD, .slice AR nR cR]) rfl (by kernel_rfl) (by kernel_rfl) (by kernel_rfl) (fun _ _ _ h => h) (yieldsIf_load_mid (by rfl) 138 _ rfl (w.heap.size + 1) 0 rfl [.pointer pa, .int .i64 ax', .int .i64 ay', .int .i64 s', .int .i64 al', .int .i64 p', .int .i64 q', .int .i64 r', .int .i64 t', .slice AL nL cL, .string ⟨#[]⟩, .slice AD nD cD, .slice AR nR cR] _ (fun V hS => At.range (cs := [.pointer pa, .int .i64 ax', .int .i64 ay', .int .i64 s', .int .i64 al', .int .i64 p', .int .i64 q', .int .i64 r', .int .i64 t', .slice AL nL cL, .string ⟨#[]⟩, .slice AD nD cD, .slice AR nR cR]) hS.2.1 0 _ (fun j v hj => pre_of (rest := []) j v hj)) Tryz.underlying138 rfl (by kernel_rfl)) (by assumption) ?_
    try simp only [Act.put, List.setIfInBounds_toArray, List.set_cons_zero, List.set_cons_succ, List.getElem_toArray, List.getElem_cons_succ, List.getElem_cons_zero]
    refine wpAnyH_ready (rs := [7, 8, 9]) (by kernel_rfl) (by simp) (AllReadyH.cons rfl (fun K9 hK9 => ?_) (AllReadyH.cons rfl (fun K9 hK9 => ?_) (AllReadyH.cons rfl (fun K9 hK9 => ?_) AllReadyH.nil)))
    · go_simp
      refine (cC.out _ B0).mono ?_
      rintro e U1 ⟨AC, cC1, MC, rfl, oC, hC, g2⟩
      have B3 : Bl W2 U1 := Bl.trans B0 g2
      replace oC := oC.base (Nat.zero_le _)
      refine hK9.out _ _ (SK.out _ B3) (fun _ => ?_)
      clear hK9 K9
      try simp only [Act.put, List.setIfInBounds_toArray, List.set_cons_zero, List.set_cons_succ, List.getElem_toArray, List.getElem_cons_succ, List.getElem_cons_zero]
      refine wpAnyH_ready (rs := [8, 9]) (by kernel_rfl) (by simp) (AllReadyH.cons rfl (fun K9 hK9 => ?_) (AllReadyH.cons rfl (fun K9 hK9 => ?_) AllReadyH.nil))
      · go_simp
        have B5 : Bl W2 _ := Bl.alloc B3 (.cells #[.pointer none, .int .i64 0, .int .i64 0, .int .i64 0, .int .i64 0, .int .i64 0, .int .i64 0, .int .i64 0, .int .i64 0, .slice none 0 0, .string ⟨#[]⟩] 60)
        have Z7 := oC.bl ((Bl.refl _).alloc (.cells #[.pointer none, .int .i64 0, .int .i64 0, .int .i64 0, .int .i64 0, .int .i64 0, .int .i64 0, .int .i64 0, .int .i64 0, .slice none 0 0, .string ⟨#[]⟩] 60))
        have Y8 := At.new U1 #[.pointer none, .int .i64 0, .int .i64 0, .int .i64 0, .int .i64 0, .int .i64 0, .int .i64 0, .int .i64 0, .int .i64 0, .slice none 0 0, .string ⟨#[]⟩] 60
        have hs5 : W2.heap.size ≤ U1.heap.size := Bl.size B3
        generalize U1.alloc (.cells #[.pointer none, .int .i64 0, .int .i64 0, .int .i64 0, .int .i64 0, .int .i64 0, .int .i64 0, .int .i64 0, .int .i64 0, .slice none 0 0, .string ⟨#[]⟩] 60) = U4 at *
        generalize U1.heap.size = b6 at *
        refine hK9.out _ _ (SK.out _ B5) (fun _ => ?_)
        clear hK9 K9
        try simp only [Act.put, List.setIfInBounds_toArray, List.set_cons_zero, List.set_cons_succ, List.getElem_toArray, List.getElem_cons_succ, List.getElem_cons_zero]
        refine wpAnyH_ready (rs := [9]) (by kernel_rfl) (by simp) (AllReadyH.cons rfl (fun K9 hK9 => ?_) AllReadyH.nil)
        go_simp
        have B10 : Bl W2 _ := Bl.alloc B5 (.cells #[.pointer none, .int .i64 0, .int .i64 0, .int .i64 0, .int .i64 0, .int .i64 0, .int .i64 0, .int .i64 0, .int .i64 0, .slice none 0 0, .string ⟨#[]⟩] 60)
        have Y12 := Y8.alloc (.cells #[.pointer none, .int .i64 0, .int .i64 0, .int .i64 0, .int .i64 0, .int .i64 0, .int .i64 0, .int .i64 0, .int .i64 0, .slice none 0 0, .string ⟨#[]⟩] 60)
        have Z13 := Z7.bl ((Bl.refl _).alloc (.cells #[.pointer none, .int .i64 0, .int .i64 0, .int .i64 0, .int .i64 0, .int .i64 0, .int .i64 0, .int .i64 0, .int .i64 0, .slice none 0 0, .string ⟨#[]⟩] 60))
        have Y14 := At.new U4 #[.pointer none, .int .i64 0, .int .i64 0, .int .i64 0, .int .i64 0, .int .i64 0, .int .i64 0, .int .i64 0, .int .i64 0, .slice none 0 0, .string ⟨#[]⟩] 60
        have n15 : b6 ≠ U4.heap.size := Nat.ne_of_lt Y8.lt
        have hs6 : W2.heap.size ≤ U4.heap.size := Bl.size B5
        generalize U4.alloc (.cells #[.pointer none, .int .i64 0, .int .i64 0, .int .i64 0, .int .i64 0, .int .i64 0, .int .i64 0, .int .i64 0, .int .i64 0, .slice none 0 0, .string ⟨#[]⟩] 60) = U9 at *
        generalize U4.heap.size = b11 at *
        refine hK9.out _ _ (SK.out _ B10) (fun _ => ?_)
        clear hK9 K9
        try simp only [Act.put, List.setIfInBounds_toArray, List.set_cons_zero, List.set_cons_succ, List.getElem_toArray, List.getElem_cons_succ, List.getElem_cons_zero]
        refine wpAnyH_ready (rs := [10]) (by kernel_rfl) (by simp) (AllReadyH.cons rfl (fun K9 hK9 => ?_) AllReadyH.nil)
        refine step_store_row rfl 60 _ _ rfl b6 #[.pointer px, .int .i64 ax, .int .i64 ay, .int .i64 s, .int .i64 al, .int .i64 p, .int .i64 q, .int .i64 r, .int .i64 t, .slice AO nO cO, .string ⟨#[]⟩] rfl rfl _ _ Y12 (by kernel_rfl) rfl (by simp [Value.oneCell']) ?_
        have B17 : Bl W2 _ := Bl.srow B10 hs5 #[.pointer px, .int .i64 ax, .int .i64 ay, .int .i64 s, .int .i64 al, .int .i64 p, .int .i64 q, .int .i64 r, .int .i64 t, .slice AO nO cO, .string ⟨#[]⟩]
        have Y18 := Y12.setRow #[.pointer px, .int .i64 ax, .int .i64 ay, .int .i64 s, .int .i64 al, .int .i64 p, .int .i64 q, .int .i64 r, .int .i64 t, .slice AO nO cO, .string ⟨#[]⟩]
        have Y19 := Y14.kept (setRow_by _ b6 #[.pointer px, .int .i64 ax, .int .i64 ay, .int .i64 s, .int .i64 al, .int .i64 p, .int .i64 q, .int .i64 r, .int .i64 t, .slice AO nO cO, .string ⟨#[]⟩]) (by simpa using (Ne.symm n15))
        have Z20 := Z13.grown (setRow_by _ b6 #[.pointer px, .int .i64 ax, .int .i64 ay, .int .i64 s, .int .i64 al, .int .i64 p, .int .i64 q, .int .i64 r, .int .i64 t, .slice AO nO cO, .string ⟨#[]⟩]) (.inr (Ne.symm (Z13.ne_at Y12 (by decide))))
        generalize U9.setRow b6 #[.pointer px, .int .i64 ax, .int .i64 ay, .int .i64 s, .int .i64 al, .int .i64 p, .int .i64 q, .int .i64 r, .int .i64 t, .slice AO nO cO, .string ⟨#[]⟩] = U16 at *
        refine hK9.out _ _ (SK.out _ B17) (fun _ => ?_)
        clear hK9 K9
        try simp only [Act.put, List.getElem_toArray, List.getElem_cons_succ, List.getElem_cons_zero]
        refine wpAnyH_ready (rs := [11]) (by kernel_rfl) (by simp) (AllReadyH.cons rfl (fun K9 hK9 => ?_) AllReadyH.nil)
        refine step_store_row rfl 60 _ _ rfl b11 #[.pointer pa, .int .i64 ax', .int .i64 ay', .int .i64 s', .int .i64 al', .int .i64 p', .int .i64 q', .int .i64 r', .int .i64 t', .slice AL nL cL, .string ⟨#[]⟩] rfl rfl _ _ Y19 (by kernel_rfl) rfl (by simp [Value.oneCell']) ?_
        have B22 : Bl W2 _ := Bl.srow B17 hs6 #[.pointer pa, .int .i64 ax', .int .i64 ay', .int .i64 s', .int .i64 al', .int .i64 p', .int .i64 q', .int .i64 r', .int .i64 t', .slice AL nL cL, .string ⟨#[]⟩]
        have Y23 := Y18.kept (setRow_by _ b11 #[.pointer pa, .int .i64 ax', .int .i64 ay', .int .i64 s', .int .i64 al', .int .i64 p', .int .i64 q', .int .i64 r', .int .i64 t', .slice AL nL cL, .string ⟨#[]⟩]) (by simpa using n15)
        have Y24 := Y19.setRow #[.pointer pa, .int .i64 ax', .int .i64 ay', .int .i64 s', .int .i64 al', .int .i64 p', .int .i64 q', .int .i64 r', .int .i64 t', .slice AL nL cL, .string ⟨#[]⟩]
        have Z25 := Z20.grown (setRow_by _ b11 #[.pointer pa, .int .i64 ax', .int .i64 ay', .int .i64 s', .int .i64 al', .int .i64 p', .int .i64 q', .int .i64 r', .int .i64 t', .slice AL nL cL, .string ⟨#[]⟩]) (.inr (Ne.symm (Z20.ne_at Y19 (by decide))))
        generalize U16.setRow b11 #[.pointer pa, .int .i64 ax', .int .i64 ay', .int .i64 s', .int .i64 al', .int .i64 p', .int .i64 q', .int .i64 r', .int .i64 t', .slice AL nL cL, .string ⟨#[]⟩] = U21 at *
        refine hK9.out _ _ (SK.out _ B22) (fun _ => ?_)
        clear hK9 K9
        try simp only [Act.put, List.getElem_toArray, List.getElem_cons_succ, List.getElem_cons_zero]
        refine wpAnyH_take (i := 12) (v := ?_) rfl (by kernel_rfl) (by kernel_rfl) (by kernel_rfl) (fun _ _ _ h => h) (Or.inl ⟨by rfl, ?hy5⟩) (by assumption) ?rest5
        case hy5 => intro w' hSw; go_simp; (try with_reducible rfl)
        try simp only [Act.put, List.setIfInBounds_toArray, List.set_cons_zero, List.set_cons_succ, List.getElem_toArray, List.getElem_cons_succ, List.getElem_cons_zero]
        refine wpAnyH_done (by kernel_rfl) ?_ _
        exact REST2 _ _ _ _ _ _ Y23 Y24 n15 hs5 hs6 Z25 hC B22
      · go_simp
        have B5 : Bl W2 _ := Bl.alloc B3 (.cells #[.pointer none, .int .i64 0, .int .i64 0, .int .i64 0, .int .i64 0, .int .i64 0, .int .i64 0, .int .i64 0, .int .i64 0, .slice none 0 0, .string ⟨#[]⟩] 60)
        have Z7 := oC.bl ((Bl.refl _).alloc (.cells #[.pointer none, .int .i64 0, .int .i64 0, .int .i64 0, .int .i64 0, .int .i64 0, .int .i64 0, .int .i64 0, .int .i64 0, .slice none 0 0, .string ⟨#[]⟩] 60))
        have Y8 := At.new U1 #[.pointer none, .int .i64 0, .int .i64 0, .int .i64 0, .int .i64 0, .int .i64 0, .int .i64 0, .int .i64 0, .int .i64 0, .slice none 0 0, .string ⟨#[]⟩] 60
        have hs6 : W2.heap.size ≤ U1.heap.size := Bl.size B3
        generalize U1.alloc (.cells #[.pointer none, .int .i64 0, .int .i64 0, .int .i64 0, .int .i64 0, .int .i64 0, .int .i64 0, .int .i64 0, .int .i64 0, .slice none 0 0, .string ⟨#[]⟩] 60) = U4 at *
        generalize U1.heap.size = b6 at *
        refine hK9.out _ _ (SK.out _ B5) (fun _ => ?_)
        clear hK9 K9
        try simp only [Act.put, List.setIfInBounds_toArray, List.set_cons_zero, List.set_cons_succ, List.getElem_toArray, List.getElem_cons_succ, List.getElem_cons_zero]
        refine wpAnyH_ready (rs := [8]) (by kernel_rfl) (by simp) (AllReadyH.cons rfl (fun K9 hK9 => ?_) AllReadyH.nil)
        go_simp
        have B10 : Bl W2 _ := Bl.alloc B5 (.cells #[.pointer none, .int .i64 0, .int .i64 0, .int .i64 0, .int .i64 0, .int .i64 0, .int .i64 0, .int .i64 0, .int .i64 0, .slice none 0 0, .string ⟨#[]⟩] 60)
        have Y12 := Y8.alloc (.cells #[.pointer none, .int .i64 0, .int .i64 0, .int .i64 0, .int .i64 0, .int .i64 0, .int .i64 0, .int .i64 0, .int .i64 0, .slice none 0 0, .string ⟨#[]⟩] 60)
        have Z13 := Z7.bl ((Bl.refl _).alloc (.cells #[.pointer none, .int .i64 0, .int .i64 0, .int .i64 0, .int .i64 0, .int .i64 0, .int .i64 0, .int .i64 0, .int .i64 0, .slice none 0 0, .string ⟨#[]⟩] 60))
        have Y14 := At.new U4 #[.pointer none, .int .i64 0, .int .i64 0, .int .i64 0, .int .i64 0, .int .i64 0, .int .i64 0, .int .i64 0, .int .i64 0, .slice none 0 0, .string ⟨#[]⟩] 60
        have n15 : b6 ≠ U4.heap.size := Nat.ne_of_lt Y8.lt
        have hs5 : W2.heap.size ≤ U4.heap.size := Bl.size B5
        generalize U4.alloc (.cells #[.pointer none, .int .i64 0, .int .i64 0, .int .i64 0, .int .i64 0, .int .i64 0, .int .i64 0, .int .i64 0, .int .i64 0, .slice none 0 0, .string ⟨#[]⟩] 60) = U9 at *
        generalize U4.heap.size = b11 at *
        refine hK9.out _ _ (SK.out _ B10) (fun _ => ?_)
        clear hK9 K9
        try simp only [Act.put, List.setIfInBounds_toArray, List.set_cons_zero, List.set_cons_succ, List.getElem_toArray, List.getElem_cons_succ, List.getElem_cons_zero]
        refine wpAnyH_ready (rs := [10]) (by kernel_rfl) (by simp) (AllReadyH.cons rfl (fun K9 hK9 => ?_) AllReadyH.nil)
        refine step_store_row rfl 60 _ _ rfl b11 #[.pointer px, .int .i64 ax, .int .i64 ay, .int .i64 s, .int .i64 al, .int .i64 p, .int .i64 q, .int .i64 r, .int .i64 t, .slice AO nO cO, .string ⟨#[]⟩] rfl rfl _ _ Y14 (by kernel_rfl) rfl (by simp [Value.oneCell']) ?_
        have B17 : Bl W2 _ := Bl.srow B10 hs5 #[.pointer px, .int .i64 ax, .int .i64 ay, .int .i64 s, .int .i64 al, .int .i64 p, .int .i64 q, .int .i64 r, .int .i64 t, .slice AO nO cO, .string ⟨#[]⟩]
        have Y18 := Y12.kept (setRow_by _ b11 #[.pointer px, .int .i64 ax, .int .i64 ay, .int .i64 s, .int .i64 al, .int .i64 p, .int .i64 q, .int .i64 r, .int .i64 t, .slice AO nO cO, .string ⟨#[]⟩]) (by simpa using n15)
        have Y19 := Y14.setRow #[.pointer px, .int .i64 ax, .int .i64 ay, .int .i64 s, .int .i64 al, .int .i64 p, .int .i64 q, .int .i64 r, .int .i64 t, .slice AO nO cO, .string ⟨#[]⟩]
        have Z20 := Z13.grown (setRow_by _ b11 #[.pointer px, .int .i64 ax, .int .i64 ay, .int .i64 s, .int .i64 al, .int .i64 p, .int .i64 q, .int .i64 r, .int .i64 t, .slice AO nO cO, .string ⟨#[]⟩]) (.inr (Ne.symm (Z13.ne_at Y14 (by decide))))
        generalize U9.setRow b11 #[.pointer px, .int .i64 ax, .int .i64 ay, .int .i64 s, .int .i64 al, .int .i64 p, .int .i64 q, .int .i64 r, .int .i64 t, .slice AO nO cO, .string ⟨#[]⟩] = U16 at *
        refine hK9.out _ _ (SK.out _ B17) (fun _ => ?_)
        clear hK9 K9
        try simp only [Act.put, List.getElem_toArray, List.getElem_cons_succ, List.getElem_cons_zero]
        refine wpAnyH_ready (rs := [11]) (by kernel_rfl) (by simp) (AllReadyH.cons rfl (fun K9 hK9 => ?_) AllReadyH.nil)
        refine step_store_row rfl 60 _ _ rfl b6 #[.pointer pa, .int .i64 ax', .int .i64 ay', .int .i64 s', .int .i64 al', .int .i64 p', .int .i64 q', .int .i64 r', .int .i64 t', .slice AL nL cL, .string ⟨#[]⟩] rfl rfl _ _ Y18 (by kernel_rfl) rfl (by simp [Value.oneCell']) ?_
        have B22 : Bl W2 _ := Bl.srow B17 hs6 #[.pointer pa, .int .i64 ax', .int .i64 ay', .int .i64 s', .int .i64 al', .int .i64 p', .int .i64 q', .int .i64 r', .int .i64 t', .slice AL nL cL, .string ⟨#[]⟩]
        have Y23 := Y18.setRow #[.pointer pa, .int .i64 ax', .int .i64 ay', .int .i64 s', .int .i64 al', .int .i64 p', .int .i64 q', .int .i64 r', .int .i64 t', .slice AL nL cL, .string ⟨#[]⟩]
        have Y24 := Y19.kept (setRow_by _ b6 #[.pointer pa, .int .i64 ax', .int .i64 ay', .int .i64 s', .int .i64 al', .int .i64 p', .int .i64 q', .int .i64 r', .int .i64 t', .slice AL nL cL, .string ⟨#[]⟩]) (by simpa using (Ne.symm n15))
        have Z25 := Z20.grown (setRow_by _ b6 #[.pointer pa, .int .i64 ax', .int .i64 ay', .int .i64 s', .int .i64 al', .int .i64 p', .int .i64 q', .int .i64 r', .int .i64 t', .slice AL nL cL, .string ⟨#[]⟩]) (.inr (Ne.symm (Z20.ne_at Y18 (by decide))))
        generalize U16.setRow b6 #[.pointer pa, .int .i64 ax', .int .i64 ay', .int .i64 s', .int .i64 al', .int .i64 p', .int .i64 q', .int .i64 r', .int .i64 t', .slice AL nL cL, .string ⟨#[]⟩] = U21 at *
        refine hK9.out _ _ (SK.out _ B22) (fun _ => ?_)
        clear hK9 K9
        try simp only [Act.put, List.getElem_toArray, List.getElem_cons_succ, List.getElem_cons_zero]
        refine wpAnyH_take (i := 12) (v := ?_) rfl (by kernel_rfl) (by kernel_rfl) (by kernel_rfl) (fun _ _ _ h => h) (Or.inl ⟨by rfl, ?hy6⟩) (by assumption) ?rest6
        case hy6 => intro w' hSw; go_simp; (try with_reducible rfl)
        try simp only [Act.put, List.setIfInBounds_toArray, List.set_cons_zero, List.set_cons_succ, List.getElem_toArray, List.getElem_cons_succ, List.getElem_cons_zero]
        refine wpAnyH_done (by kernel_rfl) ?_ _
        exact REST2 _ _ _ _ _ _ Y24 Y23 (Ne.symm n15) hs5 hs6 Z25 hC B22
    · go_simp
      have B2 : Bl W2 _ := Bl.alloc B0 (.cells #[.pointer none, .int .i64 0, .int .i64 0, .int .i64 0, .int .i64 0, .int .i64 0, .int .i64 0, .int .i64 0, .int .i64 0, .slice none 0 0, .string ⟨#[]⟩] 60)
      have Y4 := At.new U0 #[.pointer none, .int .i64 0, .int .i64 0, .int .i64 0, .int .i64 0, .int .i64 0, .int .i64 0, .int .i64 0, .int .i64 0, .slice none 0 0, .string ⟨#[]⟩] 60
      have hs5 : W2.heap.size ≤ U0.heap.size := Bl.size B0
      generalize U0.alloc (.cells #[.pointer none, .int .i64 0, .int .i64 0, .int .i64 0, .int .i64 0, .int .i64 0, .int .i64 0, .int .i64 0, .int .i64 0, .slice none 0 0, .string ⟨#[]⟩] 60) = U1 at *
      generalize U0.heap.size = b3 at *
      refine hK9.out _ _ (SK.out _ B2) (fun _ => ?_)
      clear hK9 K9
      try simp only [Act.put, List.setIfInBounds_toArray, List.set_cons_zero, List.set_cons_succ, List.getElem_toArray, List.getElem_cons_succ, List.getElem_cons_zero]
      refine wpAnyH_ready (rs := [7, 9]) (by kernel_rfl) (by simp) (AllReadyH.cons rfl (fun K9 hK9 => ?_) (AllReadyH.cons rfl (fun K9 hK9 => ?_) AllReadyH.nil))
      · go_simp
        refine (cC.out _ B2).mono ?_
        rintro e U5 ⟨AC, cC1, MC, rfl, oC, hC, g6⟩
        have B7 : Bl W2 U5 := Bl.trans B2 g6
        have Y8 := Y4.bl g6
        replace oC := oC.base (Nat.zero_le _)
        refine hK9.out _ _ (SK.out _ B7) (fun _ => ?_)
        clear hK9 K9
        try simp only [Act.put, List.setIfInBounds_toArray, List.set_cons_zero, List.set_cons_succ, List.getElem_toArray, List.getElem_cons_succ, List.getElem_cons_zero]
        refine wpAnyH_ready (rs := [9]) (by kernel_rfl) (by simp) (AllReadyH.cons rfl (fun K9 hK9 => ?_) AllReadyH.nil)
        go_simp
        have B10 : Bl W2 _ := Bl.alloc B7 (.cells #[.pointer none, .int .i64 0, .int .i64 0, .int .i64 0, .int .i64 0, .int .i64 0, .int .i64 0, .int .i64 0, .int .i64 0, .slice none 0 0, .string ⟨#[]⟩] 60)
        have Y12 := Y8.alloc (.cells #[.pointer none, .int .i64 0, .int .i64 0, .int .i64 0, .int .i64 0, .int .i64 0, .int .i64 0, .int .i64 0, .int .i64 0, .slice none 0 0, .string ⟨#[]⟩] 60)
        have Z13 := oC.bl ((Bl.refl _).alloc (.cells #[.pointer none, .int .i64 0, .int .i64 0, .int .i64 0, .int .i64 0, .int .i64 0, .int .i64 0, .int .i64 0, .int .i64 0, .slice none 0 0, .string ⟨#[]⟩] 60))
        have Y14 := At.new U5 #[.pointer none, .int .i64 0, .int .i64 0, .int .i64 0, .int .i64 0, .int .i64 0, .int .i64 0, .int .i64 0, .int .i64 0, .slice none 0 0, .string ⟨#[]⟩] 60
        have n15 : b3 ≠ U5.heap.size := Nat.ne_of_lt Y8.lt
        have hs6 : W2.heap.size ≤ U5.heap.size := Bl.size B7
        generalize U5.alloc (.cells #[.pointer none, .int .i64 0, .int .i64 0, .int .i64 0, .int .i64 0, .int .i64 0, .int .i64 0, .int .i64 0, .int .i64 0, .slice none 0 0, .string ⟨#[]⟩] 60) = U9 at *
        generalize U5.heap.size = b11 at *
        refine hK9.out _ _ (SK.out _ B10) (fun _ => ?_)
        clear hK9 K9
        try simp only [Act.put, List.setIfInBounds_toArray, List.set_cons_zero, List.set_cons_succ, List.getElem_toArray, List.getElem_cons_succ, List.getElem_cons_zero]
        refine wpAnyH_ready (rs := [10]) (by kernel_rfl) (by simp) (AllReadyH.cons rfl (fun K9 hK9 => ?_) AllReadyH.nil)
        refine step_store_row rfl 60 _ _ rfl b3 #[.pointer px, .int .i64 ax, .int .i64 ay, .int .i64 s, .int .i64 al, .int .i64 p, .int .i64 q, .int .i64 r, .int .i64 t, .slice AO nO cO, .string ⟨#[]⟩] rfl rfl _ _ Y12 (by kernel_rfl) rfl (by simp [Value.oneCell']) ?_
        have B17 : Bl W2 _ := Bl.srow B10 hs5 #[.pointer px, .int .i64 ax, .int .i64 ay, .int .i64 s, .int .i64 al, .int .i64 p, .int .i64 q, .int .i64 r, .int .i64 t, .slice AO nO cO, .string ⟨#[]⟩]
        have Y18 := Y12.setRow #[.pointer px, .int .i64 ax, .int .i64 ay, .int .i64 s, .int .i64 al, .int .i64 p, .int .i64 q, .int .i64 r, .int .i64 t, .slice AO nO cO, .string ⟨#[]⟩]
        have Y19 := Y14.kept (setRow_by _ b3 #[.pointer px, .int .i64 ax, .int .i64 ay, .int .i64 s, .int .i64 al, .int .i64 p, .int .i64 q, .int .i64 r, .int .i64 t, .slice AO nO cO, .string ⟨#[]⟩]) (by simpa using (Ne.symm n15))
        have Z20 := Z13.grown (setRow_by _ b3 #[.pointer px, .int .i64 ax, .int .i64 ay, .int .i64 s, .int .i64 al, .int .i64 p, .int .i64 q, .int .i64 r, .int .i64 t, .slice AO nO cO, .string ⟨#[]⟩]) (.inr (Ne.symm (Z13.ne_at Y12 (by decide))))
        generalize U9.setRow b3 #[.pointer px, .int .i64 ax, .int .i64 ay, .int .i64 s, .int .i64 al, .int .i64 p, .int .i64 q, .int .i64 r, .int .i64 t, .slice AO nO cO, .string ⟨#[]⟩] = U16 at *
        refine hK9.out _ _ (SK.out _ B17) (fun _ => ?_)
        clear hK9 K9
        try simp only [Act.put, List.getElem_toArray, List.getElem_cons_succ, List.getElem_cons_zero]
        refine wpAnyH_ready (rs := [11]) (by kernel_rfl) (by simp) (AllReadyH.cons rfl (fun K9 hK9 => ?_) AllReadyH.nil)
        refine step_store_row rfl 60 _ _ rfl b11 #[.pointer pa, .int .i64 ax', .int .i64 ay', .int .i64 s', .int .i64 al', .int .i64 p', .int .i64 q', .int .i64 r', .int .i64 t', .slice AL nL cL, .string ⟨#[]⟩] rfl rfl _ _ Y19 (by kernel_rfl) rfl (by simp [Value.oneCell']) ?_
        have B22 : Bl W2 _ := Bl.srow B17 hs6 #[.pointer pa, .int .i64 ax', .int .i64 ay', .int .i64 s', .int .i64 al', .int .i64 p', .int .i64 q', .int .i64 r', .int .i64 t', .slice AL nL cL, .string ⟨#[]⟩]
        have Y23 := Y18.kept (setRow_by _ b11 #[.pointer pa, .int .i64 ax', .int .i64 ay', .int .i64 s', .int .i64 al', .int .i64 p', .int .i64 q', .int .i64 r', .int .i64 t', .slice AL nL cL, .string ⟨#[]⟩]) (by simpa using n15)
        have Y24 := Y19.setRow #[.pointer pa, .int .i64 ax', .int .i64 ay', .int .i64 s', .int .i64 al', .int .i64 p', .int .i64 q', .int .i64 r', .int .i64 t', .slice AL nL cL, .string ⟨#[]⟩]
        have Z25 := Z20.grown (setRow_by _ b11 #[.pointer pa, .int .i64 ax', .int .i64 ay', .int .i64 s', .int .i64 al', .int .i64 p', .int .i64 q', .int .i64 r', .int .i64 t', .slice AL nL cL, .string ⟨#[]⟩]) (.inr (Ne.symm (Z20.ne_at Y19 (by decide))))
        generalize U16.setRow b11 #[.pointer pa, .int .i64 ax', .int .i64 ay', .int .i64 s', .int .i64 al', .int .i64 p', .int .i64 q', .int .i64 r', .int .i64 t', .slice AL nL cL, .string ⟨#[]⟩] = U21 at *
        refine hK9.out _ _ (SK.out _ B22) (fun _ => ?_)
        clear hK9 K9
        try simp only [Act.put, List.getElem_toArray, List.getElem_cons_succ, List.getElem_cons_zero]
        refine wpAnyH_take (i := 12) (v := ?_) rfl (by kernel_rfl) (by kernel_rfl) (by kernel_rfl) (fun _ _ _ h => h) (Or.inl ⟨by rfl, ?hy7⟩) (by assumption) ?rest7
        case hy7 => intro w' hSw; go_simp; (try with_reducible rfl)
        try simp only [Act.put, List.setIfInBounds_toArray, List.set_cons_zero, List.set_cons_succ, List.getElem_toArray, List.getElem_cons_succ, List.getElem_cons_zero]
        refine wpAnyH_done (by kernel_rfl) ?_ _
        exact REST2 _ _ _ _ _ _ Y23 Y24 n15 hs5 hs6 Z25 hC B22
      · go_simp
        have B6 : Bl W2 _ := Bl.alloc B2 (.cells #[.pointer none, .int .i64 0, .int .i64 0, .int .i64 0, .int .i64 0, .int .i64 0, .int .i64 0, .int .i64 0, .int .i64 0, .slice none 0 0, .string ⟨#[]⟩] 60)
        have Y8 := Y4.alloc (.cells #[.pointer none, .int .i64 0, .int .i64 0, .int .i64 0, .int .i64 0, .int .i64 0, .int .i64 0, .int .i64 0, .int .i64 0, .slice none 0 0, .string ⟨#[]⟩] 60)
        have Y9 := At.new U1 #[.pointer none, .int .i64 0, .int .i64 0, .int .i64 0, .int .i64 0, .int .i64 0, .int .i64 0, .int .i64 0, .int .i64 0, .slice none 0 0, .string ⟨#[]⟩] 60
        have n10 : b3 ≠ U1.heap.size := Nat.ne_of_lt Y4.lt
        have hs6 : W2.heap.size ≤ U1.heap.size := Bl.size B2
        generalize U1.alloc (.cells #[.pointer none, .int .i64 0, .int .i64 0, .int .i64 0, .int .i64 0, .int .i64 0, .int .i64 0, .int .i64 0, .int .i64 0, .slice none 0 0, .string ⟨#[]⟩] 60) = U5 at *
        generalize U1.heap.size = b7 at *
        refine hK9.out _ _ (SK.out _ B6) (fun _ => ?_)
        clear hK9 K9
        try simp only [Act.put, List.setIfInBounds_toArray, List.set_cons_zero, List.set_cons_succ, List.getElem_toArray, List.getElem_cons_succ, List.getElem_cons_zero]
        refine wpAnyH_ready (rs := [7]) (by kernel_rfl) (by simp) (AllReadyH.cons rfl (fun K9 hK9 => ?_) AllReadyH.nil)
        go_simp
        refine (cC.out _ B6).mono ?_
        rintro e U11 ⟨AC, cC1, MC, rfl, oC, hC, g12⟩
        have B13 : Bl W2 U11 := Bl.trans B6 g12
        have Y14 := Y8.bl g12
        have Y15 := Y9.bl g12
        replace oC := oC.base (Nat.zero_le _)
        refine hK9.out _ _ (SK.out _ B13) (fun _ => ?_)
        clear hK9 K9
        try simp only [Act.put, List.setIfInBounds_toArray, List.set_cons_zero, List.set_cons_succ, List.getElem_toArray, List.getElem_cons_succ, List.getElem_cons_zero]
        refine wpAnyH_ready (rs := [10]) (by kernel_rfl) (by simp) (AllReadyH.cons rfl (fun K9 hK9 => ?_) AllReadyH.nil)
        refine step_store_row rfl 60 _ _ rfl b3 #[.pointer px, .int .i64 ax, .int .i64 ay, .int .i64 s, .int .i64 al, .int .i64 p, .int .i64 q, .int .i64 r, .int .i64 t, .slice AO nO cO, .string ⟨#[]⟩] rfl rfl _ _ Y14 (by kernel_rfl) rfl (by simp [Value.oneCell']) ?_
        have B17 : Bl W2 _ := Bl.srow B13 hs5 #[.pointer px, .int .i64 ax, .int .i64 ay, .int .i64 s, .int .i64 al, .int .i64 p, .int .i64 q, .int .i64 r, .int .i64 t, .slice AO nO cO, .string ⟨#[]⟩]
        have Y18 := Y14.setRow #[.pointer px, .int .i64 ax, .int .i64 ay, .int .i64 s, .int .i64 al, .int .i64 p, .int .i64 q, .int .i64 r, .int .i64 t, .slice AO nO cO, .string ⟨#[]⟩]
        have Y19 := Y15.kept (setRow_by _ b3 #[.pointer px, .int .i64 ax, .int .i64 ay, .int .i64 s, .int .i64 al, .int .i64 p, .int .i64 q, .int .i64 r, .int .i64 t, .slice AO nO cO, .string ⟨#[]⟩]) (by simpa using (Ne.symm n10))
        have Z20 := oC.grown (setRow_by _ b3 #[.pointer px, .int .i64 ax, .int .i64 ay, .int .i64 s, .int .i64 al, .int .i64 p, .int .i64 q, .int .i64 r, .int .i64 t, .slice AO nO cO, .string ⟨#[]⟩]) (.inr (Ne.symm (oC.ne_at Y14 (by decide))))
        generalize U11.setRow b3 #[.pointer px, .int .i64 ax, .int .i64 ay, .int .i64 s, .int .i64 al, .int .i64 p, .int .i64 q, .int .i64 r, .int .i64 t, .slice AO nO cO, .string ⟨#[]⟩] = U16 at *
        refine hK9.out _ _ (SK.out _ B17) (fun _ => ?_)
        clear hK9 K9
        try simp only [Act.put, List.getElem_toArray, List.getElem_cons_succ, List.getElem_cons_zero]
        refine wpAnyH_ready (rs := [11]) (by kernel_rfl) (by simp) (AllReadyH.cons rfl (fun K9 hK9 => ?_) AllReadyH.nil)
        refine step_store_row rfl 60 _ _ rfl b7 #[.pointer pa, .int .i64 ax', .int .i64 ay', .int .i64 s', .int .i64 al', .int .i64 p', .int .i64 q', .int .i64 r', .int .i64 t', .slice AL nL cL, .string ⟨#[]⟩] rfl rfl _ _ Y19 (by kernel_rfl) rfl (by simp [Value.oneCell']) ?_
        have B22 : Bl W2 _ := Bl.srow B17 hs6 #[.pointer pa, .int .i64 ax', .int .i64 ay', .int .i64 s', .int .i64 al', .int .i64 p', .int .i64 q', .int .i64 r', .int .i64 t', .slice AL nL cL, .string ⟨#[]⟩]
        have Y23 := Y18.kept (setRow_by _ b7 #[.pointer pa, .int .i64 ax', .int .i64 ay', .int .i64 s', .int .i64 al', .int .i64 p', .int .i64 q', .int .i64 r', .int .i64 t', .slice AL nL cL, .string ⟨#[]⟩]) (by simpa using n10)
        have Y24 := Y19.setRow #[.pointer pa, .int .i64 ax', .int .i64 ay', .int .i64 s', .int .i64 al', .int .i64 p', .int .i64 q', .int .i64 r', .int .i64 t', .slice AL nL cL, .string ⟨#[]⟩]
        have Z25 := Z20.grown (setRow_by _ b7 #[.pointer pa, .int .i64 ax', .int .i64 ay', .int .i64 s', .int .i64 al', .int .i64 p', .int .i64 q', .int .i64 r', .int .i64 t', .slice AL nL cL, .string ⟨#[]⟩]) (.inr (Ne.symm (Z20.ne_at Y19 (by decide))))
        generalize U16.setRow b7 #[.pointer pa, .int .i64 ax', .int .i64 ay', .int .i64 s', .int .i64 al', .int .i64 p', .int .i64 q', .int .i64 r', .int .i64 t', .slice AL nL cL, .string ⟨#[]⟩] = U21 at *
        refine hK9.out _ _ (SK.out _ B22) (fun _ => ?_)
        clear hK9 K9
        try simp only [Act.put, List.getElem_toArray, List.getElem_cons_succ, List.getElem_cons_zero]
        refine wpAnyH_take (i := 12) (v := ?_) rfl (by kernel_rfl) (by kernel_rfl) (by kernel_rfl) (fun _ _ _ h => h) (Or.inl ⟨by rfl, ?hy8⟩) (by assumption) ?rest8
        case hy8 => intro w' hSw; go_simp; (try with_reducible rfl)
        try simp only [Act.put, List.setIfInBounds_toArray, List.set_cons_zero, List.set_cons_succ, List.getElem_toArray, List.getElem_cons_succ, List.getElem_cons_zero]
        refine wpAnyH_done (by kernel_rfl) ?_ _
        exact REST2 _ _ _ _ _ _ Y23 Y24 n10 hs5 hs6 Z25 hC B22
    · go_simp
      have B2 : Bl W2 _ := Bl.alloc B0 (.cells #[.pointer none, .int .i64 0, .int .i64 0, .int .i64 0, .int .i64 0, .int .i64 0, .int .i64 0, .int .i64 0, .int .i64 0, .slice none 0 0, .string ⟨#[]⟩] 60)
      have Y4 := At.new U0 #[.pointer none, .int .i64 0, .int .i64 0, .int .i64 0, .int .i64 0, .int .i64 0, .int .i64 0, .int .i64 0, .int .i64 0, .slice none 0 0, .string ⟨#[]⟩] 60
      have hs6 : W2.heap.size ≤ U0.heap.size := Bl.size B0
      generalize U0.alloc (.cells #[.pointer none, .int .i64 0, .int .i64 0, .int .i64 0, .int .i64 0, .int .i64 0, .int .i64 0, .int .i64 0, .int .i64 0, .slice none 0 0, .string ⟨#[]⟩] 60) = U1 at *
      generalize U0.heap.size = b3 at *
      refine hK9.out _ _ (SK.out _ B2) (fun _ => ?_)
      clear hK9 K9
      try simp only [Act.put, List.setIfInBounds_toArray, List.set_cons_zero, List.set_cons_succ, List.getElem_toArray, List.getElem_cons_succ, List.getElem_cons_zero]
      refine wpAnyH_ready (rs := [7, 8]) (by kernel_rfl) (by simp) (AllReadyH.cons rfl (fun K9 hK9 => ?_) (AllReadyH.cons rfl (fun K9 hK9 => ?_) AllReadyH.nil))
      · go_simp
        refine (cC.out _ B2).mono ?_
        rintro e U5 ⟨AC, cC1, MC, rfl, oC, hC, g6⟩
        have B7 : Bl W2 U5 := Bl.trans B2 g6
        have Y8 := Y4.bl g6
        replace oC := oC.base (Nat.zero_le _)
        refine hK9.out _ _ (SK.out _ B7) (fun _ => ?_)
        clear hK9 K9
        try simp only [Act.put, List.setIfInBounds_toArray, List.set_cons_zero, List.set_cons_succ, List.getElem_toArray, List.getElem_cons_succ, List.getElem_cons_zero]
        refine wpAnyH_ready (rs := [8]) (by kernel_rfl) (by simp) (AllReadyH.cons rfl (fun K9 hK9 => ?_) AllReadyH.nil)
        go_simp
        have B10 : Bl W2 _ := Bl.alloc B7 (.cells #[.pointer none, .int .i64 0, .int .i64 0, .int .i64 0, .int .i64 0, .int .i64 0, .int .i64 0, .int .i64 0, .int .i64 0, .slice none 0 0, .string ⟨#[]⟩] 60)
        have Y12 := Y8.alloc (.cells #[.pointer none, .int .i64 0, .int .i64 0, .int .i64 0, .int .i64 0, .int .i64 0, .int .i64 0, .int .i64 0, .int .i64 0, .slice none 0 0, .string ⟨#[]⟩] 60)
        have Z13 := oC.bl ((Bl.refl _).alloc (.cells #[.pointer none, .int .i64 0, .int .i64 0, .int .i64 0, .int .i64 0, .int .i64 0, .int .i64 0, .int .i64 0, .int .i64 0, .slice none 0 0, .string ⟨#[]⟩] 60))
        have Y14 := At.new U5 #[.pointer none, .int .i64 0, .int .i64 0, .int .i64 0, .int .i64 0, .int .i64 0, .int .i64 0, .int .i64 0, .int .i64 0, .slice none 0 0, .string ⟨#[]⟩] 60
        have n15 : b3 ≠ U5.heap.size := Nat.ne_of_lt Y8.lt
        have hs5 : W2.heap.size ≤ U5.heap.size := Bl.size B7
        generalize U5.alloc (.cells #[.pointer none, .int .i64 0, .int .i64 0, .int .i64 0, .int .i64 0, .int .i64 0, .int .i64 0, .int .i64 0, .int .i64 0, .slice none 0 0, .string ⟨#[]⟩] 60) = U9 at *
        generalize U5.heap.size = b11 at *
        refine hK9.out _ _ (SK.out _ B10) (fun _ => ?_)
        clear hK9 K9
        try simp only [Act.put, List.setIfInBounds_toArray, List.set_cons_zero, List.set_cons_succ, List.getElem_toArray, List.getElem_cons_succ, List.getElem_cons_zero]
        refine wpAnyH_ready (rs := [10]) (by kernel_rfl) (by simp) (AllReadyH.cons rfl (fun K9 hK9 => ?_) AllReadyH.nil)
        refine step_store_row rfl 60 _ _ rfl b11 #[.pointer px, .int .i64 ax, .int .i64 ay, .int .i64 s, .int .i64 al, .int .i64 p, .int .i64 q, .int .i64 r, .int .i64 t, .slice AO nO cO, .string ⟨#[]⟩] rfl rfl _ _ Y14 (by kernel_rfl) rfl (by simp [Value.oneCell']) ?_
        have B17 : Bl W2 _ := Bl.srow B10 hs5 #[.pointer px, .int .i64 ax, .int .i64 ay, .int .i64 s, .int .i64 al, .int .i64 p, .int .i64 q, .int .i64 r, .int .i64 t, .slice AO nO cO, .string ⟨#[]⟩]
        have Y18 := Y12.kept (setRow_by _ b11 #[.pointer px, .int .i64 ax, .int .i64 ay, .int .i64 s, .int .i64 al, .int .i64 p, .int .i64 q, .int .i64 r, .int .i64 t, .slice AO nO cO, .string ⟨#[]⟩]) (by simpa using n15)
        have Y19 := Y14.setRow #[.pointer px, .int .i64 ax, .int .i64 ay, .int .i64 s, .int .i64 al, .int .i64 p, .int .i64 q, .int .i64 r, .int .i64 t, .slice AO nO cO, .string ⟨#[]⟩]
        have Z20 := Z13.grown (setRow_by _ b11 #[.pointer px, .int .i64 ax, .int .i64 ay, .int .i64 s, .int .i64 al, .int .i64 p, .int .i64 q, .int .i64 r, .int .i64 t, .slice AO nO cO, .string ⟨#[]⟩]) (.inr (Ne.symm (Z13.ne_at Y14 (by decide))))
        generalize U9.setRow b11 #[.pointer px, .int .i64 ax, .int .i64 ay, .int .i64 s, .int .i64 al, .int .i64 p, .int .i64 q, .int .i64 r, .int .i64 t, .slice AO nO cO, .string ⟨#[]⟩] = U16 at *
        refine hK9.out _ _ (SK.out _ B17) (fun _ => ?_)
        clear hK9 K9
        try simp only [Act.put, List.getElem_toArray, List.getElem_cons_succ, List.getElem_cons_zero]
        refine wpAnyH_ready (rs := [11]) (by kernel_rfl) (by simp) (AllReadyH.cons rfl (fun K9 hK9 => ?_) AllReadyH.nil)
        refine step_store_row rfl 60 _ _ rfl b3 #[.pointer pa, .int .i64 ax', .int .i64 ay', .int .i64 s', .int .i64 al', .int .i64 p', .int .i64 q', .int .i64 r', .int .i64 t', .slice AL nL cL, .string ⟨#[]⟩] rfl rfl _ _ Y18 (by kernel_rfl) rfl (by simp [Value.oneCell']) ?_
        have B22 : Bl W2 _ := Bl.srow B17 hs6 #[.pointer pa, .int .i64 ax', .int .i64 ay', .int .i64 s', .int .i64 al', .int .i64 p', .int .i64 q', .int .i64 r', .int .i64 t', .slice AL nL cL, .string ⟨#[]⟩]
        have Y23 := Y18.setRow #[.pointer pa, .int .i64 ax', .int .i64 ay', .int .i64 s', .int .i64 al', .int .i64 p', .int .i64 q', .int .i64 r', .int .i64 t', .slice AL nL cL, .string ⟨#[]⟩]
        have Y24 := Y19.kept (setRow_by _ b3 #[.pointer pa, .int .i64 ax', .int .i64 ay', .int .i64 s', .int .i64 al', .int .i64 p', .int .i64 q', .int .i64 r', .int .i64 t', .slice AL nL cL, .string ⟨#[]⟩]) (by simpa using (Ne.symm n15))
        have Z25 := Z20.grown (setRow_by _ b3 #[.pointer pa, .int .i64 ax', .int .i64 ay', .int .i64 s', .int .i64 al', .int .i64 p', .int .i64 q', .int .i64 r', .int .i64 t', .slice AL nL cL, .string ⟨#[]⟩]) (.inr (Ne.symm (Z20.ne_at Y18 (by decide))))
        generalize U16.setRow b3 #[.pointer pa, .int .i64 ax', .int .i64 ay', .int .i64 s', .int .i64 al', .int .i64 p', .int .i64 q', .int .i64 r', .int .i64 t', .slice AL nL cL, .string ⟨#[]⟩] = U21 at *
        refine hK9.out _ _ (SK.out _ B22) (fun _ => ?_)
        clear hK9 K9
        try simp only [Act.put, List.getElem_toArray, List.getElem_cons_succ, List.getElem_cons_zero]
        refine wpAnyH_take (i := 12) (v := ?_) rfl (by kernel_rfl) (by kernel_rfl) (by kernel_rfl) (fun _ _ _ h => h) (Or.inl ⟨by rfl, ?hy9⟩) (by assumption) ?rest9
        case hy9 => intro w' hSw; go_simp; (try with_reducible rfl)
        try simp only [Act.put, List.setIfInBounds_toArray, List.set_cons_zero, List.set_cons_succ, List.getElem_toArray, List.getElem_cons_succ, List.getElem_cons_zero]
        refine wpAnyH_done (by kernel_rfl) ?_ _
        exact REST2 _ _ _ _ _ _ Y24 Y23 (Ne.symm n15) hs5 hs6 Z25 hC B22
      · go_simp
        have B6 : Bl W2 _ := Bl.alloc B2 (.cells #[.pointer none, .int .i64 0, .int .i64 0, .int .i64 0, .int .i64 0, .int .i64 0, .int .i64 0, .int .i64 0, .int .i64 0, .slice none 0 0, .string ⟨#[]⟩] 60)
        have Y8 := Y4.alloc (.cells #[.pointer none, .int .i64 0, .int .i64 0, .int .i64 0, .int .i64 0, .int .i64 0, .int .i64 0, .int .i64 0, .int .i64 0, .slice none 0 0, .string ⟨#[]⟩] 60)
        have Y9 := At.new U1 #[.pointer none, .int .i64 0, .int .i64 0, .int .i64 0, .int .i64 0, .int .i64 0, .int .i64 0, .int .i64 0, .int .i64 0, .slice none 0 0, .string ⟨#[]⟩] 60
        have n10 : b3 ≠ U1.heap.size := Nat.ne_of_lt Y4.lt
        have hs5 : W2.heap.size ≤ U1.heap.size := Bl.size B2
        generalize U1.alloc (.cells #[.pointer none, .int .i64 0, .int .i64 0, .int .i64 0, .int .i64 0, .int .i64 0, .int .i64 0, .int .i64 0, .int .i64 0, .slice none 0 0, .string ⟨#[]⟩] 60) = U5 at *
        generalize U1.heap.size = b7 at *
        refine hK9.out _ _ (SK.out _ B6) (fun _ => ?_)
        clear hK9 K9
        try simp only [Act.put, List.setIfInBounds_toArray, List.set_cons_zero, List.set_cons_succ, List.getElem_toArray, List.getElem_cons_succ, List.getElem_cons_zero]
        refine wpAnyH_ready (rs := [7]) (by kernel_rfl) (by simp) (AllReadyH.cons rfl (fun K9 hK9 => ?_) AllReadyH.nil)
        go_simp
        refine (cC.out _ B6).mono ?_
        rintro e U11 ⟨AC, cC1, MC, rfl, oC, hC, g12⟩
        have B13 : Bl W2 U11 := Bl.trans B6 g12
        have Y14 := Y8.bl g12
        have Y15 := Y9.bl g12
        replace oC := oC.base (Nat.zero_le _)
        refine hK9.out _ _ (SK.out _ B13) (fun _ => ?_)
        clear hK9 K9
        try simp only [Act.put, List.setIfInBounds_toArray, List.set_cons_zero, List.set_cons_succ, List.getElem_toArray, List.getElem_cons_succ, List.getElem_cons_zero]
        refine wpAnyH_ready (rs := [10]) (by kernel_rfl) (by simp) (AllReadyH.cons rfl (fun K9 hK9 => ?_) AllReadyH.nil)
        refine step_store_row rfl 60 _ _ rfl b7 #[.pointer px, .int .i64 ax, .int .i64 ay, .int .i64 s, .int .i64 al, .int .i64 p, .int .i64 q, .int .i64 r, .int .i64 t, .slice AO nO cO, .string ⟨#[]⟩] rfl rfl _ _ Y15 (by kernel_rfl) rfl (by simp [Value.oneCell']) ?_
        have B17 : Bl W2 _ := Bl.srow B13 hs5 #[.pointer px, .int .i64 ax, .int .i64 ay, .int .i64 s, .int .i64 al, .int .i64 p, .int .i64 q, .int .i64 r, .int .i64 t, .slice AO nO cO, .string ⟨#[]⟩]
        have Y18 := Y14.kept (setRow_by _ b7 #[.pointer px, .int .i64 ax, .int .i64 ay, .int .i64 s, .int .i64 al, .int .i64 p, .int .i64 q, .int .i64 r, .int .i64 t, .slice AO nO cO, .string ⟨#[]⟩]) (by simpa using n10)
        have Y19 := Y15.setRow #[.pointer px, .int .i64 ax, .int .i64 ay, .int .i64 s, .int .i64 al, .int .i64 p, .int .i64 q, .int .i64 r, .int .i64 t, .slice AO nO cO, .string ⟨#[]⟩]
        have Z20 := oC.grown (setRow_by _ b7 #[.pointer px, .int .i64 ax, .int .i64 ay, .int .i64 s, .int .i64 al, .int .i64 p, .int .i64 q, .int .i64 r, .int .i64 t, .slice AO nO cO, .string ⟨#[]⟩]) (.inr (Ne.symm (oC.ne_at Y15 (by decide))))
        generalize U11.setRow b7 #[.pointer px, .int .i64 ax, .int .i64 ay, .int .i64 s, .int .i64 al, .int .i64 p, .int .i64 q, .int .i64 r, .int .i64 t, .slice AO nO cO, .string ⟨#[]⟩] = U16 at *
        refine hK9.out _ _ (SK.out _ B17) (fun _ => ?_)
        clear hK9 K9
        try simp only [Act.put, List.getElem_toArray, List.getElem_cons_succ, List.getElem_cons_zero]
        refine wpAnyH_ready (rs := [11]) (by kernel_rfl) (by simp) (AllReadyH.cons rfl (fun K9 hK9 => ?_) AllReadyH.nil)
        refine step_store_row rfl 60 _ _ rfl b3 #[.pointer pa, .int .i64 ax', .int .i64 ay', .int .i64 s', .int .i64 al', .int .i64 p', .int .i64 q', .int .i64 r', .int .i64 t', .slice AL nL cL, .string ⟨#[]⟩] rfl rfl _ _ Y18 (by kernel_rfl) rfl (by simp [Value.oneCell']) ?_
        have B22 : Bl W2 _ := Bl.srow B17 hs6 #[.pointer pa, .int .i64 ax', .int .i64 ay', .int .i64 s', .int .i64 al', .int .i64 p', .int .i64 q', .int .i64 r', .int .i64 t', .slice AL nL cL, .string ⟨#[]⟩]
        have Y23 := Y18.setRow #[.pointer pa, .int .i64 ax', .int .i64 ay', .int .i64 s', .int .i64 al', .int .i64 p', .int .i64 q', .int .i64 r', .int .i64 t', .slice AL nL cL, .string ⟨#[]⟩]
        have Y24 := Y19.kept (setRow_by _ b3 #[.pointer pa, .int .i64 ax', .int .i64 ay', .int .i64 s', .int .i64 al', .int .i64 p', .int .i64 q', .int .i64 r', .int .i64 t', .slice AL nL cL, .string ⟨#[]⟩]) (by simpa using (Ne.symm n10))
        have Z25 := Z20.grown (setRow_by _ b3 #[.pointer pa, .int .i64 ax', .int .i64 ay', .int .i64 s', .int .i64 al', .int .i64 p', .int .i64 q', .int .i64 r', .int .i64 t', .slice AL nL cL, .string ⟨#[]⟩]) (.inr (Ne.symm (Z20.ne_at Y18 (by decide))))
        generalize U16.setRow b3 #[.pointer pa, .int .i64 ax', .int .i64 ay', .int .i64 s', .int .i64 al', .int .i64 p', .int .i64 q', .int .i64 r', .int .i64 t', .slice AL nL cL, .string ⟨#[]⟩] = U21 at *
        refine hK9.out _ _ (SK.out _ B22) (fun _ => ?_)
        clear hK9 K9
        try simp only [Act.put, List.getElem_toArray, List.getElem_cons_succ, List.getElem_cons_zero]
        refine wpAnyH_take (i := 12) (v := ?_) rfl (by kernel_rfl) (by kernel_rfl) (by kernel_rfl) (fun _ _ _ h => h) (Or.inl ⟨by rfl, ?hy10⟩) (by assumption) ?rest10
        case hy10 => intro w' hSw; go_simp; (try with_reducible rfl)
        try simp only [Act.put, List.setIfInBounds_toArray, List.set_cons_zero, List.set_cons_succ, List.getElem_toArray, List.getElem_cons_succ, List.getElem_cons_zero]
        refine wpAnyH_done (by kernel_rfl) ?_ _
        exact REST2 _ _ _ _ _ _ Y24 Y23 (Ne.symm n10) hs5 hs6 Z25 hC B22

  replace hK := Lib.hid hK
  replace REST := Lib.hid REST
  have hd : pa = none ∨ ∃ a, pa = some a := by
    cases pa with
    | none => exact .inl rfl
    | some a => exact .inr ⟨a, rfl⟩
  rcases hd with rfl | ⟨a, rfl⟩
  · go_wp2
    exact REST.out _ _ _ _ _ _ _ _ (Bl.refl _)
  · go_wp2_with fail
    refine (sflayer1 _ _ _ _ _ _ _ _ _ _ _ _ _ _).mono ?_
    rintro e v1 ⟨rfl, g1⟩
    go_wp2_with fail
    refine (cM (by simp) _ (Kx.bl (G1.gr g1))).mono ?_
    rintro e v2 ⟨rfl, g2⟩
    go_wp2
    exact REST.out _ _ _ _ _ _ _ _ (g1.trans g2).bl

end Go.Proofs.YtablogiielclaaaGreat
