/-
  What is proved: what Good of the document's package of events hands back of any event. One condition: its numbers are ints.
-/
import Derived.Test.YthkbenhlhldglaaDoorDe
import Derived.Deep.CutBlock
import Derived.Deep.DeepCutAuto
namespace Go.Proofs.YthkbenhlhldglaaDoor
open Go.RowKit Go.Sort
attribute [local go_sem ↓] run_min2 run_max2
theorem at_setE {w : World} {b : Nat} {cs : Array Value} {t : TypeId} (h : At w b cs t) {p : Addr} (hp : b ≠ p.block) (u : Value) : At (w.setCell p u) b cs t := by
  unfold At at *
  rw [Below.heap_setCell _ _ _ _ hp]; exact h
theorem at23E {w : World} {b : Nat} {z0 z1 z2 z3 : Value} {t : TypeId} (h : At w b #[z0, z1, z2, z3] t) (u2 u3 : Value) : At ((w.setCell ⟨b, 2, none⟩ u2).setCell ⟨b, 3, none⟩ u3) b #[z0, z1, u2, u3] t := by
  have := (h.put 2 u2).put 3 u3
  unfold At at *
  simpa using this
theorem at2E {w : World} {b : Nat} {z0 z1 z2 z3 : Value} {t : TypeId} (h : At w b #[z0, z1, z2, z3] t) (u2 : Value) : At (w.setCell ⟨b, 2, none⟩ u2) b #[z0, z1, u2, z3] t := by
  have := h.put 2 u2
  unfold At at *
  simpa using this
theorem good_ret {Z : Ending → World → Prop} {tm : Array Value} (VI : World) {b : Nat} {z0 z1 z2 z3 : Value} {t : TypeId} (n I RA RB : Int) (h2 : tm.getD 2 undef = .pointer (some ⟨b, 0, none⟩)) (hX : At VI b #[z0, z1, z2, z3] t)
    (hz : Z (.returned (.agg #[.int .i64 n, .int .i64 I, .int .i64 RA, .int .i64 RB])) ((((VI.setCell ⟨b, 0, none⟩ (.int .i64 n)).setCell ⟨b, 1, none⟩ (.int .i64 I)).setCell ⟨b, 2, none⟩ (.int .i64 RA)).setCell ⟨b, 3, none⟩ (.int .i64 RB))) :
    bodyPost Tryd.prog Tryd.f27 Z Exit.ret ⟨tm, []⟩ ((((VI.setCell ⟨b, 0, none⟩ (.int .i64 n)).setCell ⟨b, 1, none⟩ (.int .i64 I)).setCell ⟨b, 2, none⟩ (.int .i64 RA)).setCell ⟨b, 3, none⟩ (.int .i64 RB)) := by
  simp only [Array.getD_eq_getD_getElem?] at h2
  have Y := hX.put4 (.int .i64 n) (.int .i64 I) (.int .i64 RA) (.int .i64 RB)
  generalize ((((VI.setCell ⟨b, 0, none⟩ (.int .i64 n)).setCell ⟨b, 1, none⟩ (.int .i64 I)).setCell ⟨b, 2, none⟩ (.int .i64 RA)).setCell ⟨b, 3, none⟩ (.int .i64 RB)) = VV at *
  have d0 : VV.cell? ⟨b, 0, none⟩ = some (.int .i64 n) := (Y.cell 0).trans rfl
  have d1 : VV.cell? ⟨b, 1, none⟩ = some (.int .i64 I) := (Y.cell 1).trans rfl
  have d2 : VV.cell? ⟨b, 2, none⟩ = some (.int .i64 RA) := (Y.cell 2).trans rfl
  have d3 : VV.cell? ⟨b, 3, none⟩ = some (.int .i64 RB) := (Y.cell 3).trans rfl
  exact bodyPost_ret (v := .agg #[.int .i64 n, .int .i64 I, .int .i64 RA, .int .i64 RB]) (by simp [results, Tryd.results27, go_sem, h2, d0, d1, d2, d3]) rfl hz
set_option maxRecDepth 100000 in
set_option maxHeartbeats 2000000 in
theorem goodE1 (e : Ev) (w : World) (hi : I64e e) : Calls Tryd.prog 27 #[vE e] w (fun x w' => x = .returned (vE (goodE e)) ∧ Bl w w') := by
  have k1 := ab_tmod e.k 6 (by omega)
  have i1 := ab_tmod e.id 4294967296 (by omega)
  have a1 := ab_tmod e.a 2147483648 (by omega)
  have b1 := ab_tmod e.b 2147483648 (by omega)
  change 0 ≤ ab (e.k.tmod 6) ∧ ab (e.k.tmod 6) < 6 at k1
  change 0 ≤ ab (e.id.tmod 4294967296) ∧ ab (e.id.tmod 4294967296) < 4294967296 at i1
  change 0 ≤ ab (e.a.tmod 2147483648) ∧ ab (e.a.tmod 2147483648) < 2147483648 at a1
  change 0 ≤ ab (e.b.tmod 2147483648) ∧ ab (e.b.tmod 2147483648) < 2147483648 at b1
  have hg : ∀ K I A B : Int, ab (e.k.tmod 6) = K → ab (e.id.tmod 4294967296) = I → e.a.tmod 2147483648 = A → e.b.tmod 2147483648 = B → goodE e = ⟨K, I, if K = 4 then (if K = 2 ∨ K = 5 then 0 else A) else if K < 2 then 1 + (ab (if K = 2 ∨ K = 5 then 0 else A)).tmod 12 else ab (if K = 2 ∨ K = 5 then 0 else A), if K = 4 then (if K = 1 ∨ K = 2 ∨ K = 5 then 0 else B) else if K < 2 then (ab (if K = 1 ∨ K = 2 ∨ K = 5 then 0 else B)).tmod 256 else ab (if K = 1 ∨ K = 2 ∨ K = 5 then 0 else B)⟩ := by
    intro K I A B h1 h2 h3 h4
    subst h1 h2 h3 h4
    rfl
  have hg' := hg _ _ _ _ rfl rfl rfl rfl
  clear hg
  rw [hg']
  clear hg'
  obtain ⟨k, id, a, b⟩ := e
  unfold vE
  dsimp only at *
  have cF := fun (n : Nat) (h : n < 6) V => formE1 n h V
  have hK : ∃ n : Nat, n < 6 ∧ ab (k.tmod 6) = n := ⟨(ab (k.tmod 6)).toNat, by omega, by omega⟩
  obtain ⟨n, hn, hK⟩ := hK
  rw [hK]
  obtain ⟨I, hI⟩ : ∃ I, I = ab (id.tmod 4294967296) := ⟨_, rfl⟩
  obtain ⟨A, hA⟩ : ∃ A, A = a.tmod 2147483648 := ⟨_, rfl⟩
  obtain ⟨B, hB⟩ : ∃ B, B = b.tmod 2147483648 := ⟨_, rfl⟩
  rw [← hI, ← hA, ← hB]
  rw [← hA] at a1
  rw [← hB] at b1
  rw [← hI] at i1
  have hK' : max (k.tmod 6) (-k.tmod 6) = n := hK
  have hI' : max (id.tmod 4294967296) (-id.tmod 4294967296) = I := hI.symm
  clear k1 hi hK
  have sA : -2147483648 < A ∧ A < 2147483648 := by unfold ab at a1; omega
  have sB : -2147483648 < B ∧ B < 2147483648 := by unfold ab at b1; omega
  obtain ⟨sA0, sA1⟩ := sA
  obtain ⟨sB0, sB1⟩ := sB
  obtain ⟨RA, hRA⟩ : ∃ R, R = (if (n : Int) = 4 then (if (n : Int) = 2 ∨ (n : Int) = 5 then 0 else A) else if (n : Int) < 2 then 1 + (ab (if (n : Int) = 2 ∨ (n : Int) = 5 then 0 else A)).tmod 12 else ab (if (n : Int) = 2 ∨ (n : Int) = 5 then 0 else A)) := ⟨_, rfl⟩
  obtain ⟨RB, hRB⟩ : ∃ R, R = (if (n : Int) = 4 then (if (n : Int) = 1 ∨ (n : Int) = 2 ∨ (n : Int) = 5 then 0 else B) else if (n : Int) < 2 then (ab (if (n : Int) = 1 ∨ (n : Int) = 2 ∨ (n : Int) = 5 then 0 else B)).tmod 256 else ab (if (n : Int) = 1 ∨ (n : Int) = 2 ∨ (n : Int) = 5 then 0 else B)) := ⟨_, rfl⟩
  rw [← hRA, ← hRB]
  obtain ⟨MA, hMA⟩ : ∃ M, ab A = M := ⟨_, rfl⟩
  obtain ⟨MB, hMB⟩ : ∃ M, ab B = M := ⟨_, rfl⟩
  obtain ⟨TA, hTA⟩ : ∃ M, MA.tmod 12 = M := ⟨_, rfl⟩
  obtain ⟨TB, hTB⟩ : ∃ M, MB.tmod 256 = M := ⟨_, rfl⟩
  rw [hMA] at a1
  rw [hMB] at b1
  have tA := tmod_nn a1.1 12 (by omega)
  have tB := tmod_nn b1.1 256 (by omega)
  rw [hTA] at tA
  rw [hTB] at tB
  obtain ⟨a2, a3⟩ := a1
  obtain ⟨b2, b3⟩ := b1
  obtain ⟨i2, i3⟩ := i1
  obtain ⟨tA0, tA1⟩ := tA
  obtain ⟨tB0, tB1⟩ := tB
  have z0 : ab 0 = 0 := rfl
  replace hRA := Lib.hid hRA
  replace hRB := Lib.hid hRB
  replace hMA := Lib.hid hMA
  replace hMB := Lib.hid hMB
  replace hTA := Lib.hid hTA
  replace hTB := Lib.hid hTB
  have G3 : Bl w (((w.alloc (.cells #[.int .i64 k, .int .i64 id, .int .i64 a, .int .i64 b] 62)).alloc (.cells #[.int .i64 0, .int .i64 0, .int .i64 0, .int .i64 0] 62)).alloc (.cells #[.int .i64 n, .int .i64 I, .int .i64 0, .int .i64 0] 62)) := (((Bl.refl w).alloc _).alloc _).alloc _
  have X0 := ((At.new w #[.int .i64 k, .int .i64 id, .int .i64 a, .int .i64 b] 62).alloc (.cells #[.int .i64 0, .int .i64 0, .int .i64 0, .int .i64 0] 62)).alloc (.cells #[.int .i64 n, .int .i64 I, .int .i64 0, .int .i64 0] 62)
  have X1 := (At.newAt (w := w.alloc (.cells #[.int .i64 k, .int .i64 id, .int .i64 a, .int .i64 b] 62)) (n := w.heap.size + 1) (by simp) #[.int .i64 0, .int .i64 0, .int .i64 0, .int .i64 0] 62).alloc (.cells #[.int .i64 n, .int .i64 I, .int .i64 0, .int .i64 0] 62)
  have X2 := At.newAt (w := (w.alloc (.cells #[.int .i64 k, .int .i64 id, .int .i64 a, .int .i64 b] 62)).alloc (.cells #[.int .i64 0, .int .i64 0, .int .i64 0, .int .i64 0] 62)) (n := w.heap.size + 1 + 1) (by simp) #[.int .i64 n, .int .i64 I, .int .i64 0, .int .i64 0] 62
  replace hA := Lib.hid hA
  replace hB := Lib.hid hB
  replace hI := Lib.hid hI
  go_enter Tryd.func27, Tryd.ntmps27
  go_wp2_with fail
  refine (cF n hn _).mono ?_
  rintro e w1 ⟨rfl, g1⟩
  replace X0 := X0.gr g1
  replace X1 := X1.gr g1
  replace X2 := X2.gr g1
  replace G3 := G3.gr g1
  have hA' : a.tmod 2147483648 = A := hA.out.symm
  have hB' : b.tmod 2147483648 = B := hB.out.symm
  clear hK' hI' hA hB hI z0
  have cont : ∀ V, Bl w V → (V.cell? ⟨w.heap.size + 1, 0, none⟩ = some (.int .i64 n)) → (V.cell? ⟨w.heap.size + 1, 1, none⟩ = some (.int .i64 I)) → (V.cell? ⟨w.heap.size + 1, 2, none⟩ = some (.int .i64 RA)) → (V.cell? ⟨w.heap.size + 1, 3, none⟩ = some (.int .i64 RB)) → True := fun _ _ _ _ _ _ => trivial
  clear cont
  rcases six hn with rfl | rfl | rfl | rfl | rfl | rfl
  case inl =>
    have hra : RA = 1 + TA := by rw [hRA.out, ← hTA.out, ← hMA.out]; rfl
    have hrb : RB = TB := by rw [hRB.out, ← hTB.out, ← hMB.out]; rfl
    replace hra := Lib.hid hra
    replace hrb := Lib.hid hrb
    have hma : max A (-A) = MA := hMA.out
    have hmb : max B (-B) = MB := hMB.out
    have hta := hTA.out
    have htb := hTB.out
    clear hRA hRB hMA hMB hTA hTB
    generalize hF : efS 0 = F at *
    have hs : (F.size : Int) = 2 := by rw [← hF]; rfl
    clear hF
    have p0 : w1.cell? ⟨w.heap.size, 2, none⟩ = some (.int .i64 a) := X0.cell 2
    have p1 : w1.cell? ⟨w.heap.size, 3, none⟩ = some (.int .i64 b) := X0.cell 3
    obtain ⟨q0, q1, q2, q3⟩ := cells4E X1
    obtain ⟨r0, r1, r2, r3⟩ := cells4E X2
    have e0 := X1.free 0
    have e1 := X1.free 1
    have e2 := X1.free 2
    have e3 := X1.free 3
    have h2 := X2.free 2
    have h3 := X2.free 3
    go_upto_region 11 with fail
    clear p0 p1 q0 q1 q2 q3 r0 r1 r2 r3 e0 e1 e2 e3 h2 h3
    replace X0 := at_setE (at_setE X0 (p := ⟨w.heap.size + 1 + 1, 2, none⟩) (by simp <;> omega) (.int .i64 A)) (p := ⟨w.heap.size + 1 + 1, 3, none⟩) (by simp <;> omega) (.int .i64 B)
    replace X1 := at_setE (at_setE X1 (p := ⟨w.heap.size + 1 + 1, 2, none⟩) (by simp <;> omega) (.int .i64 A)) (p := ⟨w.heap.size + 1 + 1, 3, none⟩) (by simp <;> omega) (.int .i64 B)
    replace X2 := at23E X2 (.int .i64 A) (.int .i64 B)
    replace G3 := (G3.setCell (p := ⟨w.heap.size + 1 + 1, 2, none⟩) (by simp; try omega) (.int .i64 A)).setCell (p := ⟨w.heap.size + 1 + 1, 3, none⟩) (by simp; try omega) (.int .i64 B)
    generalize (w1.setCell ⟨w.heap.size + 1 + 1, 2, none⟩ (.int .i64 A)).setCell ⟨w.heap.size + 1 + 1, 3, none⟩ (.int .i64 B) = w2 at *
    have p0 : w2.cell? ⟨w.heap.size, 2, none⟩ = some (.int .i64 a) := X0.cell 2
    have p1 : w2.cell? ⟨w.heap.size, 3, none⟩ = some (.int .i64 b) := X0.cell 3
    obtain ⟨q0, q1, q2, q3⟩ := cells4E X1
    obtain ⟨r0, r1, r2, r3⟩ := cells4E X2
    have e0 := X1.free 0
    have e1 := X1.free 1
    have e2 := X1.free 2
    have e3 := X1.free 3
    have h2 := X2.free 2
    have h3 := X2.free 3
    go_upto_region 14 with fail
    clear p0 p1 q0 q1 q2 q3 r0 r1 r2 r3 e0 e1 e2 e3 h2 h3
    replace X0 := at_setE (at_setE X0 (p := ⟨w.heap.size + 1 + 1, 2, none⟩) (by simp <;> omega) (.int .i64 MA)) (p := ⟨w.heap.size + 1 + 1, 3, none⟩) (by simp <;> omega) (.int .i64 MB)
    replace X1 := at_setE (at_setE X1 (p := ⟨w.heap.size + 1 + 1, 2, none⟩) (by simp <;> omega) (.int .i64 MA)) (p := ⟨w.heap.size + 1 + 1, 3, none⟩) (by simp <;> omega) (.int .i64 MB)
    replace X2 := at23E X2 (.int .i64 MA) (.int .i64 MB)
    replace G3 := (G3.setCell (p := ⟨w.heap.size + 1 + 1, 2, none⟩) (by simp; try omega) (.int .i64 MA)).setCell (p := ⟨w.heap.size + 1 + 1, 3, none⟩) (by simp; try omega) (.int .i64 MB)
    generalize (w2.setCell ⟨w.heap.size + 1 + 1, 2, none⟩ (.int .i64 MA)).setCell ⟨w.heap.size + 1 + 1, 3, none⟩ (.int .i64 MB) = w3 at *
    have p0 : w3.cell? ⟨w.heap.size, 2, none⟩ = some (.int .i64 a) := X0.cell 2
    have p1 : w3.cell? ⟨w.heap.size, 3, none⟩ = some (.int .i64 b) := X0.cell 3
    obtain ⟨q0, q1, q2, q3⟩ := cells4E X1
    obtain ⟨r0, r1, r2, r3⟩ := cells4E X2
    have e0 := X1.free 0
    have e1 := X1.free 1
    have e2 := X1.free 2
    have e3 := X1.free 3
    have h2 := X2.free 2
    have h3 := X2.free 3
    go_wp2
    refine good_ret _ 0 I (1 + TA) (TB) rfl (at_setE (at_setE X1 (p := ⟨w.heap.size + 1 + 1, 2, none⟩) (by simp <;> omega) (.int .i64 (1 + TA))) (p := ⟨w.heap.size + 1 + 1, 3, none⟩) (by simp <;> omega) (.int .i64 (TB))) ?_
    exact ⟨by rw [hra.out, hrb.out]; rfl, by repeat (first | with_reducible exact G3 | refine Bl.setCell ?_ (by simp; try omega) _)⟩
  case inr.inl =>
    have hra : RA = 1 + TA := by rw [hRA.out, ← hTA.out, ← hMA.out]; rfl
    have hrb : RB = 0 := by rw [hRB.out]; rfl
    replace hra := Lib.hid hra
    replace hrb := Lib.hid hrb
    have hma : max A (-A) = MA := hMA.out
    have hmb : max B (-B) = MB := hMB.out
    have hta := hTA.out
    have htb := hTB.out
    clear hRA hRB hMA hMB hTA hTB
    generalize hF : efS 1 = F at *
    have hs : (F.size : Int) = 1 := by rw [← hF]; rfl
    clear hF
    have p0 : w1.cell? ⟨w.heap.size, 2, none⟩ = some (.int .i64 a) := X0.cell 2
    have p1 : w1.cell? ⟨w.heap.size, 3, none⟩ = some (.int .i64 b) := X0.cell 3
    obtain ⟨q0, q1, q2, q3⟩ := cells4E X1
    obtain ⟨r0, r1, r2, r3⟩ := cells4E X2
    have e0 := X1.free 0
    have e1 := X1.free 1
    have e2 := X1.free 2
    have e3 := X1.free 3
    have h2 := X2.free 2
    have h3 := X2.free 3
    go_upto_region 11 with fail
    clear p0 p1 q0 q1 q2 q3 r0 r1 r2 r3 e0 e1 e2 e3 h2 h3
    replace X0 := at_setE X0 (p := ⟨w.heap.size + 1 + 1, 2, none⟩) (by simp <;> omega) (.int .i64 A)
    replace X1 := at_setE X1 (p := ⟨w.heap.size + 1 + 1, 2, none⟩) (by simp <;> omega) (.int .i64 A)
    replace X2 := at2E X2 (.int .i64 A)
    replace G3 := G3.setCell (p := ⟨w.heap.size + 1 + 1, 2, none⟩) (by simp; try omega) (.int .i64 A)
    generalize w1.setCell ⟨w.heap.size + 1 + 1, 2, none⟩ (.int .i64 A) = w2 at *
    have p0 : w2.cell? ⟨w.heap.size, 2, none⟩ = some (.int .i64 a) := X0.cell 2
    have p1 : w2.cell? ⟨w.heap.size, 3, none⟩ = some (.int .i64 b) := X0.cell 3
    obtain ⟨q0, q1, q2, q3⟩ := cells4E X1
    obtain ⟨r0, r1, r2, r3⟩ := cells4E X2
    have e0 := X1.free 0
    have e1 := X1.free 1
    have e2 := X1.free 2
    have e3 := X1.free 3
    have h2 := X2.free 2
    have h3 := X2.free 3
    go_upto_region 14 with fail
    clear p0 p1 q0 q1 q2 q3 r0 r1 r2 r3 e0 e1 e2 e3 h2 h3
    replace X0 := at_setE (at_setE X0 (p := ⟨w.heap.size + 1 + 1, 2, none⟩) (by simp <;> omega) (.int .i64 MA)) (p := ⟨w.heap.size + 1 + 1, 3, none⟩) (by simp <;> omega) (.int .i64 0)
    replace X1 := at_setE (at_setE X1 (p := ⟨w.heap.size + 1 + 1, 2, none⟩) (by simp <;> omega) (.int .i64 MA)) (p := ⟨w.heap.size + 1 + 1, 3, none⟩) (by simp <;> omega) (.int .i64 0)
    replace X2 := at23E X2 (.int .i64 MA) (.int .i64 0)
    replace G3 := (G3.setCell (p := ⟨w.heap.size + 1 + 1, 2, none⟩) (by simp; try omega) (.int .i64 MA)).setCell (p := ⟨w.heap.size + 1 + 1, 3, none⟩) (by simp; try omega) (.int .i64 0)
    generalize (w2.setCell ⟨w.heap.size + 1 + 1, 2, none⟩ (.int .i64 MA)).setCell ⟨w.heap.size + 1 + 1, 3, none⟩ (.int .i64 0) = w3 at *
    have p0 : w3.cell? ⟨w.heap.size, 2, none⟩ = some (.int .i64 a) := X0.cell 2
    have p1 : w3.cell? ⟨w.heap.size, 3, none⟩ = some (.int .i64 b) := X0.cell 3
    obtain ⟨q0, q1, q2, q3⟩ := cells4E X1
    obtain ⟨r0, r1, r2, r3⟩ := cells4E X2
    have e0 := X1.free 0
    have e1 := X1.free 1
    have e2 := X1.free 2
    have e3 := X1.free 3
    have h2 := X2.free 2
    have h3 := X2.free 3
    go_wp2
    refine good_ret _ 1 I (1 + TA) (0) rfl (at_setE (at_setE X1 (p := ⟨w.heap.size + 1 + 1, 2, none⟩) (by simp <;> omega) (.int .i64 (1 + TA))) (p := ⟨w.heap.size + 1 + 1, 3, none⟩) (by simp <;> omega) (.int .i64 (0))) ?_
    exact ⟨by rw [hra.out, hrb.out]; rfl, by repeat (first | with_reducible exact G3 | refine Bl.setCell ?_ (by simp; try omega) _)⟩
  case inr.inr.inl =>
    have hra : RA = 0 := by rw [hRA.out]; rfl
    have hrb : RB = 0 := by rw [hRB.out]; rfl
    replace hra := Lib.hid hra
    replace hrb := Lib.hid hrb
    have hma : max A (-A) = MA := hMA.out
    have hmb : max B (-B) = MB := hMB.out
    have hta := hTA.out
    have htb := hTB.out
    clear hRA hRB hMA hMB hTA hTB
    generalize hF : efS 2 = F at *
    have hs : (F.size : Int) = 0 := by rw [← hF]; rfl
    clear hF
    have p0 : w1.cell? ⟨w.heap.size, 2, none⟩ = some (.int .i64 a) := X0.cell 2
    have p1 : w1.cell? ⟨w.heap.size, 3, none⟩ = some (.int .i64 b) := X0.cell 3
    obtain ⟨q0, q1, q2, q3⟩ := cells4E X1
    obtain ⟨r0, r1, r2, r3⟩ := cells4E X2
    have e0 := X1.free 0
    have e1 := X1.free 1
    have e2 := X1.free 2
    have e3 := X1.free 3
    have h2 := X2.free 2
    have h3 := X2.free 3
    go_wp2
    refine good_ret _ 2 I (0) (0) rfl (at_setE (at_setE X1 (p := ⟨w.heap.size + 1 + 1, 2, none⟩) (by simp <;> omega) (.int .i64 (0))) (p := ⟨w.heap.size + 1 + 1, 3, none⟩) (by simp <;> omega) (.int .i64 (0))) ?_
    exact ⟨by rw [hra.out, hrb.out]; rfl, by repeat (first | with_reducible exact G3 | refine Bl.setCell ?_ (by simp; try omega) _)⟩
  case inr.inr.inr.inl =>
    have hra : RA = MA := by rw [hRA.out, ← hMA.out]; rfl
    have hrb : RB = MB := by rw [hRB.out, ← hMB.out]; rfl
    replace hra := Lib.hid hra
    replace hrb := Lib.hid hrb
    have hma : max A (-A) = MA := hMA.out
    have hmb : max B (-B) = MB := hMB.out
    have hta := hTA.out
    have htb := hTB.out
    clear hRA hRB hMA hMB hTA hTB
    generalize hF : efS 3 = F at *
    have hs : (F.size : Int) = 2 := by rw [← hF]; rfl
    clear hF
    have p0 : w1.cell? ⟨w.heap.size, 2, none⟩ = some (.int .i64 a) := X0.cell 2
    have p1 : w1.cell? ⟨w.heap.size, 3, none⟩ = some (.int .i64 b) := X0.cell 3
    obtain ⟨q0, q1, q2, q3⟩ := cells4E X1
    obtain ⟨r0, r1, r2, r3⟩ := cells4E X2
    have e0 := X1.free 0
    have e1 := X1.free 1
    have e2 := X1.free 2
    have e3 := X1.free 3
    have h2 := X2.free 2
    have h3 := X2.free 3
    go_upto_region 11 with fail
    clear p0 p1 q0 q1 q2 q3 r0 r1 r2 r3 e0 e1 e2 e3 h2 h3
    replace X0 := at_setE (at_setE X0 (p := ⟨w.heap.size + 1 + 1, 2, none⟩) (by simp <;> omega) (.int .i64 A)) (p := ⟨w.heap.size + 1 + 1, 3, none⟩) (by simp <;> omega) (.int .i64 B)
    replace X1 := at_setE (at_setE X1 (p := ⟨w.heap.size + 1 + 1, 2, none⟩) (by simp <;> omega) (.int .i64 A)) (p := ⟨w.heap.size + 1 + 1, 3, none⟩) (by simp <;> omega) (.int .i64 B)
    replace X2 := at23E X2 (.int .i64 A) (.int .i64 B)
    replace G3 := (G3.setCell (p := ⟨w.heap.size + 1 + 1, 2, none⟩) (by simp; try omega) (.int .i64 A)).setCell (p := ⟨w.heap.size + 1 + 1, 3, none⟩) (by simp; try omega) (.int .i64 B)
    generalize (w1.setCell ⟨w.heap.size + 1 + 1, 2, none⟩ (.int .i64 A)).setCell ⟨w.heap.size + 1 + 1, 3, none⟩ (.int .i64 B) = w2 at *
    have p0 : w2.cell? ⟨w.heap.size, 2, none⟩ = some (.int .i64 a) := X0.cell 2
    have p1 : w2.cell? ⟨w.heap.size, 3, none⟩ = some (.int .i64 b) := X0.cell 3
    obtain ⟨q0, q1, q2, q3⟩ := cells4E X1
    obtain ⟨r0, r1, r2, r3⟩ := cells4E X2
    have e0 := X1.free 0
    have e1 := X1.free 1
    have e2 := X1.free 2
    have e3 := X1.free 3
    have h2 := X2.free 2
    have h3 := X2.free 3
    go_upto_region 14 with fail
    clear p0 p1 q0 q1 q2 q3 r0 r1 r2 r3 e0 e1 e2 e3 h2 h3
    replace X0 := at_setE (at_setE X0 (p := ⟨w.heap.size + 1 + 1, 2, none⟩) (by simp <;> omega) (.int .i64 MA)) (p := ⟨w.heap.size + 1 + 1, 3, none⟩) (by simp <;> omega) (.int .i64 MB)
    replace X1 := at_setE (at_setE X1 (p := ⟨w.heap.size + 1 + 1, 2, none⟩) (by simp <;> omega) (.int .i64 MA)) (p := ⟨w.heap.size + 1 + 1, 3, none⟩) (by simp <;> omega) (.int .i64 MB)
    replace X2 := at23E X2 (.int .i64 MA) (.int .i64 MB)
    replace G3 := (G3.setCell (p := ⟨w.heap.size + 1 + 1, 2, none⟩) (by simp; try omega) (.int .i64 MA)).setCell (p := ⟨w.heap.size + 1 + 1, 3, none⟩) (by simp; try omega) (.int .i64 MB)
    generalize (w2.setCell ⟨w.heap.size + 1 + 1, 2, none⟩ (.int .i64 MA)).setCell ⟨w.heap.size + 1 + 1, 3, none⟩ (.int .i64 MB) = w3 at *
    have p0 : w3.cell? ⟨w.heap.size, 2, none⟩ = some (.int .i64 a) := X0.cell 2
    have p1 : w3.cell? ⟨w.heap.size, 3, none⟩ = some (.int .i64 b) := X0.cell 3
    obtain ⟨q0, q1, q2, q3⟩ := cells4E X1
    obtain ⟨r0, r1, r2, r3⟩ := cells4E X2
    have e0 := X1.free 0
    have e1 := X1.free 1
    have e2 := X1.free 2
    have e3 := X1.free 3
    have h2 := X2.free 2
    have h3 := X2.free 3
    go_wp2
    refine good_ret _ 3 I (MA) (MB) rfl X1 ?_
    exact ⟨by rw [hra.out, hrb.out]; rfl, by repeat (first | with_reducible exact G3 | refine Bl.setCell ?_ (by simp; try omega) _)⟩
  case inr.inr.inr.inr.inl =>
    have hra : RA = A := by rw [hRA.out]; rfl
    have hrb : RB = B := by rw [hRB.out]; rfl
    replace hra := Lib.hid hra
    replace hrb := Lib.hid hrb
    have hma : max A (-A) = MA := hMA.out
    have hmb : max B (-B) = MB := hMB.out
    have hta := hTA.out
    have htb := hTB.out
    clear hRA hRB hMA hMB hTA hTB
    generalize hF : efS 4 = F at *
    have hs : (F.size : Int) = 2 := by rw [← hF]; rfl
    clear hF
    have p0 : w1.cell? ⟨w.heap.size, 2, none⟩ = some (.int .i64 a) := X0.cell 2
    have p1 : w1.cell? ⟨w.heap.size, 3, none⟩ = some (.int .i64 b) := X0.cell 3
    obtain ⟨q0, q1, q2, q3⟩ := cells4E X1
    obtain ⟨r0, r1, r2, r3⟩ := cells4E X2
    have e0 := X1.free 0
    have e1 := X1.free 1
    have e2 := X1.free 2
    have e3 := X1.free 3
    have h2 := X2.free 2
    have h3 := X2.free 3
    go_upto_region 11 with fail
    clear p0 p1 q0 q1 q2 q3 r0 r1 r2 r3 e0 e1 e2 e3 h2 h3
    replace X0 := at_setE (at_setE X0 (p := ⟨w.heap.size + 1 + 1, 2, none⟩) (by simp <;> omega) (.int .i64 A)) (p := ⟨w.heap.size + 1 + 1, 3, none⟩) (by simp <;> omega) (.int .i64 B)
    replace X1 := at_setE (at_setE X1 (p := ⟨w.heap.size + 1 + 1, 2, none⟩) (by simp <;> omega) (.int .i64 A)) (p := ⟨w.heap.size + 1 + 1, 3, none⟩) (by simp <;> omega) (.int .i64 B)
    replace X2 := at23E X2 (.int .i64 A) (.int .i64 B)
    replace G3 := (G3.setCell (p := ⟨w.heap.size + 1 + 1, 2, none⟩) (by simp; try omega) (.int .i64 A)).setCell (p := ⟨w.heap.size + 1 + 1, 3, none⟩) (by simp; try omega) (.int .i64 B)
    generalize (w1.setCell ⟨w.heap.size + 1 + 1, 2, none⟩ (.int .i64 A)).setCell ⟨w.heap.size + 1 + 1, 3, none⟩ (.int .i64 B) = w2 at *
    have p0 : w2.cell? ⟨w.heap.size, 2, none⟩ = some (.int .i64 a) := X0.cell 2
    have p1 : w2.cell? ⟨w.heap.size, 3, none⟩ = some (.int .i64 b) := X0.cell 3
    obtain ⟨q0, q1, q2, q3⟩ := cells4E X1
    obtain ⟨r0, r1, r2, r3⟩ := cells4E X2
    have e0 := X1.free 0
    have e1 := X1.free 1
    have e2 := X1.free 2
    have e3 := X1.free 3
    have h2 := X2.free 2
    have h3 := X2.free 3
    go_wp2
    refine good_ret _ 4 I (A) (B) rfl X1 ?_
    exact ⟨by rw [hra.out, hrb.out]; rfl, by repeat (first | with_reducible exact G3 | refine Bl.setCell ?_ (by simp; try omega) _)⟩
  case inr.inr.inr.inr.inr =>
    have hra : RA = 0 := by rw [hRA.out]; rfl
    have hrb : RB = 0 := by rw [hRB.out]; rfl
    replace hra := Lib.hid hra
    replace hrb := Lib.hid hrb
    have hma : max A (-A) = MA := hMA.out
    have hmb : max B (-B) = MB := hMB.out
    have hta := hTA.out
    have htb := hTB.out
    clear hRA hRB hMA hMB hTA hTB
    generalize hF : efS 5 = F at *
    have hs : (F.size : Int) = 0 := by rw [← hF]; rfl
    clear hF
    have p0 : w1.cell? ⟨w.heap.size, 2, none⟩ = some (.int .i64 a) := X0.cell 2
    have p1 : w1.cell? ⟨w.heap.size, 3, none⟩ = some (.int .i64 b) := X0.cell 3
    obtain ⟨q0, q1, q2, q3⟩ := cells4E X1
    obtain ⟨r0, r1, r2, r3⟩ := cells4E X2
    have e0 := X1.free 0
    have e1 := X1.free 1
    have e2 := X1.free 2
    have e3 := X1.free 3
    have h2 := X2.free 2
    have h3 := X2.free 3
    go_wp2
    refine good_ret _ 5 I (0) (0) rfl (at_setE (at_setE X1 (p := ⟨w.heap.size + 1 + 1, 2, none⟩) (by simp <;> omega) (.int .i64 (0))) (p := ⟨w.heap.size + 1 + 1, 3, none⟩) (by simp <;> omega) (.int .i64 (0))) ?_
    exact ⟨by rw [hra.out, hrb.out]; rfl, by repeat (first | with_reducible exact G3 | refine Bl.setCell ?_ (by simp; try omega) _)⟩

end Go.Proofs.YthkbenhlhldglaaDoor
