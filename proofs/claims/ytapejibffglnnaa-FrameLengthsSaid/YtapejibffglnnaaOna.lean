/-
  What is proved: the statement FrameLengths: a message has as many bytes as its body, and seven; these say so. No conditions.
-/
import Derived.Test.YtapejibffglnnaaOe
import Derived.Test.YtapejibffglnnaaOh
import Derived.Test.YtapejibffglnnaaOm
import Derived.Test.YtapejibffglnnaaOg
import Derived.Deep.RegionHeld3
import Derived.Lib.QuietBelow
import Derived.Deep.RegionLaw
namespace Go.Proofs.Ytapejibffglnnaa
open Go.ChangeShapes Go.WideShapes Go.ChangeAt Go.RowKit Go.Joins Go.Sort
attribute [local go_sem ↓] run_min2 run_max2

theorem makeZ (n : Nat) (h : n ≤ 1000000) (w : World) : (Instr.makeSlice 22 (.int .i64 (n : Int)) (.int .i64 (n : Int))).run Try.prog w =
    .ok (.slice (some ⟨w.heap.size, 0, none⟩) n n) (w.alloc (.cells (cB (List.replicate n 0)).toArray 5)) := by
  obtain ⟨i0, hi, hz0, hz1, hz2⟩ := info_parts infoBy
  have := run_make (P := Try.prog) w 22 5 i0 _ Try.underlying22 hi hz0 .i64 .i64 n n (by omega) (Int.le_refl _) (by rw [hz2]; omega) (by omega)
  rw [this, hz1, Nat.mul_one]
  have e : madeCells (Value.int .u8 0).cells n = (cB (List.replicate n 0)).toArray := by
    apply Array.ext
    · simp [madeCells, cB]
    · intro i h1 h2
      have h3 : i % 1 = 0 := by omega
      simp [madeCells, cB, Value.cells, h3]
  simp [e]

set_option maxRecDepth 100000 in
set_option maxHeartbeats 4000000 in
theorem len_core (m0 : Ms) (A0 : Option Addr) (c0 : Nat) (_ : A0 = none → c0 = 0) (hl0 : m0.body.length ≤ c0) (hm0 : c0 ≤ maxLen) (w : World) (hr0 : RwB w A0 m0.body) (n1 : Int) (wn1 : I64 n1) :
    Calls Try.prog 7 #[.agg #[.int .i64 m0.op, .int .i64 m0.id, .slice A0 m0.body.length c0], .int .i64 n1] w fun e w' => e = .returned (.bool true) ∧ Bl w w' := by
  have cg := fun w' => good1 A0 c0 m0 20 20 rfl w' hr0.ad hl0 hm0 (by omega)
  have ho := goodM_ok m0 (n := 20) (by omega)
  have ca := fun w' => around1 n1 4097 w' wn1 (by omega)
  have hab := around_bd n1 4097 (by omega)
  obtain ⟨o1, o2, _⟩ := ho
  generalize goodM m0 20 = g at *
  generalize around n1 4097 = q at *
  obtain ⟨Q, rfl⟩ : ∃ Q : Nat, q = Q := ⟨q.toNat, by omega⟩
  obtain ⟨op, id, bd⟩ := g
  dsimp only at *
  have hQ : Q ≤ 4096 := by omega
  clear hl0 hm0 hr0
  generalize m0.body.length = n0 at *
  obtain ⟨op0, id0, bd0⟩ := m0
  dsimp only at *
  generalize bd.length = nb at *
  go_enter Try.func7, Try.ntmps7
  go_wp2_with fail
  refine (cg _).mono ?_
  rintro e w1 ⟨rfl, g1⟩
  have G1 : Bl w w1 := ((Bl.refl w).alloc _).gr g1
  clear g1
  have b1 := At.new w1 #[.int .i64 op, .int .i64 id, .slice A0 nb c0] 24
  have G2 : Bl w (w1.alloc (.cells #[.int .i64 op, .int .i64 id, .slice A0 nb c0] 24)) := G1.alloc _
  obtain ⟨p, hp⟩ : ∃ p, p = w1.heap.size := ⟨_, rfl⟩
  rw [← hp] at b1
  obtain ⟨W, hW⟩ : ∃ W, W = w1.alloc (.cells #[.int .i64 op, .int .i64 id, .slice A0 nb c0] 24) := ⟨_, rfl⟩
  have zp : w.heap.size ≤ p := by rw [hp]; exact G1.size
  rw [← hW] at b1 G2
  have mk := makeZ Q (by omega) W
  have b2 := b1.alloc (.cells (cB (List.replicate Q 0)).toArray 5)
  have r2 : RwB (W.alloc (.cells (cB (List.replicate Q 0)).toArray 5)) (some ⟨W.heap.size, 0, none⟩) (List.replicate Q 0) := RwB.blk (At.new W _ _)
  have hpW : p < W.heap.size := b1.lt
  have G3 : Bl w (W.alloc (.cells (cB (List.replicate Q 0)).toArray 5)) := G2.alloc _
  obtain ⟨p2, hp2⟩ : ∃ p, p = W.heap.size := ⟨_, rfl⟩
  obtain ⟨W2, hW2⟩ : ∃ V, V = W.alloc (.cells (cB (List.replicate Q 0)).toArray 5) := ⟨_, rfl⟩
  rw [← hW2] at mk b2 r2 G3
  rw [← hp2] at mk r2 hpW
  have b3 : At (W2.setCell ⟨p, 2, none⟩ (.slice (some ⟨p2, 0, none⟩) Q Q)) p #[.int .i64 op, .int .i64 id, .slice (some ⟨p2, 0, none⟩) Q Q] 24 := by simpa using b2.put 2 (.slice (some ⟨p2, 0, none⟩) Q Q)
  have r3 : RwB (W2.setCell ⟨p, 2, none⟩ (.slice (some ⟨p2, 0, none⟩) Q Q)) (some ⟨p2, 0, none⟩) (List.replicate Q 0) := r2.by (row := some p) (By.set (p := ⟨p, 2, none⟩) (By.refl _ _) _) (by simp; omega)
  have G4 := G3.setCell (p := ⟨p, 2, none⟩) zp (.slice (some ⟨p2, 0, none⟩) Q Q)
  have f2 := b2.free 2
  have k2 := b2.cell 2
  have k2a := b2.cell 0
  have k2b := b2.cell 1
  obtain ⟨W3, hW3⟩ : ∃ V, V = W2.setCell ⟨p, 2, none⟩ (.slice (some ⟨p2, 0, none⟩) Q Q) := ⟨_, rfl⟩
  rw [← hW3] at b3 r3 G4
  have k30 := b3.cell 0
  have k31 := b3.cell 1
  have k32 := b3.cell 2
  simp only [List.getElem?_toArray, List.getElem?_cons_zero, List.getElem?_cons_succ] at k30 k31 k32 k2 k2a k2b
  have K30 := k30
  have K31 := k31
  have K32 := k32
  rw [hW3] at K30 K31 K32
  have hrl : (List.replicate Q (0 : Int)).length = Q := by simp
  have cw := fwrite1 (some ⟨p2, 0, none⟩) Q ⟨op, id, List.replicate Q 0⟩ W3 ⟨o1, o2, by rw [hrl]; exact hQ⟩ r3 (by simp)
  have hel := encM_len ⟨op, id, List.replicate Q 0⟩
  have he0 : (encM ⟨op, id, List.replicate Q 0⟩).getD 0 0 = ((7 + Q : Nat) : Int) / 256 := by unfold encM; simp
  have he1 : (encM ⟨op, id, List.replicate Q 0⟩).getD 1 0 = ((7 + Q : Nat) : Int) % 256 := by unfold encM; simp
  rw [hel] at cw
  dsimp only at cw hel
  rw [hrl] at cw hel
  generalize encM ⟨op, id, List.replicate Q 0⟩ = E at *
  replace he0 := Lib.hid he0
  replace he1 := Lib.hid he1
  replace hel := Lib.hid hel
  clear hrl r2 r3 b1
  go_wp2_with fail
  rw [← hW, ← hp]
  refine (ca _).mono ?_
  rintro e w2 ⟨rfl, rfl⟩
  replace hW := Lib.hid hW
  replace hp := Lib.hid hp
  replace hp2 := Lib.hid hp2
  replace hW2 := Lib.hid hW2
  replace hW3 := Lib.hid hW3
  clear ca cg
  go_wp2_with fail
  rw [← hW3.out]
  refine cw.mono ?_
  rintro e w4 ⟨A5, c5, rfl, sv, g5⟩
  have b5 := b3.bl g5
  have G5 := G4.trans g5
  have k52 := b5.cell 2
  simp only [List.getElem?_toArray, List.getElem?_cons_zero, List.getElem?_cons_succ] at k52
  obtain ⟨A6, c6, hv, _, hle, _, hr⟩ := sv
  injection hv with h1 h2 h3
  subst h1 h3
  clear h2
  rw [hel.out] at hle
  obtain ⟨b, off, rfl, hrow⟩ := hr.opened (by rw [hel.out]; omega)
  have y0 := hrow.cellD (i := 0) (by rw [hel.out]; omega)
  have y1 := hrow.cellD (i := 1) (by rw [hel.out]; omega)
  rw [he0.out, Nat.add_zero] at y0
  rw [he1.out] at y1
  have hsum : ((7 + Q : Nat) : Int) / 256 * 256 + ((7 + Q : Nat) : Int) % 256 = ((7 + Q : Nat) : Int) := by omega
  have hx0 : 0 ≤ ((7 + Q : Nat) : Int) / 256 ∧ ((7 + Q : Nat) : Int) / 256 ≤ 255 := by omega
  have hx1 : 0 ≤ ((7 + Q : Nat) : Int) % 256 ∧ ((7 + Q : Nat) : Int) % 256 ≤ 255 := by omega
  have hTT : (7 : Int) + (Q : Int) = ((7 + Q : Nat) : Int) := by omega
  have hT2 : 2 ≤ 7 + Q := by omega
  have hT3 : 7 + Q ≤ 4103 := by omega
  clear hrow hr cw
  obtain ⟨T, hTQ⟩ : ∃ T, T = 7 + Q := ⟨_, rfl⟩
  rw [← hTQ] at y0 y1 hsum hx0 hx1 hTT hle hT2 hT3 ⊢
  generalize (T : Int) / 256 = x0 at *
  generalize (T : Int) % 256 = x1 at *
  obtain ⟨hx00, hx01⟩ := hx0
  obtain ⟨hx10, hx11⟩ := hx1
  have q2 : decide ((T : Int) < 2) = false := by simp; omega
  replace hTQ := Lib.hid hTQ
  have t0' : 0 < T := by omega
  have t1' : 1 < T := by omega
  have t2' : (0 : Int) < T := by omega
  have t3' : (1 : Int) < T := by omega
  go_wp2
  have Y0 := cell_regrown y0
  have Y1 := cell_regrown y1
  have cL : ∀ d os, Calls Try.prog 18 #[] (grow (redrawn w4 d) os) fun e w'' => e = .returned (.bool true) ∧ ∃ p : Regrown, w'' = grow (redrawn w4 p.d) p.os := fun d os => Calls.regrown_of (lives1 _)
  have wr0 : IntKind.i64.wrap x0 = x0 := IntWalk.i64_in _ (by omega)
  have wr1 : IntKind.i64.wrap (x0 * 256) = x0 * 256 := IntWalk.i64_in _ (by omega)
  have wr2 : IntKind.i64.wrap x1 = x1 := IntWalk.i64_in _ (by omega)
  have wr3 : IntKind.i64.wrap (T : Int) = (T : Int) := IntWalk.i64_in _ (by omega)
  refine wp_region_quiet_below (by kernel_rfl) (by kernel_rfl) ?_
  repeat (first | quiet_step (exact cL _ _) | go_big_quiet_step (exact cL _ _))
  refine wpQuiet_nil ?_
  intro _ hw'
  obtain ⟨⟨dq, osq⟩, hw''⟩ := hw'
  subst hw''
  go_wp2
  go_ret
  exact ⟨rfl, G5.trans (below_regrown w4 dq osq)⟩

set_option maxRecDepth 100000 in
theorem frameLengths_lifted (os : Os) (started : os.Started) (H : Type) (enc : TypeId × Value → H) :
    ReturnsInHanded {} Try.checked os 7 .any (Rows.frameLengthsSpec.pre6 enc Try.prog Try.f7 Rows.frameLengthsRow.domain false) (Rows.frameLengthsSpec.post enc Try.prog Try.f7 false true false false) := by
  refine returnsInHanded_of_change (C := Try.checked) own started (by kernel_rfl) Try.func7
    (ChangeSpec.witness6 (enc := enc) (C := Try.checked) false ⟨#[], #[.agg #[.int .i64 0, .int .i64 0, .slice none 0 0], .int .i64 0], []⟩ 8 (by kernel_rfl) (by kernel_rfl) (by kernel_rfl) (by kernel_rfl)) ?_
  intro W base args ds gs before hval0 hW hcnd _
  have hval : ∀ (j : Nat) t v, Try.f7.params[j]? = some t → args[j]? = some v → Value.okWide Try.prog W .any base t v := hval0
  have hW' := hW
  obtain ⟨p, q, hA0, hV, rfl, hfz, hnd⟩ := hW
  have hA : DataW.TrodAll enc Try.prog W 0 (fun _ => true) true Try.f7.params.toList args.toList ds p := hA0
  rw [Try.params7] at hA hval
  obtain ⟨v0, vs0, d0, ds0, p0, q0, hargs, rfl, rfl, h0, r0⟩ := trodAll_cons hA
  obtain ⟨v1, vs1, d1, ds1, p1, q1, rfl, rfl, rfl, h1, r1⟩ := trodAll_cons r0
  obtain ⟨rfl, rfl, rfl⟩ := trodAll_nil r1
  obtain rfl : args = #[v0, v1] := by cases args; simp_all
  obtain ⟨rfl, rfl⟩ := trodVars_none hV
  obtain ⟨m0, A0, c0, rfl, hz0, hl0, hm0, hr0, hb0, _, _⟩ := open_msg (hval 0 24 v0 rfl rfl) h0
  obtain ⟨n1, rfl, rfl, rfl, un1⟩ := open_int Try.underlying3 (hval 1 3 v1 rfl rfl) h1
  have wn1 := I64.of_wf un1
  clear hA0 hval0
  simp only [List.append_nil] at hW'
  have hlt := hW'.lt
  refine (len_core m0 A0 c0 hz0 hl0 hm0 W hr0 n1 wn1).mono fun e W' ⟨he, hb⟩ => ?_
  subst he
  exact ⟨_, rfl, close_below (pa := p0) (pv := []) hW' (fun _ _ _ => (trodAll_cons_mk (shut_bool Try.underlying4 _) trodAll_mk0)) (fun sp hsp => by
      have := (trodAll_cons_mk (WideElems.Trod_stays laidOut (by kernel_rfl) (of_decide_eq_true (by kernel_rfl)) h0 (fun x hx => Below.same hb (hlt x (by simp [hx]))) (sp' := sp) (fun x hx => hsp x (by simp [hx]))) (trodAll_cons_mk (shut_int Try.underlying3 un1) trodAll_mk0))
      simp only [List.append_nil] at this
      exact this)
    (fun _ _ => rfl) (by simp) hb (ok_one (by kernel_rfl) rfl (okWide_bool_mk Try.underlying4 _))⟩

theorem frameLengths_holds : Rows.FrameLengthsSaid :=
  OpenClaim.holds_of_wide 7 Try.f7 rfl rfl rfl rfl rfl rfl rfl ⟨rfl, rfl, rfl, rfl, rfl⟩ rfl rfl rfl rfl rfl (by kernel_rfl) Try.func7 (by kernel_rfl)
    (of_decide_eq_true (by kernel_rfl)) (by unfold Func.isWrapper; first | (rw [if_pos (by decide +kernel)]; kernel_rfl) | (rw [if_neg (by decide +kernel)]; exact ⟨rfl, rfl⟩))
    (fun os started H enc _ => frameLengths_lifted os started H enc)

#print axioms frameLengths_holds

end Go.Proofs.Ytapejibffglnnaa
