/-
  What is proved: the statement ImageNew: there are images of sides from 1 to 256, all of the color 0. No conditions.
-/
import Derived.Test.YtlbpeogjedjpnaaIl
namespace Go.Proofs.Ytlbpeogjedjpnaa
open Go.ChangeShapes Go.WideShapes Go.ChangeAt Go.RowKit Go.Joins Go.Sort

set_option maxRecDepth 100000 in
set_option maxHeartbeats 2000000 in
theorem inew_walk1 (W H : Nat) (w : World) (w1 : 1 ≤ W) (w2 : W ≤ 256) (h1 : 1 ≤ H) (h2 : H ≤ 256) :
    Calls Try.prog 5 #[.int .i64 W, .int .i64 H] w (fun e w' => e = .returned (.bool true) ∧ Bl w w') := by
  have cn := new1 W H w w1 w2 h1 h2
  have z : (List.replicate (W * H) (0 : Int))[(H - 1) * W + (W - 1)]? = some 0 := by
    rw [List.getElem?_replicate, if_pos (row_of (show W - 1 < W by omega) (show H - 1 < H by omega))]
  have ca := fun (pm pc : Nat) (w' : World) (h : Img w' pm pc W H (List.replicate (W * H) 0)) => at1 w' h (W - 1) (H - 1) (by omega) (by omega) 0 z
  rw [show ((W - 1 : Nat) : Int) = (W : Int) - 1 by omega, show ((H - 1 : Nat) : Int) = (H : Int) - 1 by omega] at ca
  have cb := fun (pm pc : Nat) (w' : World) (h : Img w' pm pc W H (List.replicate (W * H) 0)) => at0 w' h W ((H : Int) - 1) (by simp [hasB])
  have cc := fun (pm pc : Nat) (w' : World) (h : Img w' pm pc W H (List.replicate (W * H) 0)) => at0 w' h 0 (-1) (by simp [hasB])
  clear z
  generalize List.replicate (W * H) (0 : Int) = L at *
  have i2 : ∀ w, (Instr.field 32 (.agg #[.int .i64 0, .int .i64 0, .int .i64 W, .int .i64 H]) 2).run Try.prog w = .ok (.int .i64 W) w := fun _ => by kernel_rfl
  have i3 : ∀ w, (Instr.field 32 (.agg #[.int .i64 0, .int .i64 0, .int .i64 W, .int .i64 H]) 3).run Try.prog w = .ok (.int .i64 H) w := fun _ => by kernel_rfl
  go_enter Try.func5, Try.ntmps5
  go_wp2_with fail
  refine cn.mono ?_
  rintro e v1 ⟨pm, pc, rfl, I1, m1, m2, g1⟩
  go_wp2_with fail
  refine (ca _ _ _ I1).mono ?_
  rintro e v2 ⟨rfl, g2⟩
  go_wp2_with fail
  refine (cb _ _ _ (I1.gr g2)).mono ?_
  rintro e v3 ⟨rfl, g3⟩
  go_wp2_with fail
  refine (cc _ _ _ ((I1.gr g2).gr g3)).mono ?_
  rintro e v4 ⟨rfl, g4⟩
  go_wp2_with fail
  refine (box1 _ (((I1.gr g2).gr g3).gr g4)).mono ?_
  rintro e v5 ⟨rfl, g5⟩
  go_wp2_with fail
  refine (box1 _ ((((I1.gr g2).gr g3).gr g4).gr g5)).mono ?_
  rintro e v6 ⟨rfl, g6⟩
  go_wp2_with fail
  refine (lives1 _).mono ?_
  rintro e v7 ⟨rfl, g7⟩
  go_wp2
  go_ret
  exact ⟨rfl, (((((g1.trans g2).trans g3).trans g4).trans g5).trans g6).bl.trans g7⟩

set_option maxRecDepth 100000 in
set_option maxHeartbeats 2000000 in
theorem inew_walk0 (W H : Int) (w : World) (h : W < 1 ∨ 256 < W ∨ H < 1 ∨ 256 < H) :
    Calls Try.prog 5 #[.int .i64 W, .int .i64 H] w (fun e w' => e = .returned (.bool true) ∧ Bl w w') := by
  have cn := newN W H w h
  have h' : W < 1 ∨ (1 ≤ W ∧ 256 < W) ∨ (1 ≤ W ∧ W ≤ 256 ∧ H < 1) ∨ (1 ≤ W ∧ W ≤ 256 ∧ 1 ≤ H ∧ 256 < H) := by omega
  clear h
  rcases h' with h | ⟨h, k⟩ | ⟨h, k, l⟩ | ⟨h, k, l, o⟩
  all_goals
    go_enter Try.func5, Try.ntmps5
    go_wp2_with fail
    refine cn.mono ?_
    rintro e v1 ⟨rfl, g1⟩
    go_wp2_with fail
    refine (lives1 _).mono ?_
    rintro e v7 ⟨rfl, g7⟩
    go_wp2
    go_ret
    exact ⟨rfl, g1.bl.trans g7⟩

theorem inew_walk (W H : Int) (w : World) : Calls Try.prog 5 #[.int .i64 W, .int .i64 H] w (fun e w' => e = .returned (.bool true) ∧ Bl w w') := by
  by_cases h : W < 1 ∨ 256 < W ∨ H < 1 ∨ 256 < H
  · exact inew_walk0 W H w h
  · obtain ⟨n, rfl⟩ : ∃ n : Nat, W = n := ⟨W.toNat, by omega⟩
    obtain ⟨m, rfl⟩ : ∃ m : Nat, H = m := ⟨H.toNat, by omega⟩
    exact inew_walk1 n m w (by omega) (by omega) (by omega) (by omega)

set_option maxRecDepth 100000 in
theorem imageNew_lifted (os : Os) (started : os.Started) (H : Type) (enc : TypeId × Value → H) :
    ReturnsInHanded {} Try.checked os 5 .any (Rows.imageNewSpec.pre6 enc Try.prog Try.f5 Rows.imageNewRow.domain false) (Rows.imageNewSpec.post enc Try.prog Try.f5 false true false false) := by
  refine returnsInHanded_of_change (C := Try.checked) own started (by kernel_rfl) Try.func5
    (ChangeSpec.witness6 (enc := enc) (C := Try.checked) false ⟨#[], #[.int .i64 0, .int .i64 0], []⟩ 8 (by kernel_rfl) (by kernel_rfl) (by kernel_rfl) (by kernel_rfl)) ?_
  intro W base args ds gs before hval0 hW hcnd _
  have hval : ∀ (j : Nat) t v, Try.f5.params[j]? = some t → args[j]? = some v → Value.okWide Try.prog W .any base t v := hval0
  have hW' := hW
  obtain ⟨p, q, hA0, hV, rfl, hfz, hnd⟩ := hW
  have hA : DataW.TrodAll enc Try.prog W 0 (fun _ => true) true Try.f5.params.toList args.toList ds p := hA0
  rw [Try.params5] at hA hval
  obtain ⟨v0, vs0, d0, ds0, p0, q0, hargs, rfl, rfl, h0, r0⟩ := trodAll_cons hA
  obtain ⟨v1, vs1, d1, ds1, p1, q1, rfl, rfl, rfl, h1, r1⟩ := trodAll_cons r0
  obtain ⟨rfl, rfl, rfl⟩ := trodAll_nil r1
  obtain rfl : args = #[v0, v1] := by cases args; simp_all
  obtain ⟨rfl, rfl⟩ := trodVars_none hV
  obtain ⟨n0, rfl, rfl, rfl, un0⟩ := open_int Try.underlying3 (hval 0 3 v0 rfl rfl) h0
  have wn0 := I64.of_wf un0
  obtain ⟨n1, rfl, rfl, rfl, un1⟩ := open_int Try.underlying3 (hval 1 3 v1 rfl rfl) h1
  have wn1 := I64.of_wf un1
  clear hA0 hval0
  simp only [List.append_nil, List.nil_append] at hW'
  refine (inew_walk n0 n1 W).mono fun e W' ⟨he, hb⟩ => ?_
  subst he
  exact ⟨_, rfl, close_below (pa := []) (pv := []) hW' (fun _ _ _ => (trodAll_cons_mk (shut_bool Try.underlying4 _) trodAll_mk0)) (fun sp _ => (trodAll_cons_mk (shut_int Try.underlying3 un0) (trodAll_cons_mk (shut_int Try.underlying3 un1) trodAll_mk0)))
    (fun _ _ => rfl) rfl hb (ok_one (by kernel_rfl) rfl (okWide_bool_mk Try.underlying4 _))⟩

theorem imageNew_holds : Rows.ImageNewSaid :=
  OpenClaim.holds_of_wide 5 Try.f5 rfl rfl rfl rfl rfl rfl rfl ⟨rfl, rfl, rfl, rfl, rfl⟩ rfl rfl rfl rfl rfl (by kernel_rfl) Try.func5 (by kernel_rfl)
    (of_decide_eq_true (by kernel_rfl)) (by unfold Func.isWrapper; first | (rw [if_pos (by decide +kernel)]; kernel_rfl) | (rw [if_neg (by decide +kernel)]; exact ⟨rfl, rfl⟩))
    (fun os started H enc _ => imageNew_lifted os started H enc)

#print axioms imageNew_holds

end Go.Proofs.Ytlbpeogjedjpnaa
