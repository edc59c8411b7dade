/-
  What is proved: the statement ColorParts: a color's parts, what they make, and which colors may be, is the document's. No conditions.
-/
import Derived.Test.YtcohmcnhochimaaCm
import Derived.Test.YtcohmcnhochimaaLawC
import Derived.Laws.Rows
import Derived.Laws.StructEq
import Derived.Deep.QuietTactic
import Derived.BigQuiet
namespace Go.Proofs.Ytcohmcnhochimaa
open Go.ChangeShapes Go.WideShapes Go.ChangeAt Go.RowKit Go.Joins Go.Sort

attribute [local go_sem ↓] run_min2 run_max2

theorem range4 {β : Type} {m : Type → Type} [Monad m] [LawfulMonad m] (b : β) (f : (i : Nat) → β → m (ForInStep β)) : (forIn [0:4] b f : m β) = forIn [0,1,2,3] b f := by
  rw [Std.Legacy.Range.forIn_eq_forIn_range']
  rfl
theorem eq_arr4 (w : World) (a b c d : Int) : (binOp .eql 24 (.agg #[.int .i64 a, .int .i64 b, .int .i64 c, .int .i64 d]) (.agg #[.int .i64 a, .int .i64 b, .int .i64 c, .int .i64 d])).run Try.prog w = .ok (.bool true) w := by
  rw [run_eql_struct]
  have e : ∀ (v : Int) w, (Op.equalIn 9999 3 (.int .i64 v) (.int .i64 v)).run Try.prog w = .ok true w := fun v w => by
    have := run_equalIn_int (P := Try.prog) w 9998 3 .i64 .i64 v v Try.underlying3
    simpa using this
  show ((Op.equalIn (9999 + 1) 24 _ _).run _ _).andThen _ = _
  unfold Op.equalIn
  rw [Sem.run_bind, run_underlying Try.underlying24]
  simp only [Result.andThen_ok]
  have sz : (sizeOf 3).run Try.prog w = .ok 1 w := by kernel_rfl
  have p0 : (part 3 #[Value.int .i64 a, .int .i64 b, .int .i64 c, .int .i64 d] (0 * 1)).run Try.prog w = .ok (.int .i64 a) w := by kernel_rfl
  have p1 : (part 3 #[Value.int .i64 a, .int .i64 b, .int .i64 c, .int .i64 d] (1 * 1)).run Try.prog w = .ok (.int .i64 b) w := by kernel_rfl
  have p2 : (part 3 #[Value.int .i64 a, .int .i64 b, .int .i64 c, .int .i64 d] (2 * 1)).run Try.prog w = .ok (.int .i64 c) w := by kernel_rfl
  have p3 : (part 3 #[Value.int .i64 a, .int .i64 b, .int .i64 c, .int .i64 d] (3 * 1)).run Try.prog w = .ok (.int .i64 d) w := by kernel_rfl
  rw [Sem.run_bind, sz]
  simp only [Result.andThen_ok]
  rw [Sem.run_bind, range4]
  simp only [List.forIn_cons, List.forIn_nil, Sem.run_bind, p0, p1, p2, p3, e, Result.andThen_ok, Bool.not_true, Bool.false_eq_true, if_false, Sem.run_pure]

set_option maxRecDepth 100000 in
set_option maxHeartbeats 4000000 in
theorem parts_core (c p0 p1 p2 p3 : Int) (w : World) (hc : U32 c) : Calls Try.prog 3 #[.int .u32 c, .agg #[.int .i64 p0, .int .i64 p1, .int .i64 p2, .int .i64 p3]] w (Rt w (.bool true)) := by
  have G := (Gr.refl w).alloc (.cells #[.int .i64 p0, .int .i64 p1, .int .i64 p2, .int .i64 p3] 24)
  have X := At.new w #[.int .i64 p0, .int .i64 p1, .int .i64 p2, .int .i64 p3] 24
  have c1 := fun w => parts1 c w hc
  have c2 := fun w => refparts1 c w hc
  have c3 := make1 (pA c) (pR c) (pG c) (pB c)
  rw [mk_parts hc] at c3
  have c4 := make1 p0 p1 p2 p3
  have c5 := refmake1 p0 p1 p2 p3
  have c6 := fun w => may1 c w hc
  have c7 := fun w => refmay1 c w hc
  have c8 := fun w => solid1 c w hc
  generalize mk p0 p1 p2 p3 = m at *
  generalize mayC c = mm at *
  generalize pA c = a at *; generalize pR c = r at *; generalize pG c = g' at *; generalize pB c = b at *
  clear hc
  go_enter Try.func3, Try.ntmps3
  go_wp2_with fail
  refine (c1 _).mono ?_
  rintro e w1 ⟨rfl, g⟩
  replace X := X.gr g
  replace G := G.trans g
  clear g
  have Y := At.new w1 #[.int .i64 a, .int .i64 r, .int .i64 g', .int .i64 b] 24
  replace X := X.alloc (.cells #[.int .i64 a, .int .i64 r, .int .i64 g', .int .i64 b] 24)
  replace G := G.alloc (.cells #[.int .i64 a, .int .i64 r, .int .i64 g', .int .i64 b] 24)
  go_wp2
  obtain ⟨V, hV⟩ : ∃ V, V = w1.alloc (.cells #[.int .i64 a, .int .i64 r, .int .i64 g', .int .i64 b] 24) := ⟨_, rfl⟩
  rw [← hV] at X Y G ⊢
  clear hV
  have k0 := fun n os => X.cells n os 0; have k1 := fun n os => X.cells n os 1; have k2 := fun n os => X.cells n os 2; have k3 := fun n os => X.cells n os 3
  have j0 := fun n os => Y.cells n os 0; have j1 := fun n os => Y.cells n os 1; have j2 := fun n os => Y.cells n os 2; have j3 := fun n os => Y.cells n os 3
  simp at k0 k1 k2 k3 j0 j1 j2 j3
  have jl : ∀ n os, (loadVar 24 ⟨w1.heap.size, 0, none⟩).run Try.prog (grow (V.drewN n) os) = .ok (.agg #[.int .i64 a, .int .i64 r, .int .i64 g', .int .i64 b]) (grow (V.drewN n) os) := fun n os => run_loadVar_row _ _ 24 24 _ (0, 0) _ ((Y.drewN n).grow os) Try.underlying24 rfl (by kernel_rfl)
  refine wp_region_quiet_grown (by kernel_rfl) (by kernel_rfl) ?_
  have ea := fun w => eq_arr4 w a r g' b
  have eg : Try.prog.eqGuardType Try.prog.depth 24 = false := by kernel_rfl
  repeat (first | go_big_quiet_step (first | (go_at_call 11; exact Calls.grown (c1 _)) | (go_at_call 12; exact Calls.grown (c2 _)) | (go_at_call 14; exact Calls.grown (c5 _)) | (go_at_call 15; exact Calls.grown (c6 _)) | (go_at_call 16; exact Calls.grown (c7 _)) | (go_at_call 17; exact Calls.grown (c8 _)) | (go_at_call 18; exact Calls.grown (lives1 _)) | (go_at_call_of 13 (Value.int IntKind.i64 a); exact Calls.grown (c3 _)) | (go_at_call_of 13 (Value.int IntKind.i64 p0); exact Calls.grown (c4 _))) | quiet_step (first | (go_at_call 11; exact Calls.grown (c1 _)) | (go_at_call 12; exact Calls.grown (c2 _)) | (go_at_call 14; exact Calls.grown (c5 _)) | (go_at_call 15; exact Calls.grown (c6 _)) | (go_at_call 16; exact Calls.grown (c7 _)) | (go_at_call 17; exact Calls.grown (c8 _)) | (go_at_call 18; exact Calls.grown (lives1 _)) | (go_at_call_of 13 (Value.int IntKind.i64 a); exact Calls.grown (c3 _)) | (go_at_call_of 13 (Value.int IntKind.i64 p0); exact Calls.grown (c4 _))))
  refine wpQuiet_nil ?_
  intro W2 g8
  replace g8 : Gr _ W2 := g8
  go_wp2
  go_ret
  exact ⟨rfl, G.trans g8⟩

set_option maxRecDepth 100000 in
theorem colorParts_lifted (os : Os) (started : os.Started) (H : Type) (enc : TypeId × Value → H) :
    ReturnsInHanded {} Try.checked os 3 .any (Rows.colorPartsSpec.pre6 enc Try.prog Try.f3 Rows.colorPartsRow.domain false) (Rows.colorPartsSpec.post enc Try.prog Try.f3 false true false false) := by
  refine returnsInHanded_of_change (C := Try.checked) own started (by kernel_rfl) Try.func3
    (ChangeSpec.witness6 (enc := enc) (C := Try.checked) false ⟨#[], #[.int .u32 0, .agg #[.int .i64 0, .int .i64 0, .int .i64 0, .int .i64 0]], []⟩ 8 (by kernel_rfl) (by kernel_rfl) (by kernel_rfl) (by kernel_rfl)) ?_
  intro W base args ds gs before hval0 hW hcnd _
  have hval : ∀ (j : Nat) t v, Try.f3.params[j]? = some t → args[j]? = some v → Value.okWide Try.prog W .any base t v := hval0
  have hW' := hW
  obtain ⟨p, q, hA0, hV, rfl, hfz, hnd⟩ := hW
  have hA : DataW.TrodAll enc Try.prog W 0 (fun _ => true) true Try.f3.params.toList args.toList ds p := hA0
  rw [Try.params3] at hA hval
  obtain ⟨v0, vs0, d0, ds0, p0, q0, hargs, rfl, rfl, h0, r0⟩ := trodAll_cons hA
  obtain ⟨v1, vs1, d1, ds1, p1, q1, rfl, rfl, rfl, h1, r1⟩ := trodAll_cons r0
  obtain ⟨rfl, rfl, rfl⟩ := trodAll_nil r1
  obtain rfl : args = #[v0, v1] := by cases args; simp_all
  obtain ⟨rfl, rfl⟩ := trodVars_none hV
  obtain ⟨n0, rfl, rfl, rfl, wn0⟩ := open_int Try.underlying23 (hval 0 23 v0 rfl rfl) h0
  obtain ⟨a1, b1, c1, d1, rfl, rfl, rfl, wa1, wb1, wc1, wd1⟩ := open_arr4 (hval 1 24 v1 rfl rfl) h1
  clear hA0 hval0
  simp only [List.append_nil] at hW'
  refine (parts_core n0 a1 b1 c1 d1 W (U32.of_wf wn0)).mono fun e W' ⟨he, hg⟩ => ?_
  subst he
  exact ⟨_, rfl, close_below (pa := []) (pv := []) hW' (fun _ _ _ => (trodAll_cons_mk (shut_bool Try.underlying4 _) trodAll_mk0)) (fun sp _ => (trodAll_cons_mk (shut_int Try.underlying23 wn0) (trodAll_cons_mk (shut_arr4 wa1 wb1 wc1 wd1) trodAll_mk0))) (fun _ _ => rfl) rfl
    hg.below (ok_one (by kernel_rfl) rfl (okWide_bool_mk Try.underlying4 _))⟩

theorem colorParts_holds : Rows.ColorPartsSaid :=
  OpenClaim.holds_of_wide 3 Try.f3 rfl rfl rfl rfl rfl rfl rfl ⟨rfl, rfl, rfl, rfl, rfl⟩ rfl rfl rfl rfl rfl (by kernel_rfl) Try.func3 (by kernel_rfl)
    (of_decide_eq_true (by kernel_rfl)) (by unfold Func.isWrapper; first | (rw [if_pos (by decide +kernel)]; kernel_rfl) | (rw [if_neg (by decide +kernel)]; exact ⟨rfl, rfl⟩))
    (fun os started H enc _ => colorParts_lifted os started H enc)

#print axioms colorParts_holds

end Go.Proofs.Ytcohmcnhochimaa
