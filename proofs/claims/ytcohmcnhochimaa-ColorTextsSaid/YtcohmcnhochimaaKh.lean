/-
  What is proved: the statement ColorTexts: a color's digits are the document's, and are read as it was; other texts are none. No conditions.
-/
import Derived.Test.YtcohmcnhochimaaCv
import Derived.Test.YtcohmcnhochimaaLawC
import Derived.ChangeMaps5
namespace Go.Proofs.Ytcohmcnhochimaa
open Go.ChangeShapes Go.WideShapes Go.ChangeAt Go.RowKit Go.Joins Go.Sort
open Go.ChangeMaps (open_string shut_string)

attribute [local go_sem ↓] run_min2 run_max2

set_option maxRecDepth 100000 in
set_option maxHeartbeats 4000000 in
theorem texts_core (c : Int) (s : ByteArray) (w : World) (hc : U32 c) (hs : s.size ≤ maxLen) : Calls Try.prog 8 #[.int .u32 c, .string s] w (Rt w (.bool true)) := by
  unfold maxLen at hs
  have G := Gr.refl w
  have c1 := fun w => show1 c hc w
  have c2 := fun w => refshow1 c hc w
  have hp : Prs (shS c) c true := by
    have := sh_hx hc
    exact .inl ⟨sh_size c, this.1, this.2.symm, rfl⟩
  have c3 := fun w => (parse1 (shS c) (by rw [sh_size]; omega) w).mono fun _ _ h => h.rt hp
  obtain ⟨t, ht⟩ : ∃ t, t = shS c := ⟨_, rfl⟩
  rw [← ht] at c1 c2 c3
  clear ht hp
  by_cases hl : 12 < s.size
  · have ql : (12 : Int) < s.size := by omega
    have hz : (s.extract 0 12).size = 12 := by rw [ByteArray.size_extract]; omega
    obtain ⟨v, b, hv⟩ := prs_ex (s.extract 0 12)
    have c4 := fun w => (parse1 (s.extract 0 12) (by omega) w).mono fun _ _ h => h.rt hv
    have c5 := fun w => (refparse1 (s.extract 0 12) (by omega) w).mono fun _ _ h => h.rt hv
    clear hv
    replace hz := Lib.hid hz
    go_enter Try.func8, Try.ntmps8
    go_wp2_with fail
    refine (c1 _).mono ?_
    rintro e w1 ⟨rfl, g⟩
    replace G := G.trans g
    clear g
    go_wp2_with fail
    refine (c3 _).mono ?_
    rintro e w2 ⟨rfl, g⟩
    replace G := G.trans g
    clear g
    go_wp2_with fail
    refine (c4 _).mono ?_
    rintro e w3 ⟨rfl, g⟩
    replace G := G.trans g
    clear g
    go_wp2_with fail
    refine (c5 _).mono ?_
    rintro e w4 ⟨rfl, g⟩
    replace G := G.trans g
    clear g
    go_wp2_with fail
    refine (c2 _).mono ?_
    rintro e w5 ⟨rfl, g⟩
    replace G := G.trans g
    clear g
    go_wp2_with fail
    refine (lives1 _).mono ?_
    rintro e w6 ⟨rfl, g⟩
    replace G := G.trans g
    clear g
    go_wp2
    go_ret
    exact ⟨rfl, G⟩
  · have ql : ¬ (12 : Int) < s.size := by omega
    obtain ⟨v, b, hv⟩ := prs_ex s
    have c4 := fun w => (parse1 s (by omega) w).mono fun _ _ h => h.rt hv
    have c5 := fun w => (refparse1 s (by omega) w).mono fun _ _ h => h.rt hv
    clear hv
    go_enter Try.func8, Try.ntmps8
    go_wp2_with fail
    refine (c1 _).mono ?_
    rintro e w1 ⟨rfl, g⟩
    replace G := G.trans g
    clear g
    go_wp2_with fail
    refine (c3 _).mono ?_
    rintro e w2 ⟨rfl, g⟩
    replace G := G.trans g
    clear g
    go_wp2_with fail
    refine (c4 _).mono ?_
    rintro e w3 ⟨rfl, g⟩
    replace G := G.trans g
    clear g
    go_wp2_with fail
    refine (c5 _).mono ?_
    rintro e w4 ⟨rfl, g⟩
    replace G := G.trans g
    clear g
    go_wp2_with fail
    refine (c2 _).mono ?_
    rintro e w5 ⟨rfl, g⟩
    replace G := G.trans g
    clear g
    go_wp2_with fail
    refine (lives1 _).mono ?_
    rintro e w6 ⟨rfl, g⟩
    replace G := G.trans g
    clear g
    go_wp2
    go_ret
    exact ⟨rfl, G⟩

set_option maxRecDepth 100000 in
theorem colorTexts_lifted (os : Os) (started : os.Started) (H : Type) (enc : TypeId × Value → H) :
    ReturnsInHanded {} Try.checked os 8 .any (Rows.colorTextsSpec.pre6 enc Try.prog Try.f8 Rows.colorTextsRow.domain false) (Rows.colorTextsSpec.post enc Try.prog Try.f8 false true false false) := by
  refine returnsInHanded_of_change (C := Try.checked) own started (by kernel_rfl) Try.func8
    (ChangeSpec.witness6 (enc := enc) (C := Try.checked) false ⟨#[], #[.int .u32 0, .string ByteArray.empty], []⟩ 8 (by kernel_rfl) (by kernel_rfl) (by kernel_rfl) (by kernel_rfl)) ?_
  intro W base args ds gs before hval0 hW hcnd _
  have hval : ∀ (j : Nat) t v, Try.f8.params[j]? = some t → args[j]? = some v → Value.okWide Try.prog W .any base t v := hval0
  have hW' := hW
  obtain ⟨p, q, hA0, hV, rfl, hfz, hnd⟩ := hW
  have hA : DataW.TrodAll enc Try.prog W 0 (fun _ => true) true Try.f8.params.toList args.toList ds p := hA0
  rw [Try.params8] at hA hval
  obtain ⟨v0, vs0, d0, ds0, p0, q0, hargs, rfl, rfl, h0, r0⟩ := trodAll_cons hA
  obtain ⟨v1, vs1, d1, ds1, p1, q1, rfl, rfl, rfl, h1, r1⟩ := trodAll_cons r0
  obtain ⟨rfl, rfl, rfl⟩ := trodAll_nil r1
  obtain rfl : args = #[v0, v1] := by cases args; simp_all
  obtain ⟨rfl, rfl⟩ := trodVars_none hV
  obtain ⟨n0, rfl, rfl, rfl, wn0⟩ := open_int Try.underlying23 (hval 0 23 v0 rfl rfl) h0
  obtain ⟨s1, rfl, rfl, rfl, ws1⟩ := open_string Try.underlying9 (hval 1 9 v1 rfl rfl) h1
  clear hA0 hval0
  simp only [List.append_nil] at hW'
  refine (texts_core n0 s1 W (U32.of_wf wn0) ws1).mono fun e W' ⟨he, hg⟩ => ?_
  subst he
  exact ⟨_, rfl, close_below (pa := []) (pv := []) hW' (fun _ _ _ => (trodAll_cons_mk (shut_bool Try.underlying4 _) trodAll_mk0)) (fun sp _ => (trodAll_cons_mk (shut_int Try.underlying23 wn0) (trodAll_cons_mk (shut_string Try.underlying9 ws1) trodAll_mk0))) (fun _ _ => rfl) rfl
    hg.below (ok_one (by kernel_rfl) rfl (okWide_bool_mk Try.underlying4 _))⟩

theorem colorTexts_holds : Rows.ColorTextsSaid :=
  OpenClaim.holds_of_wide 8 Try.f8 rfl rfl rfl rfl rfl rfl rfl ⟨rfl, rfl, rfl, rfl, rfl⟩ rfl rfl rfl rfl rfl (by kernel_rfl) Try.func8 (by kernel_rfl)
    (of_decide_eq_true (by kernel_rfl)) (by unfold Func.isWrapper; first | (rw [if_pos (by decide +kernel)]; kernel_rfl) | (rw [if_neg (by decide +kernel)]; exact ⟨rfl, rfl⟩))
    (fun os started H enc _ => colorTexts_lifted os started H enc)

#print axioms colorTexts_holds

end Go.Proofs.Ytcohmcnhochimaa
