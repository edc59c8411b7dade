/-
  What is proved: the statement RequestApart, and its card: two requests that may be have the same message just if they are the same, for any two. The row lists two tables of Go's library; the card ties them to the program's text. The seat is of a pruned copy of the project: the card says nothing of packages that it leaves out.
-/
import Derived.Test.YteljpabhcmihoaaDoorZsb
import Derived.Test.YteljpabhcmihoaaDoorZt
import Derived.Test.YteljpabhcmihoaaDoorMf
import Derived.ChangeMaps5
namespace Go.Proofs.YteljpabhcmihoaaDoor
open Go.ChangeShapes Go.ChangeMaps Go.WideShapes Go.ChangeAt Go.RowKit Go.Joins Go.Sort
theorem goodQ_by {r : Rq} (h : ByL r.d) : ByL (goodQ r).d := by
  rcases goodQ_d r with e | e
  · rw [e]; exact ByL.nil
  · rw [e]; exact h.take 64
theorem apart_core (ra rb : Rq) (da db : Value) (w : World) (gA : GoodR w ra da) (gB : GoodR w rb db) : Calls Tryd.prog 8 #[vQ ra da, vQ rb db] w (Bt w (.bool true)) := by
  have bx := goodQ_by gA.inq.d
  have b_y := goodQ_by gB.inq.d
  have cg1 := fun (V : World) (g : Bl w V) => rgoodQ1 ra da V (gA.sv.bl g) gA.inq
  have cg2 := fun (V : World) (g : Bl w V) => rgoodQ1 rb db V (gB.sv.bl g) gB.inq
  have ok1 := goodQ_ok ra
  have ok2 := goodQ_ok rb
  generalize goodQ ra = x at *
  generalize goodQ rb = y at *
  obtain ⟨b1, _, _, e1, _⟩ := ok1.enc
  obtain ⟨b2, _, _, e2, _⟩ := ok2.enc
  have ce1 := fun (V : World) (d : Value) (hs : Sv V d x.d) => enc1 x d V hs bx
  have ce2 := fun (V : World) (d : Value) (hs : Sv V d y.d) => enc1 y d V hs b_y
  have m1 := (encR_by bx).1
  have m2 := (encR_by b_y).1
  have hB : sameM (encR x).1 (encR y).1 = sameQ x y := by
    rw [Bool.eq_iff_iff, sameM_iff, sameQ_iff]
    exact ⟨ok1.apart ok2, fun h => by rw [h]⟩
  rw [e1] at ce1 m1 hB
  rw [e2] at ce2 m2 hB
  obtain ⟨Aa, ca, rfl, _⟩ := gA.sv
  obtain ⟨Ab, cb, rfl, _⟩ := gB.sv
  exact apart_walk ra rb x y _ _ Aa Ab _ ca _ cb w (sameQ x y) cg1 cg2 ce1 ce2
    (fun V d e hd he => by rw [← hB]; exact msame1 _ _ d e V hd he m1 m2)
    (fun V d e hd he => rsameQ1 x y d e V hd he bx b_y)
    (fun V d e hd he => qsame1 x y d e V hd he bx b_y)

set_option maxRecDepth 100000 in
theorem requestApart_contract (H : Type) (enc : TypeId × Value → H) (W : World) (base : Nat) (args : Array Value) (ds gs : List (DataW H)) (before : List MemPlace)
    (hval0 : ∀ (j : Nat) t v, Tryd.f8.params[j]? = some t → args[j]? = some v → Value.okWide Tryd.prog W .any base t v)
    (hW : DataW.Whole enc Tryd.prog Tryd.f8.params.toList Rows.requestApartSpec.vars false W args.toList ds gs before) :
    Calls Tryd.prog 8 args W fun e W' => ∃ v, e = .returned v ∧ Rows.requestApartSpec.post enc Tryd.prog Tryd.f8 false true false false W args v W' := by
  have hval := hval0
  have hW' := hW
  obtain ⟨p, q, hA0, hV, rfl, hfz, hnd⟩ := hW
  have hA : DataW.TrodAll enc Tryd.prog W 0 (fun _ => true) true Tryd.f8.params.toList args.toList ds p := hA0
  rw [Tryd.params8] at hA hval
  obtain ⟨v0, vs0, d0, ds0, p0, q0, hargs, rfl, rfl, h0, r0⟩ := trodAll_cons hA
  obtain ⟨v1, vs1, d1, ds1, p1, q1, rfl, rfl, rfl, h1, r1⟩ := trodAll_cons r0
  obtain ⟨rfl, rfl, rfl⟩ := trodAll_nil r1
  obtain rfl : args = #[v0, v1] := by cases args; simp_all
  obtain ⟨rfl, rfl⟩ := trodVars_none hV
  obtain ⟨rq0, qd0, rfl, gQ0⟩ := open_rq (hval 0 28 v0 rfl rfl) h0
  obtain ⟨rq1, qd1, rfl, gQ1⟩ := open_rq (hval 1 28 v1 rfl rfl) h1
  clear hA0 hval0
  simp only [List.append_nil] at hW'
  have hlt := hW'.lt
  refine (apart_core rq0 rq1 qd0 qd1 W gQ0 gQ1).mono fun e W' ⟨he, hb⟩ => ?_
  subst he
  exact ⟨_, rfl, close_below (pa := p0 ++ p1) (pv := []) hW' (fun _ _ _ => (trodAll_cons_mk (shut_bool Tryd.underlying4 _) trodAll_mk0)) (fun sp hsp => by
      have := (trodAll_cons_mk (WideElems.Trod_stays laidOut (by kernel_rfl) (of_decide_eq_true (by kernel_rfl)) h0 (fun x hx => Below.same hb (hlt x (by simp [hx]))) (sp' := sp) (fun x hx => hsp x (by simp [hx]))) (trodAll_cons_mk (WideElems.Trod_stays laidOut (by kernel_rfl) (of_decide_eq_true (by kernel_rfl)) h1 (fun x hx => Below.same hb (hlt x (by simp [hx]))) (sp' := sp) (fun x hx => hsp x (by simp [hx]))) trodAll_mk0))
      simp only [List.append_nil] at this
      exact this)
    (fun _ _ => rfl) (by simp) hb (ok_one (by kernel_rfl) rfl (okWide_bool_mk Tryd.underlying4 _))⟩

theorem requestApart_met (os : Os) : laidMet Tryd.prog Rows.requestApartRow.laid ((laidWorld os).forCall (fun _ _ => 0) ⟨#[], #[.agg #[.int .i64 0, .int .i64 0, .int .i64 0, .int .i64 0, .int .i64 0, .int .i64 0, .int .i64 0, .int .i64 0, .string ⟨#[]⟩, .slice none 0 0], .agg #[.int .i64 0, .int .i64 0, .int .i64 0, .int .i64 0, .int .i64 0, .int .i64 0, .int .i64 0, .int .i64 0, .string ⟨#[]⟩, .slice none 0 0]], []⟩).memory :=
  laidMet_of_run' 8 (by kernel_rfl) (by kernel_rfl)
theorem requestApart_reads (os : Os) {H : Type} (enc : TypeId × Value → H) : ∃ places, DataW.whole enc Tryd.prog ((laidWorld os).forCall (fun _ _ => 0) ⟨#[], #[.agg #[.int .i64 0, .int .i64 0, .int .i64 0, .int .i64 0, .int .i64 0, .int .i64 0, .int .i64 0, .int .i64 0, .string ⟨#[]⟩, .slice none 0 0], .agg #[.int .i64 0, .int .i64 0, .int .i64 0, .int .i64 0, .int .i64 0, .int .i64 0, .int .i64 0, .int .i64 0, .string ⟨#[]⟩, .slice none 0 0]], []⟩).memory Tryd.f8.params.toList Rows.requestApartSpec.vars false (#[.agg #[.int .i64 0, .int .i64 0, .int .i64 0, .int .i64 0, .int .i64 0, .int .i64 0, .int .i64 0, .int .i64 0, .string ⟨#[]⟩, .slice none 0 0], .agg #[.int .i64 0, .int .i64 0, .int .i64 0, .int .i64 0, .int .i64 0, .int .i64 0, .int .i64 0, .int .i64 0, .string ⟨#[]⟩, .slice none 0 0]] : Array Value).toList 8 = some ([.agg [.lit (.int .i64 0), .lit (.int .i64 0), .lit (.int .i64 0), .lit (.int .i64 0), .agg [.lit (.int .i64 0), .lit (.int .i64 0), .lit (.int .i64 0), .lit (.int .i64 0)], .lit (.string []), .nil], .agg [.lit (.int .i64 0), .lit (.int .i64 0), .lit (.int .i64 0), .lit (.int .i64 0), .agg [.lit (.int .i64 0), .lit (.int .i64 0), .lit (.int .i64 0), .lit (.int .i64 0)], .lit (.string []), .nil]], [], places) :=
  ⟨[], by kernel_rfl⟩
set_option maxRecDepth 100000 in
theorem requestApart_lifted (os : Os) (started : os.Started) (H : Type) (enc : TypeId × Value → H) (F : Stop.Interp) :
    ReturnsInHanded {} Tryd.checked os 8 .any ((OpenSpec.ofChange Rows.requestApartSpec).preRow enc Tryd.prog Tryd.f8 Rows.requestApartRow.domain false Rows.requestApartRow.laid) (((OpenSpec.ofChange Rows.requestApartSpec).at F).post enc Tryd.prog Tryd.f8 false true false false) := by
  obtain ⟨places, hx⟩ := requestApart_reads os enc
  refine returnsInHanded_of_row (C := Tryd.checked) (s := OpenSpec.ofChange Rows.requestApartSpec) own started (by kernel_rfl) Tryd.func8
    (witness_row_at (enc := enc) (C := Tryd.checked) false (laidWorld os) #[.agg #[.int .i64 0, .int .i64 0, .int .i64 0, .int .i64 0, .int .i64 0, .int .i64 0, .int .i64 0, .int .i64 0, .string ⟨#[]⟩, .slice none 0 0], .agg #[.int .i64 0, .int .i64 0, .int .i64 0, .int .i64 0, .int .i64 0, .int .i64 0, .int .i64 0, .int .i64 0, .string ⟨#[]⟩, .slice none 0 0]] rfl (by kernel_rfl) (by kernel_rfl) (by kernel_rfl)
      (OpenSpec.preRow_of_cond 8 hx (by kernel_rfl) (fun k hk => by cases hk) (by kernel_rfl) (requestApart_met os))) ?_
  intro W base args ds gs before hval hW _ _ _ _ _ _
  exact requestApart_contract H enc W base args ds gs before hval hW

theorem requestApart_said : Rows.RequestApartSaid :=
  OpenClaim.holds_of_cond 8 Tryd.f8 rfl rfl rfl rfl rfl rfl rfl ⟨rfl, rfl, rfl, rfl, rfl⟩ rfl rfl rfl rfl rfl (by kernel_rfl) Tryd.func8 (by kernel_rfl)
    (of_decide_eq_true (by kernel_rfl)) (by unfold Func.isWrapper; first | (rw [if_pos (by decide +kernel)]; kernel_rfl) | (rw [if_neg (by decide +kernel)]; exact ⟨rfl, rfl⟩))
    (fun os started H enc _ F => by rw [OpenClaim.pre_eq_preRow]; exact requestApart_lifted os started H enc F)

theorem requestApart_plain (f : FuncId) (fn : Func) (hf : Tryd.pinned.checked.prog.funcNamed "rondel/rondellaw09.RequestApart" = some f) (hfn : Tryd.pinned.checked.prog.funcs[f]? = some fn) :
    true = Tryd.pinned.checked.prog.looks [] ∧ ∀ (j : Nat) t, fn.params[j]? = some t → Tryd.pinned.checked.prog.wantsStandIn t = false := by
  obtain rfl : f = 8 := Option.some.inj ((show Tryd.prog.funcNamed "rondel/rondellaw09.RequestApart" = some 8 by kernel_rfl).symm.trans hf) |>.symm
  obtain rfl : fn = Tryd.f8 := (Option.some.inj (Tryd.func8.symm.trans hfn)).symm
  refine ⟨by kernel_rfl, fun j t ht => ?_⟩
  rw [Tryd.params8] at ht
  match j, ht with
  | 0, ht => cases ht; exact (show Tryd.prog.wantsStandIn 28 = false by kernel_rfl)
  | 1, ht => cases ht; exact (show Tryd.prog.wantsStandIn 28 = false by kernel_rfl)
  | k + 2, ht => exact absurd ht (by simp)

theorem requestApart_card : Rows.RequestApartCardSaid :=
  Claim7.holds_tied_plain_at .later [] _ _ _ _ requestApart_said (fun _ h => by cases h) (by kernel_rfl) (fun _ h => by cases h) requestApart_row_tie rfl ⟨rfl, rfl⟩ (by kernel_rfl) rfl requestApart_plain (by kernel_rfl)

#print axioms requestApart_card

end Go.Proofs.YteljpabhcmihoaaDoor
