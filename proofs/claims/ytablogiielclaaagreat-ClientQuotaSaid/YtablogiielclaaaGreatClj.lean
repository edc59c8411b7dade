/-
  What is proved: the closed facts of the row of ClientQuota. No conditions.
-/
import Derived.Test.YtablogiielclaaaGreatZz17
import Derived.Test.YtablogiielclaaaGreatRows
namespace Go.Proofs.YtablogiielclaaaGreat

theorem clientQuotaj0 : (Rows.clientQuotaRow.wf (OpenSpec.ofChange Rows.clientQuotaSpec)) = true := by kernel_rfl
theorem clientQuotaj1 : (laidOutB Tryz.pinned.checked.prog) = true := by kernel_rfl
theorem clientQuotaj2 : (mapsRowed Tryz.pinned.checked.prog) = true := by kernel_rfl
theorem clientQuotaj3 : (Tryz.f10.params.all (Tryz.pinned.checked.prog.readableRec ·)) = true := by kernel_rfl
theorem clientQuotaj4 : (namedTie Tryz.pinned.checked.prog Rows.clientQuotaRow.named Rows.clientQuotaSpec.vars) = true := by kernel_rfl
theorem clientQuotaj5 : ((Rows.clientQuotaRow.stops == [])) = true := by kernel_rfl
theorem clientQuotaj6 : ((Tryz.pinned.checked.prog.stops == [])) = true := by kernel_rfl
theorem clientQuotaj7 : ((Rows.clientQuotaRow.knobs == [])) = true := by kernel_rfl
theorem clientQuotaj8 : ((Tryz.pinned.checked.prog.stopKnobs == [])) = true := by kernel_rfl
theorem clientQuotaj9 : ((Rows.clientQuotaRow.inPlace == Tryz.pinned.checked.prog.inPlace 10)) = true := by kernel_rfl
theorem clientQuotaj10 : ((Rows.clientQuotaRow.unfollowed == Tryz.pinned.checked.prog.unfollowed 10)) = true := by kernel_rfl
theorem clientQuotaj11 : ((Rows.clientQuotaRow.recurses == Tryz.pinned.checked.prog.recurses 10)) = true := by kernel_rfl
theorem clientQuotaj12 : ((Rows.clientQuotaRow.named == Tryz.pinned.checked.prog.varsNamed 10)) = true := by kernel_rfl
theorem clientQuotaj13 : ((Rows.clientQuotaRow.maps == (Tryz.f10.params.toList ++ Rows.clientQuotaSpec.plain.varTypes Tryz.pinned.checked.prog).any (Tryz.pinned.checked.prog.mapsRec ·))) = true := by kernel_rfl
theorem clientQuotaj14 : ((Rows.clientQuotaRow.ifaces == (Tryz.f10.params.toList ++ Rows.clientQuotaSpec.plain.varTypes Tryz.pinned.checked.prog).any (Tryz.pinned.checked.prog.ifacesRec ·))) = true := by kernel_rfl
theorem clientQuotaj15 : ((Rows.clientQuotaRow.mapsOut == Tryz.pinned.checked.prog.mapsAmong Tryz.f10.resultTypes.toList)) = true := by kernel_rfl
theorem clientQuotaj16 : ((Rows.clientQuotaRow.loops == (Tryz.f10.params.toList ++ Rows.clientQuotaSpec.plain.varTypes Tryz.pinned.checked.prog).any (Tryz.pinned.checked.prog.loopsFrom ·))) = true := by kernel_rfl
theorem clientQuotaj17 : ((Rows.clientQuotaRow.wideKeys == (Tryz.f10.params.toList ++ Rows.clientQuotaSpec.plain.varTypes Tryz.pinned.checked.prog ++ Tryz.f10.resultTypes.toList).any (Tryz.pinned.checked.prog.wideKeysFrom ·))) = true := by kernel_rfl
theorem clientQuotaj18 : (Rows.clientQuotaSpec.vars.all (Tryz.pinned.checked.prog.varReadable ·)) = true := by kernel_rfl
theorem clientQuotaj19 : (Tryz.f10.resultTypes.all (fun t => Tryz.pinned.checked.prog.readableRec t && decide (t < Tryz.pinned.checked.prog.types.size))) = true := by kernel_rfl
theorem clientQuotaj20 : ((Rows.clientQuotaRow.ifacesOut == Tryz.f10.resultTypes.toList.any (Tryz.pinned.checked.prog.ifacesRec ·))) = true := by kernel_rfl
theorem clientQuotaj21 : ((Rows.clientQuotaRow.loopsOut == Tryz.f10.resultTypes.toList.any (Tryz.pinned.checked.prog.loopsFrom ·))) = true := by kernel_rfl
theorem clientQuotaj22 : ((Rows.clientQuotaRow.plainKeys == Tryz.pinned.checked.prog.plainKeys)) = true := by kernel_rfl
theorem clientQuotaj23 : (Rows.clientQuotaRow.shortTexts.isNone) = true := by kernel_rfl
theorem clientQuotaj24 : (Tryz.pinned.checked.prog.stopsHeard) = true := by kernel_rfl
theorem clientQuotaj25 : (Tryz.pinned.checked.prog.mayEnter) = true := by kernel_rfl
theorem clientQuotaj26 : ((Rows.clientQuotaRow.lifted == Tryz.pinned.checked.prog.liftsFinal)) = true := by kernel_rfl
theorem clientQuotaj27 : ((Tryz.pinned.checked.prog.make == some Rows.clientQuotaRow.make)) = true := by kernel_rfl
theorem clientQuotaj28 : ((Rows.clientQuotaRow.kinds == (if Rows.clientQuotaRow.domain.isEmpty then [] else Tryz.f10.params.toList.map fun t => match Tryz.pinned.checked.prog.underlying t with | some (.int k) => some k | _ => none))) = true := by kernel_rfl
theorem clientQuotaj29 : ((Rows.clientQuotaRow.pinned == Rows.clientQuotaRow.pinnedBy)) = true := by kernel_rfl
theorem clientQuotaj30 : ((Rows.clientQuotaRow.veiled == (Tryz.f10.params.toList ++ Rows.clientQuotaSpec.plain.varTypes Tryz.pinned.checked.prog ++ Tryz.f10.resultTypes.toList).any (Tryz.pinned.checked.prog.veiledRec ·))) = true := by kernel_rfl
theorem clientQuotaj31 : (Rows.clientQuotaRow.veiledFits Tryz.pinned.checked.prog Tryz.f10.params.toList (Tryz.f10.params.toList ++ Rows.clientQuotaSpec.plain.varTypes Tryz.pinned.checked.prog ++ Tryz.f10.resultTypes.toList)) = true := by kernel_rfl
set_option maxRecDepth 1000000 in
theorem clientQuotaJoined : joinedFacts Tryz.pinned.checked.prog 10 Tryz.f10 Rows.clientQuotaSpec Rows.clientQuotaRow = true :=
  joined_of _ _ _ _ _ clientQuotaj0 clientQuotaj1 clientQuotaj2 clientQuotaj3 clientQuotaj4 clientQuotaj5 clientQuotaj6 clientQuotaj7 clientQuotaj8 clientQuotaj9 clientQuotaj10 clientQuotaj11 clientQuotaj12 clientQuotaj13 clientQuotaj14 clientQuotaj15 clientQuotaj16 clientQuotaj17 clientQuotaj18 clientQuotaj19 clientQuotaj20 clientQuotaj21 clientQuotaj22 clientQuotaj23 clientQuotaj24 clientQuotaj25 clientQuotaj26 clientQuotaj27 clientQuotaj28 clientQuotaj29 clientQuotaj30 clientQuotaj31

end Go.Proofs.YtablogiielclaaaGreat
