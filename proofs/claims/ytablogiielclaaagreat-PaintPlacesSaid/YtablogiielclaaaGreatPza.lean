/-
  What is proved: the closed facts of the row of PaintPlaces. No conditions.
-/
import Derived.Test.YtablogiielclaaaGreatZz17
import Derived.Test.YtablogiielclaaaGreatRows
namespace Go.Proofs.YtablogiielclaaaGreat

theorem paintPlacesj0 : (Rows.paintPlacesRow.wf (OpenSpec.ofChange Rows.paintPlacesSpec)) = true := by kernel_rfl
theorem paintPlacesj1 : (laidOutB Tryz.pinned.checked.prog) = true := by kernel_rfl
theorem paintPlacesj2 : (mapsRowed Tryz.pinned.checked.prog) = true := by kernel_rfl
theorem paintPlacesj3 : (Tryz.f13.params.all (Tryz.pinned.checked.prog.readableRec ·)) = true := by kernel_rfl
theorem paintPlacesj4 : (namedTie Tryz.pinned.checked.prog Rows.paintPlacesRow.named Rows.paintPlacesSpec.vars) = true := by kernel_rfl
theorem paintPlacesj5 : ((Rows.paintPlacesRow.stops == [])) = true := by kernel_rfl
theorem paintPlacesj6 : ((Tryz.pinned.checked.prog.stops == [])) = true := by kernel_rfl
theorem paintPlacesj7 : ((Rows.paintPlacesRow.knobs == [])) = true := by kernel_rfl
theorem paintPlacesj8 : ((Tryz.pinned.checked.prog.stopKnobs == [])) = true := by kernel_rfl
theorem paintPlacesj9 : ((Rows.paintPlacesRow.inPlace == Tryz.pinned.checked.prog.inPlace 13)) = true := by kernel_rfl
theorem paintPlacesj10 : ((Rows.paintPlacesRow.unfollowed == Tryz.pinned.checked.prog.unfollowed 13)) = true := by kernel_rfl
theorem paintPlacesj11 : ((Rows.paintPlacesRow.recurses == Tryz.pinned.checked.prog.recurses 13)) = true := by kernel_rfl
theorem paintPlacesj12 : ((Rows.paintPlacesRow.named == Tryz.pinned.checked.prog.varsNamed 13)) = true := by kernel_rfl
theorem paintPlacesj13 : ((Rows.paintPlacesRow.maps == (Tryz.f13.params.toList ++ Rows.paintPlacesSpec.plain.varTypes Tryz.pinned.checked.prog).any (Tryz.pinned.checked.prog.mapsRec ·))) = true := by kernel_rfl
theorem paintPlacesj14 : ((Rows.paintPlacesRow.ifaces == (Tryz.f13.params.toList ++ Rows.paintPlacesSpec.plain.varTypes Tryz.pinned.checked.prog).any (Tryz.pinned.checked.prog.ifacesRec ·))) = true := by kernel_rfl
theorem paintPlacesj15 : ((Rows.paintPlacesRow.mapsOut == Tryz.pinned.checked.prog.mapsAmong Tryz.f13.resultTypes.toList)) = true := by kernel_rfl
theorem paintPlacesj16 : ((Rows.paintPlacesRow.loops == (Tryz.f13.params.toList ++ Rows.paintPlacesSpec.plain.varTypes Tryz.pinned.checked.prog).any (Tryz.pinned.checked.prog.loopsFrom ·))) = true := by kernel_rfl
theorem paintPlacesj17 : ((Rows.paintPlacesRow.wideKeys == (Tryz.f13.params.toList ++ Rows.paintPlacesSpec.plain.varTypes Tryz.pinned.checked.prog ++ Tryz.f13.resultTypes.toList).any (Tryz.pinned.checked.prog.wideKeysFrom ·))) = true := by kernel_rfl
theorem paintPlacesj18 : (Rows.paintPlacesSpec.vars.all (Tryz.pinned.checked.prog.varReadable ·)) = true := by kernel_rfl
theorem paintPlacesj19 : (Tryz.f13.resultTypes.all (fun t => Tryz.pinned.checked.prog.readableRec t && decide (t < Tryz.pinned.checked.prog.types.size))) = true := by kernel_rfl
theorem paintPlacesj20 : ((Rows.paintPlacesRow.ifacesOut == Tryz.f13.resultTypes.toList.any (Tryz.pinned.checked.prog.ifacesRec ·))) = true := by kernel_rfl
theorem paintPlacesj21 : ((Rows.paintPlacesRow.loopsOut == Tryz.f13.resultTypes.toList.any (Tryz.pinned.checked.prog.loopsFrom ·))) = true := by kernel_rfl
theorem paintPlacesj22 : ((Rows.paintPlacesRow.plainKeys == Tryz.pinned.checked.prog.plainKeys)) = true := by kernel_rfl
theorem paintPlacesj23 : (Rows.paintPlacesRow.shortTexts.isNone) = true := by kernel_rfl
theorem paintPlacesj24 : (Tryz.pinned.checked.prog.stopsHeard) = true := by kernel_rfl
theorem paintPlacesj25 : (Tryz.pinned.checked.prog.mayEnter) = true := by kernel_rfl
theorem paintPlacesj26 : ((Rows.paintPlacesRow.lifted == Tryz.pinned.checked.prog.liftsFinal)) = true := by kernel_rfl
theorem paintPlacesj27 : ((Tryz.pinned.checked.prog.make == some Rows.paintPlacesRow.make)) = true := by kernel_rfl
theorem paintPlacesj28 : ((Rows.paintPlacesRow.kinds == (if Rows.paintPlacesRow.domain.isEmpty then [] else Tryz.f13.params.toList.map fun t => match Tryz.pinned.checked.prog.underlying t with | some (.int k) => some k | _ => none))) = true := by kernel_rfl
theorem paintPlacesj29 : ((Rows.paintPlacesRow.pinned == Rows.paintPlacesRow.pinnedBy)) = true := by kernel_rfl
theorem paintPlacesj30 : ((Rows.paintPlacesRow.veiled == (Tryz.f13.params.toList ++ Rows.paintPlacesSpec.plain.varTypes Tryz.pinned.checked.prog ++ Tryz.f13.resultTypes.toList).any (Tryz.pinned.checked.prog.veiledRec ·))) = true := by kernel_rfl
theorem paintPlacesj31 : (Rows.paintPlacesRow.veiledFits Tryz.pinned.checked.prog Tryz.f13.params.toList (Tryz.f13.params.toList ++ Rows.paintPlacesSpec.plain.varTypes Tryz.pinned.checked.prog ++ Tryz.f13.resultTypes.toList)) = true := by kernel_rfl
set_option maxRecDepth 1000000 in
theorem paintPlacesJoined : joinedFacts Tryz.pinned.checked.prog 13 Tryz.f13 Rows.paintPlacesSpec Rows.paintPlacesRow = true :=
  joined_of _ _ _ _ _ paintPlacesj0 paintPlacesj1 paintPlacesj2 paintPlacesj3 paintPlacesj4 paintPlacesj5 paintPlacesj6 paintPlacesj7 paintPlacesj8 paintPlacesj9 paintPlacesj10 paintPlacesj11 paintPlacesj12 paintPlacesj13 paintPlacesj14 paintPlacesj15 paintPlacesj16 paintPlacesj17 paintPlacesj18 paintPlacesj19 paintPlacesj20 paintPlacesj21 paintPlacesj22 paintPlacesj23 paintPlacesj24 paintPlacesj25 paintPlacesj26 paintPlacesj27 paintPlacesj28 paintPlacesj29 paintPlacesj30 paintPlacesj31

end Go.Proofs.YtablogiielclaaaGreat
