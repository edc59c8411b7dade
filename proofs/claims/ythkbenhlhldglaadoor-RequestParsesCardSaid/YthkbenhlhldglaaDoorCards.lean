/-
  DERIVED. GIVEN WITH THE SEED: THE CARDS: each row of YthkbenhlhldglaaDoorRows.lean that lists a variable, with what it lists TIED to the program's text (the seventh form; the later family's looks); each row that meets fmt, with fmt's text TOLD by the authors' own Lean function (tested against real Go, not proved from fmt's source: count such statements apart). THE CARD IS WHAT COUNTS. Prove the row's statement (the work); the ties are given (YthkbenhlhldglaaDoorTie.lean); close each card by the builder's one call (the guide's Derived/Test/ToyasCard.lean, 'card_holds'). Laid BY PROGRAM, IN A SANDBOX (cutbox-door.mjs). By AI agents, Wed Nov 11 2026. No macro, syntax, notation, axiom, sorry.
-/
import Derived.Test.YthkbenhlhldglaaDoorRows
import GoSem.ClaimSeven
namespace Go.Proofs.YthkbenhlhldglaaDoor
namespace Rows

/-- THE TIED CARD OF 'rondellaw09.RequestReads'. -/
def requestReadsCard : Claim7 := { stood := { row := requestReadsRow, standIns := [], harness := (true, "03db3891b4bf0bbc78d1254377f1a234904db8e0f4a421f3da8fc197d765e9c6"), looks := true }, kinds := [], alts := [], laidByText := true, laidKinds := [.data, .pinned], laidTests := true, laidLooks := .later }
def RequestReadsCardSaid : Prop := Claim7.holds Tryd.pinned (.plain (OpenSpec.ofChange requestReadsSpec)) requestReadsCard

/-- THE TIED CARD OF 'rondellaw09.RequestWrites'. -/
def requestWritesCard : Claim7 := { stood := { row := requestWritesRow, standIns := [], harness := (true, "03db3891b4bf0bbc78d1254377f1a234904db8e0f4a421f3da8fc197d765e9c6"), looks := true }, kinds := [], alts := [], laidByText := true, laidKinds := [.data, .pinned], laidTests := true, laidLooks := .later }
def RequestWritesCardSaid : Prop := Claim7.holds Tryd.pinned (.plain (OpenSpec.ofChange requestWritesSpec)) requestWritesCard

/-- THE TIED CARD OF 'rondellaw09.RequestParses'. -/
def requestParsesCard : Claim7 := { stood := { row := requestParsesRow, standIns := [], harness := (true, "03db3891b4bf0bbc78d1254377f1a234904db8e0f4a421f3da8fc197d765e9c6"), looks := true }, kinds := [], alts := [], laidByText := true, laidKinds := [.data, .pinned], laidTests := true, laidLooks := .later }
def RequestParsesCardSaid : Prop := Claim7.holds Tryd.pinned (.plain (OpenSpec.ofChange requestParsesSpec)) requestParsesCard

/-- THE TIED CARD OF 'rondellaw09.RequestBounds'. -/
def requestBoundsCard : Claim7 := { stood := { row := requestBoundsRow, standIns := [], harness := (true, "03db3891b4bf0bbc78d1254377f1a234904db8e0f4a421f3da8fc197d765e9c6"), looks := true }, kinds := [], alts := [], laidByText := true, laidKinds := [.data, .pinned], laidTests := true, laidLooks := .later }
def RequestBoundsCardSaid : Prop := Claim7.holds Tryd.pinned (.plain (OpenSpec.ofChange requestBoundsSpec)) requestBoundsCard

/-- THE TIED CARD OF 'rondellaw10.EventWrites'. -/
def eventWritesCard : Claim7 := { stood := { row := eventWritesRow, standIns := [], harness := (true, "03db3891b4bf0bbc78d1254377f1a234904db8e0f4a421f3da8fc197d765e9c6"), looks := true }, kinds := [], alts := [], laidByText := true, laidKinds := [.data, .data, .pinned], laidTests := true, laidLooks := .later }
def EventWritesCardSaid : Prop := Claim7.holds Tryd.pinned (.plain (OpenSpec.ofChange eventWritesSpec)) eventWritesCard

/-- THE TIED CARD OF 'rondellaw10.EventReads'. -/
def eventReadsCard : Claim7 := { stood := { row := eventReadsRow, standIns := [], harness := (true, "03db3891b4bf0bbc78d1254377f1a234904db8e0f4a421f3da8fc197d765e9c6"), looks := true }, kinds := [], alts := [], laidByText := true, laidKinds := [.data, .data, .pinned], laidTests := true, laidLooks := .later }
def EventReadsCardSaid : Prop := Claim7.holds Tryd.pinned (.plain (OpenSpec.ofChange eventReadsSpec)) eventReadsCard

/-- THE TIED CARD OF 'rondellaw10.EventShows'. -/
def eventShowsCard : Claim7 := { stood := { row := eventShowsRow, standIns := [], harness := (true, "03db3891b4bf0bbc78d1254377f1a234904db8e0f4a421f3da8fc197d765e9c6"), looks := true }, kinds := [], alts := [], laidByText := true, laidKinds := [.data, .data, .data, .data, .data, .pinned], laidTests := true, laidLooks := .later }
def EventShowsCardSaid : Prop := Claim7.holds Tryd.pinned (.plain (OpenSpec.ofChange eventShowsSpec)) eventShowsCard

/-- THE TIED CARD OF 'rondellaw10.EventRow'. -/
def eventRowCard : Claim7 := { stood := { row := eventRowRow, standIns := [], harness := (true, "03db3891b4bf0bbc78d1254377f1a234904db8e0f4a421f3da8fc197d765e9c6"), looks := true }, kinds := [], alts := [], laidByText := true, laidKinds := [.data, .data, .pinned], laidTests := true, laidLooks := .later }
def EventRowCardSaid : Prop := Claim7.holds Tryd.pinned (.plain (OpenSpec.ofChange eventRowSpec)) eventRowCard

/-- THE TIED CARD OF 'rondellaw10.EventWords'. -/
def eventWordsCard : Claim7 := { stood := { row := eventWordsRow, standIns := [], harness := (true, "03db3891b4bf0bbc78d1254377f1a234904db8e0f4a421f3da8fc197d765e9c6"), looks := true }, kinds := [], alts := [], laidByText := true, laidKinds := [.data, .data, .data, .data, .data, .pinned], laidTests := true, laidLooks := .later }
def EventWordsCardSaid : Prop := Claim7.holds Tryd.pinned (.plain (OpenSpec.ofChange eventWordsSpec)) eventWordsCard

/-- THE SECOND FORM's CARD OF 'rondellaw09.RequestReads'. -/
def requestReadsUptoCard : Claim7 := { stood := { row := requestReadsUptoRow, standIns := [], harness := (true, "03db3891b4bf0bbc78d1254377f1a234904db8e0f4a421f3da8fc197d765e9c6"), looks := true }, kinds := [], alts := [], laidByText := true, laidKinds := [.data, .pinned], laidTests := true, laidLooks := .later }
def RequestReadsUptoCardSaid : Prop := Claim7.holds Tryd.pinned (.plain (OpenSpec.upto requestReadsSpec)) requestReadsUptoCard

/-- THE SECOND FORM's CARD OF 'rondellaw09.RequestWrites'. -/
def requestWritesUptoCard : Claim7 := { stood := { row := requestWritesUptoRow, standIns := [], harness := (true, "03db3891b4bf0bbc78d1254377f1a234904db8e0f4a421f3da8fc197d765e9c6"), looks := true }, kinds := [], alts := [], laidByText := true, laidKinds := [.data, .pinned], laidTests := true, laidLooks := .later }
def RequestWritesUptoCardSaid : Prop := Claim7.holds Tryd.pinned (.plain (OpenSpec.upto requestWritesSpec)) requestWritesUptoCard

/-- THE SECOND FORM's CARD OF 'rondellaw09.RequestParses'. -/
def requestParsesUptoCard : Claim7 := { stood := { row := requestParsesUptoRow, standIns := [], harness := (true, "03db3891b4bf0bbc78d1254377f1a234904db8e0f4a421f3da8fc197d765e9c6"), looks := true }, kinds := [], alts := [], laidByText := true, laidKinds := [.data, .pinned], laidTests := true, laidLooks := .later }
def RequestParsesUptoCardSaid : Prop := Claim7.holds Tryd.pinned (.plain (OpenSpec.upto requestParsesSpec)) requestParsesUptoCard

/-- THE SECOND FORM's CARD OF 'rondellaw09.RequestBounds'. -/
def requestBoundsUptoCard : Claim7 := { stood := { row := requestBoundsUptoRow, standIns := [], harness := (true, "03db3891b4bf0bbc78d1254377f1a234904db8e0f4a421f3da8fc197d765e9c6"), looks := true }, kinds := [], alts := [], laidByText := true, laidKinds := [.data, .pinned], laidTests := true, laidLooks := .later }
def RequestBoundsUptoCardSaid : Prop := Claim7.holds Tryd.pinned (.plain (OpenSpec.upto requestBoundsSpec)) requestBoundsUptoCard

/-- THE SECOND FORM's CARD OF 'rondellaw10.EventWrites'. -/
def eventWritesUptoCard : Claim7 := { stood := { row := eventWritesUptoRow, standIns := [], harness := (true, "03db3891b4bf0bbc78d1254377f1a234904db8e0f4a421f3da8fc197d765e9c6"), looks := true }, kinds := [], alts := [], laidByText := true, laidKinds := [.data, .data, .pinned], laidTests := true, laidLooks := .later }
def EventWritesUptoCardSaid : Prop := Claim7.holds Tryd.pinned (.plain (OpenSpec.upto eventWritesSpec)) eventWritesUptoCard

/-- THE SECOND FORM's CARD OF 'rondellaw10.EventReads'. -/
def eventReadsUptoCard : Claim7 := { stood := { row := eventReadsUptoRow, standIns := [], harness := (true, "03db3891b4bf0bbc78d1254377f1a234904db8e0f4a421f3da8fc197d765e9c6"), looks := true }, kinds := [], alts := [], laidByText := true, laidKinds := [.data, .data, .pinned], laidTests := true, laidLooks := .later }
def EventReadsUptoCardSaid : Prop := Claim7.holds Tryd.pinned (.plain (OpenSpec.upto eventReadsSpec)) eventReadsUptoCard

/-- THE SECOND FORM's CARD OF 'rondellaw10.EventShows'. -/
def eventShowsUptoCard : Claim7 := { stood := { row := eventShowsUptoRow, standIns := [], harness := (true, "03db3891b4bf0bbc78d1254377f1a234904db8e0f4a421f3da8fc197d765e9c6"), looks := true }, kinds := [], alts := [], laidByText := true, laidKinds := [.data, .data, .data, .data, .data, .pinned], laidTests := true, laidLooks := .later }
def EventShowsUptoCardSaid : Prop := Claim7.holds Tryd.pinned (.plain (OpenSpec.upto eventShowsSpec)) eventShowsUptoCard

/-- THE SECOND FORM's CARD OF 'rondellaw10.EventRow'. -/
def eventRowUptoCard : Claim7 := { stood := { row := eventRowUptoRow, standIns := [], harness := (true, "03db3891b4bf0bbc78d1254377f1a234904db8e0f4a421f3da8fc197d765e9c6"), looks := true }, kinds := [], alts := [], laidByText := true, laidKinds := [.data, .data, .pinned], laidTests := true, laidLooks := .later }
def EventRowUptoCardSaid : Prop := Claim7.holds Tryd.pinned (.plain (OpenSpec.upto eventRowSpec)) eventRowUptoCard

/-- THE SECOND FORM's CARD OF 'rondellaw10.EventWords'. -/
def eventWordsUptoCard : Claim7 := { stood := { row := eventWordsUptoRow, standIns := [], harness := (true, "03db3891b4bf0bbc78d1254377f1a234904db8e0f4a421f3da8fc197d765e9c6"), looks := true }, kinds := [], alts := [], laidByText := true, laidKinds := [.data, .data, .data, .data, .data, .pinned], laidTests := true, laidLooks := .later }
def EventWordsUptoCardSaid : Prop := Claim7.holds Tryd.pinned (.plain (OpenSpec.upto eventWordsSpec)) eventWordsUptoCard
end Rows
end Go.Proofs.YthkbenhlhldglaaDoor
