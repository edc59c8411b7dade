/-
  DERIVED. GIVEN WITH THE SEED: THE CARDS: each row of YtaebbkfbapajkaaDoorRows.lean that lists a variable, with what it lists TIED to the program's text (the seventh form; the later family's looks); each row that meets fmt, with fmt's text TOLD by the authors' own Lean function (tested against real Go, not proved from fmt's source: count such statements apart). THE CARD IS WHAT COUNTS. Prove the row's statement (the work); the ties are given (YtaebbkfbapajkaaDoorTie.lean); close each card by the builder's one call (the guide's Derived/Test/ToyasCard.lean, 'card_holds'). Laid BY PROGRAM, IN A SANDBOX (cutbox-door.mjs). By AI agents, Wed Nov 11 2026. No macro, syntax, notation, axiom, sorry.
-/
import Derived.Test.YtaebbkfbapajkaaDoorRows
import GoSem.ClaimSeven
namespace Go.Proofs.YtaebbkfbapajkaaDoor
namespace Rows

/-- THE TIED CARD OF 'rondellaw08.ArgsPack'. -/
def argsPackCard : Claim7 := { stood := { row := argsPackRow, standIns := [], harness := (true, "ca418e7eda935d05439edc4afe7bb0598096f0952370f5cba2b62cb52381f463"), looks := true }, kinds := [], alts := [], laidByText := true, laidKinds := [.data, .pinned], laidTests := true, laidLooks := .later }
def ArgsPackCardSaid : Prop := Claim7.holds Tryd.pinned (.plain (OpenSpec.ofChange argsPackSpec)) argsPackCard

/-- THE TIED CARD OF 'rondellaw08.ArgsUnpack'. -/
def argsUnpackCard : Claim7 := { stood := { row := argsUnpackRow, standIns := [], harness := (true, "ca418e7eda935d05439edc4afe7bb0598096f0952370f5cba2b62cb52381f463"), looks := true }, kinds := [], alts := [], laidByText := true, laidKinds := [.data, .pinned], laidTests := true, laidLooks := .later }
def ArgsUnpackCardSaid : Prop := Claim7.holds Tryd.pinned (.plain (OpenSpec.ofChange argsUnpackSpec)) argsUnpackCard

/-- THE TIED CARD OF 'rondellaw08.ArgsRound'. -/
def argsRoundCard : Claim7 := { stood := { row := argsRoundRow, standIns := [], harness := (true, "ca418e7eda935d05439edc4afe7bb0598096f0952370f5cba2b62cb52381f463"), looks := true }, kinds := [], alts := [], laidByText := true, laidKinds := [.data, .pinned], laidTests := true, laidLooks := .later }
def ArgsRoundCardSaid : Prop := Claim7.holds Tryd.pinned (.plain (OpenSpec.ofChange argsRoundSpec)) argsRoundCard

/-- THE TIED CARD OF 'rondellaw08.ArgsSizes'. -/
def argsSizesCard : Claim7 := { stood := { row := argsSizesRow, standIns := [], harness := (true, "ca418e7eda935d05439edc4afe7bb0598096f0952370f5cba2b62cb52381f463"), looks := true }, kinds := [], alts := [], laidByText := true, laidKinds := [.data, .pinned], laidTests := true, laidLooks := .later }
def ArgsSizesCardSaid : Prop := Claim7.holds Tryd.pinned (.plain (OpenSpec.ofChange argsSizesSpec)) argsSizesCard

/-- THE TIED CARD OF 'rondellaw08.ArgsApart'. -/
def argsApartCard : Claim7 := { stood := { row := argsApartRow, standIns := [], harness := (true, "ca418e7eda935d05439edc4afe7bb0598096f0952370f5cba2b62cb52381f463"), looks := true }, kinds := [], alts := [], laidByText := true, laidKinds := [.data, .pinned], laidTests := true, laidLooks := .later }
def ArgsApartCardSaid : Prop := Claim7.holds Tryd.pinned (.plain (OpenSpec.ofChange argsApartSpec)) argsApartCard

/-- THE TIED CARD OF 'rondellaw08.ArgsTypes'. -/
def argsTypesCard : Claim7 := { stood := { row := argsTypesRow, standIns := [], harness := (true, "ca418e7eda935d05439edc4afe7bb0598096f0952370f5cba2b62cb52381f463"), looks := true }, kinds := [], alts := [], laidByText := true, laidKinds := [.data, .pinned], laidTests := true, laidLooks := .later }
def ArgsTypesCardSaid : Prop := Claim7.holds Tryd.pinned (.plain (OpenSpec.ofChange argsTypesSpec)) argsTypesCard

/-- THE SECOND FORM's CARD OF 'rondellaw08.ArgsPack'. -/
def argsPackUptoCard : Claim7 := { stood := { row := argsPackUptoRow, standIns := [], harness := (true, "ca418e7eda935d05439edc4afe7bb0598096f0952370f5cba2b62cb52381f463"), looks := true }, kinds := [], alts := [], laidByText := true, laidKinds := [.data, .pinned], laidTests := true, laidLooks := .later }
def ArgsPackUptoCardSaid : Prop := Claim7.holds Tryd.pinned (.plain (OpenSpec.upto argsPackSpec)) argsPackUptoCard

/-- THE SECOND FORM's CARD OF 'rondellaw08.ArgsUnpack'. -/
def argsUnpackUptoCard : Claim7 := { stood := { row := argsUnpackUptoRow, standIns := [], harness := (true, "ca418e7eda935d05439edc4afe7bb0598096f0952370f5cba2b62cb52381f463"), looks := true }, kinds := [], alts := [], laidByText := true, laidKinds := [.data, .pinned], laidTests := true, laidLooks := .later }
def ArgsUnpackUptoCardSaid : Prop := Claim7.holds Tryd.pinned (.plain (OpenSpec.upto argsUnpackSpec)) argsUnpackUptoCard

/-- THE SECOND FORM's CARD OF 'rondellaw08.ArgsRound'. -/
def argsRoundUptoCard : Claim7 := { stood := { row := argsRoundUptoRow, standIns := [], harness := (true, "ca418e7eda935d05439edc4afe7bb0598096f0952370f5cba2b62cb52381f463"), looks := true }, kinds := [], alts := [], laidByText := true, laidKinds := [.data, .pinned], laidTests := true, laidLooks := .later }
def ArgsRoundUptoCardSaid : Prop := Claim7.holds Tryd.pinned (.plain (OpenSpec.upto argsRoundSpec)) argsRoundUptoCard

/-- THE SECOND FORM's CARD OF 'rondellaw08.ArgsSizes'. -/
def argsSizesUptoCard : Claim7 := { stood := { row := argsSizesUptoRow, standIns := [], harness := (true, "ca418e7eda935d05439edc4afe7bb0598096f0952370f5cba2b62cb52381f463"), looks := true }, kinds := [], alts := [], laidByText := true, laidKinds := [.data, .pinned], laidTests := true, laidLooks := .later }
def ArgsSizesUptoCardSaid : Prop := Claim7.holds Tryd.pinned (.plain (OpenSpec.upto argsSizesSpec)) argsSizesUptoCard

/-- THE SECOND FORM's CARD OF 'rondellaw08.ArgsApart'. -/
def argsApartUptoCard : Claim7 := { stood := { row := argsApartUptoRow, standIns := [], harness := (true, "ca418e7eda935d05439edc4afe7bb0598096f0952370f5cba2b62cb52381f463"), looks := true }, kinds := [], alts := [], laidByText := true, laidKinds := [.data, .pinned], laidTests := true, laidLooks := .later }
def ArgsApartUptoCardSaid : Prop := Claim7.holds Tryd.pinned (.plain (OpenSpec.upto argsApartSpec)) argsApartUptoCard

/-- THE SECOND FORM's CARD OF 'rondellaw08.ArgsTypes'. -/
def argsTypesUptoCard : Claim7 := { stood := { row := argsTypesUptoRow, standIns := [], harness := (true, "ca418e7eda935d05439edc4afe7bb0598096f0952370f5cba2b62cb52381f463"), looks := true }, kinds := [], alts := [], laidByText := true, laidKinds := [.data, .pinned], laidTests := true, laidLooks := .later }
def ArgsTypesUptoCardSaid : Prop := Claim7.holds Tryd.pinned (.plain (OpenSpec.upto argsTypesSpec)) argsTypesUptoCard
end Rows
end Go.Proofs.YtaebbkfbapajkaaDoor
