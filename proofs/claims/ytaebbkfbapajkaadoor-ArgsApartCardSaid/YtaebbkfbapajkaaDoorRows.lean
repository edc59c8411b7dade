/-
  NARROWER THAN 'FOR EVERY INPUT', by the rows' own cells (each row's printed sentence says how): ArgsPack: laid · ArgsUnpack: laid · ArgsRound: laid · ArgsSizes: laid · ArgsApart: laid · ArgsTypes: laid.
  DERIVED. THE GIVEN ROWS OF THIS SEAT. 6 by the template 'for every input the law returns true; each argument reads behind the call as it read before'; 0 by the template 'total and deterministic' (their statements: YtaebbkfbapajkaaDoorTotals.lean).
  GIVEN WITH THE SEED: the statements are not yours to turn. If you find one false, say at which input.
  Laid BY PROGRAM, IN A SANDBOX (cutbox-rows.mjs): the forced cells as the released guide's own fill.sh prints them over the translation 11e1cd7be8890804… (all of the seat's roots in one cut). By AI agents, Wed Nov 11 2026. No macro, syntax, notation, axiom, sorry.
-/
import Derived.Test.YtaebbkfbapajkaaDoorChecked
import GoSem.PinnedTables
import GoSem.Claim
import GoSem.ClaimJoined
import GoSem.ClaimMapViews
import Derived.JoinedTies
import Derived.KernelRfl
namespace Go.Proofs.YtaebbkfbapajkaaDoor
/- THE CELL 'sum', in the pinned program and in every row, IS THE sha256 OF THE DUMP (.gsa) THAT YtaebbkfbapajkaaDoorProg.lean LOADS. Nothing in Lean hashes anything: it is a label: what it is worth is what the hold of that sum in a sandbox is worth. -/
noncomputable def Tryd.pinned : Pinned := { name := "ytaebbkfbapajkaadoor", sum := "11e1cd7be8890804142dea067faecacd85ab4cfbae863bf4df9a324e7d80041b", checked := Tryd.checked }
namespace Rows
def none {H : Type} : Left H := { results := [], args := [] }

/- WHAT THE LISTED PACKAGE-LEVEL VARIABLES READ AS WHEN THE CALL BEGINS. Each datum BY PROGRAM (the guide's laid-datum.mjs) off the statement by which the dump's own 'gosem.cut.vars' lays the variable. In a bare row this is a premise. The card (YtaebbkfbapajkaaDoorCards.lean) ties it to the program's text. -/
def laid_unicode_utf8_acceptRanges {H : Type} : DataW H := .agg [.agg [.lit (.int .u8 128), .lit (.int .u8 191)], .agg [.lit (.int .u8 160), .lit (.int .u8 191)], .agg [.lit (.int .u8 128), .lit (.int .u8 159)], .agg [.lit (.int .u8 144), .lit (.int .u8 191)], .agg [.lit (.int .u8 128), .lit (.int .u8 143)], .agg [.lit (.int .u8 0), .lit (.int .u8 0)], .agg [.lit (.int .u8 0), .lit (.int .u8 0)], .agg [.lit (.int .u8 0), .lit (.int .u8 0)], .agg [.lit (.int .u8 0), .lit (.int .u8 0)], .agg [.lit (.int .u8 0), .lit (.int .u8 0)], .agg [.lit (.int .u8 0), .lit (.int .u8 0)], .agg [.lit (.int .u8 0), .lit (.int .u8 0)], .agg [.lit (.int .u8 0), .lit (.int .u8 0)], .agg [.lit (.int .u8 0), .lit (.int .u8 0)], .agg [.lit (.int .u8 0), .lit (.int .u8 0)], .agg [.lit (.int .u8 0), .lit (.int .u8 0)]]
/-- One of Go's own tables, pinned by name: the form's constant. -/
def laid_unicode_utf8_first : DataW Unit := Go.Pinned.utf8First

/-- 'rondellaw08.ArgsPack': WHATEVER THE INPUT: true; the input reads as it did. -/
def argsPackSpec : ChangeSpec := { name := "argsPack", fn := fun _ => fun
  | [d1, d2] => { results := [.lit (.bool true)], args := [d1, d2] }
  | _ => none }
def argsPackRow : OpenClaim := { program := "ytaebbkfbapajkaadoor", sum := "11e1cd7be8890804142dea067faecacd85ab4cfbae863bf4df9a324e7d80041b", func := "rondel/rondellaw08.ArgsPack", spec := "argsPack", inPlace := ["internal/bytealg.IndexByteString", "internal/bytealg.IndexString"], named := ["unicode/utf8.first", "unicode/utf8.acceptRanges", "internal/bytealg.MaxLen"], apart := false, laid := [("unicode/utf8.acceptRanges", laid_unicode_utf8_acceptRanges), ("unicode/utf8.first", laid_unicode_utf8_first)] }
def ArgsPackSaid : Prop := argsPackRow.holds Tryd.pinned (OpenSpec.ofChange argsPackSpec)

/-- ITS FALSE NEIGHBOUR: 'it returns false'. Refute it at one input. -/
def argsPackWrong : ChangeSpec := { name := "argsPack", fn := fun _ => fun
  | [d1, d2] => { results := [.lit (.bool false)], args := [d1, d2] }
  | _ => none }
def ArgsPackWrongFalsely : Prop := argsPackRow.holds Tryd.pinned (OpenSpec.ofChange argsPackWrong)

/-- 'rondellaw08.ArgsUnpack': WHATEVER THE INPUT: true; the input reads as it did. -/
def argsUnpackSpec : ChangeSpec := { name := "argsUnpack", fn := fun _ => fun
  | [d1, d2] => { results := [.lit (.bool true)], args := [d1, d2] }
  | _ => none }
def argsUnpackRow : OpenClaim := { program := "ytaebbkfbapajkaadoor", sum := "11e1cd7be8890804142dea067faecacd85ab4cfbae863bf4df9a324e7d80041b", func := "rondel/rondellaw08.ArgsUnpack", spec := "argsUnpack", inPlace := ["internal/bytealg.IndexByteString", "internal/bytealg.IndexString"], named := ["unicode/utf8.first", "unicode/utf8.acceptRanges", "internal/bytealg.MaxLen"], apart := false, laid := [("unicode/utf8.acceptRanges", laid_unicode_utf8_acceptRanges), ("unicode/utf8.first", laid_unicode_utf8_first)] }
def ArgsUnpackSaid : Prop := argsUnpackRow.holds Tryd.pinned (OpenSpec.ofChange argsUnpackSpec)

/-- ITS FALSE NEIGHBOUR: 'it returns false'. Refute it at one input. -/
def argsUnpackWrong : ChangeSpec := { name := "argsUnpack", fn := fun _ => fun
  | [d1, d2] => { results := [.lit (.bool false)], args := [d1, d2] }
  | _ => none }
def ArgsUnpackWrongFalsely : Prop := argsUnpackRow.holds Tryd.pinned (OpenSpec.ofChange argsUnpackWrong)

/-- 'rondellaw08.ArgsRound': WHATEVER THE INPUT: true; the input reads as it did. -/
def argsRoundSpec : ChangeSpec := { name := "argsRound", fn := fun _ => fun
  | [d1, d2, d3] => { results := [.lit (.bool true)], args := [d1, d2, d3] }
  | _ => none }
def argsRoundRow : OpenClaim := { program := "ytaebbkfbapajkaadoor", sum := "11e1cd7be8890804142dea067faecacd85ab4cfbae863bf4df9a324e7d80041b", func := "rondel/rondellaw08.ArgsRound", spec := "argsRound", inPlace := ["internal/bytealg.IndexByteString", "internal/bytealg.IndexString"], named := ["unicode/utf8.first", "unicode/utf8.acceptRanges", "internal/bytealg.MaxLen"], apart := false, laid := [("unicode/utf8.acceptRanges", laid_unicode_utf8_acceptRanges), ("unicode/utf8.first", laid_unicode_utf8_first)] }
def ArgsRoundSaid : Prop := argsRoundRow.holds Tryd.pinned (OpenSpec.ofChange argsRoundSpec)

/-- ITS FALSE NEIGHBOUR: 'it returns false'. Refute it at one input. -/
def argsRoundWrong : ChangeSpec := { name := "argsRound", fn := fun _ => fun
  | [d1, d2, d3] => { results := [.lit (.bool false)], args := [d1, d2, d3] }
  | _ => none }
def ArgsRoundWrongFalsely : Prop := argsRoundRow.holds Tryd.pinned (OpenSpec.ofChange argsRoundWrong)

/-- 'rondellaw08.ArgsSizes': WHATEVER THE INPUT: true; the input reads as it did. -/
def argsSizesSpec : ChangeSpec := { name := "argsSizes", fn := fun _ => fun
  | [d1, d2] => { results := [.lit (.bool true)], args := [d1, d2] }
  | _ => none }
def argsSizesRow : OpenClaim := { program := "ytaebbkfbapajkaadoor", sum := "11e1cd7be8890804142dea067faecacd85ab4cfbae863bf4df9a324e7d80041b", func := "rondel/rondellaw08.ArgsSizes", spec := "argsSizes", inPlace := ["internal/bytealg.IndexByteString", "internal/bytealg.IndexString"], named := ["unicode/utf8.first", "unicode/utf8.acceptRanges", "internal/bytealg.MaxLen"], apart := false, laid := [("unicode/utf8.acceptRanges", laid_unicode_utf8_acceptRanges), ("unicode/utf8.first", laid_unicode_utf8_first)] }
def ArgsSizesSaid : Prop := argsSizesRow.holds Tryd.pinned (OpenSpec.ofChange argsSizesSpec)

/-- ITS FALSE NEIGHBOUR: 'it returns false'. Refute it at one input. -/
def argsSizesWrong : ChangeSpec := { name := "argsSizes", fn := fun _ => fun
  | [d1, d2] => { results := [.lit (.bool false)], args := [d1, d2] }
  | _ => none }
def ArgsSizesWrongFalsely : Prop := argsSizesRow.holds Tryd.pinned (OpenSpec.ofChange argsSizesWrong)

/-- 'rondellaw08.ArgsApart': WHATEVER THE INPUT: true; the input reads as it did. -/
def argsApartSpec : ChangeSpec := { name := "argsApart", fn := fun _ => fun
  | [d1, d2, d3, d4] => { results := [.lit (.bool true)], args := [d1, d2, d3, d4] }
  | _ => none }
def argsApartRow : OpenClaim := { program := "ytaebbkfbapajkaadoor", sum := "11e1cd7be8890804142dea067faecacd85ab4cfbae863bf4df9a324e7d80041b", func := "rondel/rondellaw08.ArgsApart", spec := "argsApart", inPlace := ["internal/bytealg.IndexByteString", "internal/bytealg.IndexString"], named := ["unicode/utf8.first", "unicode/utf8.acceptRanges", "internal/bytealg.MaxLen"], apart := false, laid := [("unicode/utf8.acceptRanges", laid_unicode_utf8_acceptRanges), ("unicode/utf8.first", laid_unicode_utf8_first)] }
def ArgsApartSaid : Prop := argsApartRow.holds Tryd.pinned (OpenSpec.ofChange argsApartSpec)

/-- ITS FALSE NEIGHBOUR: 'it returns false'. Refute it at one input. -/
def argsApartWrong : ChangeSpec := { name := "argsApart", fn := fun _ => fun
  | [d1, d2, d3, d4] => { results := [.lit (.bool false)], args := [d1, d2, d3, d4] }
  | _ => none }
def ArgsApartWrongFalsely : Prop := argsApartRow.holds Tryd.pinned (OpenSpec.ofChange argsApartWrong)

/-- 'rondellaw08.ArgsTypes': WHATEVER THE INPUT: true; the input reads as it did. -/
def argsTypesSpec : ChangeSpec := { name := "argsTypes", fn := fun _ => fun
  | [d] => { results := [.lit (.bool true)], args := [d] }
  | _ => none }
def argsTypesRow : OpenClaim := { program := "ytaebbkfbapajkaadoor", sum := "11e1cd7be8890804142dea067faecacd85ab4cfbae863bf4df9a324e7d80041b", func := "rondel/rondellaw08.ArgsTypes", spec := "argsTypes", inPlace := ["internal/bytealg.IndexByteString", "internal/bytealg.IndexString"], named := ["unicode/utf8.first", "unicode/utf8.acceptRanges", "internal/bytealg.MaxLen"], apart := false, laid := [("unicode/utf8.acceptRanges", laid_unicode_utf8_acceptRanges), ("unicode/utf8.first", laid_unicode_utf8_first)] }
def ArgsTypesSaid : Prop := argsTypesRow.holds Tryd.pinned (OpenSpec.ofChange argsTypesSpec)

/-- ITS FALSE NEIGHBOUR: 'it returns false'. Refute it at one input. -/
def argsTypesWrong : ChangeSpec := { name := "argsTypes", fn := fun _ => fun
  | [d] => { results := [.lit (.bool false)], args := [d] }
  | _ => none }
def ArgsTypesWrongFalsely : Prop := argsTypesRow.holds Tryd.pinned (OpenSpec.ofChange argsTypesWrong)

/- THE SECOND FORM. 'bulk': how many values and letters a reading holds, each counted each time it is reached (what is shared counts as often as it is met; a slice's spare places count too). A statement '..UptoSaid' is the law's where the arguments, and the package variables that the reading takes, are together of bulk at most 1048576: NARROWER than '..Said'. Prove '..Said' where nothing that the law and all that it calls make is longer than what came in: it says more and counts as full. Else prove '..UptoSaid'. A law counts once. -/
mutual
def uptoBulk {H : Type} : DataW H → Nat
  | .lit (.string bytes) => bytes.length + 1
  | .lit _ => 1
  | .nil => 1
  | .ptr d => uptoBulk d + 1
  | .slice elems spare => uptoBulkAll elems + uptoBulkAll spare + 1
  | .agg parts => uptoBulkAll parts + 1
  | .iface _ d => uptoBulk d + 1
  | .map entries => uptoBulkEntries entries + 1
  | .held _ => 1
def uptoBulkAll {H : Type} : List (DataW H) → Nat
  | [] => 0
  | d :: r => uptoBulk d + uptoBulkAll r
def uptoBulkEntries {H : Type} : List (Lit × DataW H) → Nat
  | [] => 0
  | x :: r => uptoBulkEntry x + uptoBulkEntries r
def uptoBulkEntry {H : Type} : Lit × DataW H → Nat
  | (.string bytes, d) => bytes.length + uptoBulk d + 1
  | (_, d) => uptoBulk d + 1
 end
def uptoSmall : (H : Type) → List (DataW H) → Bool := fun _ ds => decide (uptoBulkAll ds ≤ 1048576)
def OpenSpec.upto (s : _root_.Go.ChangeSpec) : _root_.Go.OpenSpec := { _root_.Go.OpenSpec.ofChange s with cond := some uptoSmall }

/-- 'rondellaw08.ArgsPack', WHERE WHAT IT READS IS OF BULK AT MOST 1048576: true; the input reads as it did. -/
def argsPackUptoRow : OpenClaim := { program := "ytaebbkfbapajkaadoor", sum := "11e1cd7be8890804142dea067faecacd85ab4cfbae863bf4df9a324e7d80041b", func := "rondel/rondellaw08.ArgsPack", spec := "argsPack", inPlace := ["internal/bytealg.IndexByteString", "internal/bytealg.IndexString"], named := ["unicode/utf8.first", "unicode/utf8.acceptRanges", "internal/bytealg.MaxLen"], apart := false, laid := [("unicode/utf8.acceptRanges", laid_unicode_utf8_acceptRanges), ("unicode/utf8.first", laid_unicode_utf8_first)], narrowed := true }
def ArgsPackUptoSaid : Prop := argsPackUptoRow.holds Tryd.pinned (OpenSpec.upto argsPackSpec)

/-- 'rondellaw08.ArgsUnpack', WHERE WHAT IT READS IS OF BULK AT MOST 1048576: true; the input reads as it did. -/
def argsUnpackUptoRow : OpenClaim := { program := "ytaebbkfbapajkaadoor", sum := "11e1cd7be8890804142dea067faecacd85ab4cfbae863bf4df9a324e7d80041b", func := "rondel/rondellaw08.ArgsUnpack", spec := "argsUnpack", inPlace := ["internal/bytealg.IndexByteString", "internal/bytealg.IndexString"], named := ["unicode/utf8.first", "unicode/utf8.acceptRanges", "internal/bytealg.MaxLen"], apart := false, laid := [("unicode/utf8.acceptRanges", laid_unicode_utf8_acceptRanges), ("unicode/utf8.first", laid_unicode_utf8_first)], narrowed := true }
def ArgsUnpackUptoSaid : Prop := argsUnpackUptoRow.holds Tryd.pinned (OpenSpec.upto argsUnpackSpec)

/-- 'rondellaw08.ArgsRound', WHERE WHAT IT READS IS OF BULK AT MOST 1048576: true; the input reads as it did. -/
def argsRoundUptoRow : OpenClaim := { program := "ytaebbkfbapajkaadoor", sum := "11e1cd7be8890804142dea067faecacd85ab4cfbae863bf4df9a324e7d80041b", func := "rondel/rondellaw08.ArgsRound", spec := "argsRound", inPlace := ["internal/bytealg.IndexByteString", "internal/bytealg.IndexString"], named := ["unicode/utf8.first", "unicode/utf8.acceptRanges", "internal/bytealg.MaxLen"], apart := false, laid := [("unicode/utf8.acceptRanges", laid_unicode_utf8_acceptRanges), ("unicode/utf8.first", laid_unicode_utf8_first)], narrowed := true }
def ArgsRoundUptoSaid : Prop := argsRoundUptoRow.holds Tryd.pinned (OpenSpec.upto argsRoundSpec)

/-- 'rondellaw08.ArgsSizes', WHERE WHAT IT READS IS OF BULK AT MOST 1048576: true; the input reads as it did. -/
def argsSizesUptoRow : OpenClaim := { program := "ytaebbkfbapajkaadoor", sum := "11e1cd7be8890804142dea067faecacd85ab4cfbae863bf4df9a324e7d80041b", func := "rondel/rondellaw08.ArgsSizes", spec := "argsSizes", inPlace := ["internal/bytealg.IndexByteString", "internal/bytealg.IndexString"], named := ["unicode/utf8.first", "unicode/utf8.acceptRanges", "internal/bytealg.MaxLen"], apart := false, laid := [("unicode/utf8.acceptRanges", laid_unicode_utf8_acceptRanges), ("unicode/utf8.first", laid_unicode_utf8_first)], narrowed := true }
def ArgsSizesUptoSaid : Prop := argsSizesUptoRow.holds Tryd.pinned (OpenSpec.upto argsSizesSpec)

/-- 'rondellaw08.ArgsApart', WHERE WHAT IT READS IS OF BULK AT MOST 1048576: true; the input reads as it did. -/
def argsApartUptoRow : OpenClaim := { program := "ytaebbkfbapajkaadoor", sum := "11e1cd7be8890804142dea067faecacd85ab4cfbae863bf4df9a324e7d80041b", func := "rondel/rondellaw08.ArgsApart", spec := "argsApart", inPlace := ["internal/bytealg.IndexByteString", "internal/bytealg.IndexString"], named := ["unicode/utf8.first", "unicode/utf8.acceptRanges", "internal/bytealg.MaxLen"], apart := false, laid := [("unicode/utf8.acceptRanges", laid_unicode_utf8_acceptRanges), ("unicode/utf8.first", laid_unicode_utf8_first)], narrowed := true }
def ArgsApartUptoSaid : Prop := argsApartUptoRow.holds Tryd.pinned (OpenSpec.upto argsApartSpec)

/-- 'rondellaw08.ArgsTypes', WHERE WHAT IT READS IS OF BULK AT MOST 1048576: true; the input reads as it did. -/
def argsTypesUptoRow : OpenClaim := { program := "ytaebbkfbapajkaadoor", sum := "11e1cd7be8890804142dea067faecacd85ab4cfbae863bf4df9a324e7d80041b", func := "rondel/rondellaw08.ArgsTypes", spec := "argsTypes", inPlace := ["internal/bytealg.IndexByteString", "internal/bytealg.IndexString"], named := ["unicode/utf8.first", "unicode/utf8.acceptRanges", "internal/bytealg.MaxLen"], apart := false, laid := [("unicode/utf8.acceptRanges", laid_unicode_utf8_acceptRanges), ("unicode/utf8.first", laid_unicode_utf8_first)], narrowed := true }
def ArgsTypesUptoSaid : Prop := argsTypesUptoRow.holds Tryd.pinned (OpenSpec.upto argsTypesSpec)

end Rows
end Go.Proofs.YtaebbkfbapajkaaDoor
