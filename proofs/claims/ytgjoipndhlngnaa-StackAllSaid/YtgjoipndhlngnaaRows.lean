/-
  No cell of these rows narrows 'for every input' (looked for: loops, veiled, ifaces, maps, wideKeys, modest, calm, conditions, laid).
  DERIVED. THE GIVEN ROWS OF THIS SEAT. 5 by the template 'for every input the law returns true; each argument reads behind the call as it read before'; 0 by the template 'total and deterministic' (their statements: YtgjoipndhlngnaaTotals.lean).
  GIVEN WITH THE SEED: the statements are not yours to turn. If you find one false, say at which input.
  Laid BY PROGRAM, IN A SANDBOX (cutbox-rows.mjs): the forced cells as the released guide's own fill.sh prints them over the translation 773a0083da22e9eb… (all of the seat's roots in one cut). By AI agents, Wed Nov 11 2026. No macro, syntax, notation, axiom, sorry.
-/
import Derived.Test.YtgjoipndhlngnaaChecked
import GoSem.Claim
import GoSem.ClaimJoined
import GoSem.ClaimMapViews
import Derived.JoinedTies
import Derived.KernelRfl
namespace Go.Proofs.Ytgjoipndhlngnaa
/- THE CELL 'sum', in the pinned program and in every row, IS THE sha256 OF THE DUMP (.gsa) THAT YtgjoipndhlngnaaProg.lean LOADS. Nothing in Lean hashes anything: it is a label: what it is worth is what the hold of that sum in a sandbox is worth. -/
noncomputable def Try.pinned : Pinned := { name := "ytgjoipndhlngnaa", sum := "773a0083da22e9eb3655960dec0c5cb95becfde917e44b4a885789718bc3cfb9", checked := Try.checked }
namespace Rows
def none {H : Type} : Left H := { results := [], args := [] }

/-- 'rondellaw14.StackPlays': WHATEVER THE INPUT: true; the input reads as it did. -/
def stackPlaysSpec : ChangeSpec := { name := "stackPlays", fn := fun _ => fun
  | [d1, d2] => { results := [.lit (.bool true)], args := [d1, d2] }
  | _ => none }
def stackPlaysRow : OpenClaim := { program := "ytgjoipndhlngnaa", sum := "773a0083da22e9eb3655960dec0c5cb95becfde917e44b4a885789718bc3cfb9", func := "rondel/rondellaw14.StackPlays", spec := "stackPlays", inPlace := ["slices.overlaps[rondel/stack.Key]"], unfollowed := true, recurses := true, apart := false }
def StackPlaysSaid : Prop := stackPlaysRow.holds Try.pinned (OpenSpec.ofChange stackPlaysSpec)

/-- ITS FALSE NEIGHBOUR: 'it returns false'. Refute it at one input. -/
def stackPlaysWrong : ChangeSpec := { name := "stackPlays", fn := fun _ => fun
  | [d1, d2] => { results := [.lit (.bool false)], args := [d1, d2] }
  | _ => none }
def StackPlaysWrongFalsely : Prop := stackPlaysRow.holds Try.pinned (OpenSpec.ofChange stackPlaysWrong)

/-- 'rondellaw14.StackRow': WHATEVER THE INPUT: true; the input reads as it did. -/
def stackRowSpec : ChangeSpec := { name := "stackRow", fn := fun _ => fun
  | [d1, d2, d3, d4] => { results := [.lit (.bool true)], args := [d1, d2, d3, d4] }
  | _ => none }
def stackRowRow : OpenClaim := { program := "ytgjoipndhlngnaa", sum := "773a0083da22e9eb3655960dec0c5cb95becfde917e44b4a885789718bc3cfb9", func := "rondel/rondellaw14.StackRow", spec := "stackRow", inPlace := ["slices.overlaps[rondel/stack.Key]"], apart := false }
def StackRowSaid : Prop := stackRowRow.holds Try.pinned (OpenSpec.ofChange stackRowSpec)

/-- ITS FALSE NEIGHBOUR: 'it returns false'. Refute it at one input. -/
def stackRowWrong : ChangeSpec := { name := "stackRow", fn := fun _ => fun
  | [d1, d2, d3, d4] => { results := [.lit (.bool false)], args := [d1, d2, d3, d4] }
  | _ => none }
def StackRowWrongFalsely : Prop := stackRowRow.holds Try.pinned (OpenSpec.ofChange stackRowWrong)

/-- 'rondellaw14.StackDown': WHATEVER THE INPUT: true; the input reads as it did. -/
def stackDownSpec : ChangeSpec := { name := "stackDown", fn := fun _ => fun
  | [d1, d2] => { results := [.lit (.bool true)], args := [d1, d2] }
  | _ => none }
def stackDownRow : OpenClaim := { program := "ytgjoipndhlngnaa", sum := "773a0083da22e9eb3655960dec0c5cb95becfde917e44b4a885789718bc3cfb9", func := "rondel/rondellaw14.StackDown", spec := "stackDown", inPlace := ["slices.overlaps[rondel/stack.Key]"], unfollowed := true, recurses := true, apart := false }
def StackDownSaid : Prop := stackDownRow.holds Try.pinned (OpenSpec.ofChange stackDownSpec)

/-- ITS FALSE NEIGHBOUR: 'it returns false'. Refute it at one input. -/
def stackDownWrong : ChangeSpec := { name := "stackDown", fn := fun _ => fun
  | [d1, d2] => { results := [.lit (.bool false)], args := [d1, d2] }
  | _ => none }
def StackDownWrongFalsely : Prop := stackDownRow.holds Try.pinned (OpenSpec.ofChange stackDownWrong)

/-- 'rondellaw14.StackAll': WHATEVER THE INPUT: true; the input reads as it did. -/
def stackAllSpec : ChangeSpec := { name := "stackAll", fn := fun _ => fun
  | [d] => { results := [.lit (.bool true)], args := [d] }
  | _ => none }
def stackAllRow : OpenClaim := { program := "ytgjoipndhlngnaa", sum := "773a0083da22e9eb3655960dec0c5cb95becfde917e44b4a885789718bc3cfb9", func := "rondel/rondellaw14.StackAll", spec := "stackAll", inPlace := ["slices.overlaps[rondel/stack.Key]"], unfollowed := true, recurses := true, apart := false }
def StackAllSaid : Prop := stackAllRow.holds Try.pinned (OpenSpec.ofChange stackAllSpec)

/-- ITS FALSE NEIGHBOUR: 'it returns false'. Refute it at one input. -/
def stackAllWrong : ChangeSpec := { name := "stackAll", fn := fun _ => fun
  | [d] => { results := [.lit (.bool false)], args := [d] }
  | _ => none }
def StackAllWrongFalsely : Prop := stackAllRow.holds Try.pinned (OpenSpec.ofChange stackAllWrong)

/-- 'rondellaw14.StackBack': WHATEVER THE INPUT: true; the input reads as it did. -/
def stackBackSpec : ChangeSpec := { name := "stackBack", fn := fun _ => fun
  | [d1, d2] => { results := [.lit (.bool true)], args := [d1, d2] }
  | _ => none }
def stackBackRow : OpenClaim := { program := "ytgjoipndhlngnaa", sum := "773a0083da22e9eb3655960dec0c5cb95becfde917e44b4a885789718bc3cfb9", func := "rondel/rondellaw14.StackBack", spec := "stackBack", inPlace := ["slices.overlaps[rondel/stack.Key]"], apart := false }
def StackBackSaid : Prop := stackBackRow.holds Try.pinned (OpenSpec.ofChange stackBackSpec)

/-- ITS FALSE NEIGHBOUR: 'it returns false'. Refute it at one input. -/
def stackBackWrong : ChangeSpec := { name := "stackBack", fn := fun _ => fun
  | [d1, d2] => { results := [.lit (.bool false)], args := [d1, d2] }
  | _ => none }
def StackBackWrongFalsely : Prop := stackBackRow.holds Try.pinned (OpenSpec.ofChange stackBackWrong)

/- THE SECOND FORM. 'bulk': how many values and letters a reading holds, each counted each time it is reached (what is shared counts as often as it is met; a slice's spare places count too). A statement '..UptoSaid' is the law's where the arguments, and the package variables that the reading takes, are together of bulk at most 1048576: NARROWER than '..Said'. Prove '..Said' where nothing that the law and all that it calls make is longer than what came in: it says more and counts as full. Else prove '..UptoSaid'. A law counts once. -/
mutual
def uptoBulk {H : Type} : DataW H → Nat
  | .lit (.string bytes) => bytes.length + 1
  | .lit _ => 1
  | .nil => 1
  | .ptr d => uptoBulk d + 1
  | .slice elems spare => uptoBulkAll elems + uptoBulkAll spare + 1
  | .agg parts => uptoBulkAll parts + 1
  | .iface _ d => uptoBulk d + 1
  | .map entries => uptoBulkEntries entries + 1
  | .held _ => 1
def uptoBulkAll {H : Type} : List (DataW H) → Nat
  | [] => 0
  | d :: r => uptoBulk d + uptoBulkAll r
def uptoBulkEntries {H : Type} : List (Lit × DataW H) → Nat
  | [] => 0
  | x :: r => uptoBulkEntry x + uptoBulkEntries r
def uptoBulkEntry {H : Type} : Lit × DataW H → Nat
  | (.string bytes, d) => bytes.length + uptoBulk d + 1
  | (_, d) => uptoBulk d + 1
 end
def uptoSmall : (H : Type) → List (DataW H) → Bool := fun _ ds => decide (uptoBulkAll ds ≤ 1048576)
def OpenSpec.upto (s : _root_.Go.ChangeSpec) : _root_.Go.OpenSpec := { _root_.Go.OpenSpec.ofChange s with cond := some uptoSmall }

/-- 'rondellaw14.StackPlays', WHERE WHAT IT READS IS OF BULK AT MOST 1048576: true; the input reads as it did. -/
def stackPlaysUptoRow : OpenClaim := { program := "ytgjoipndhlngnaa", sum := "773a0083da22e9eb3655960dec0c5cb95becfde917e44b4a885789718bc3cfb9", func := "rondel/rondellaw14.StackPlays", spec := "stackPlays", inPlace := ["slices.overlaps[rondel/stack.Key]"], unfollowed := true, recurses := true, apart := false, narrowed := true }
def StackPlaysUptoSaid : Prop := stackPlaysUptoRow.holds Try.pinned (OpenSpec.upto stackPlaysSpec)

/-- 'rondellaw14.StackRow', WHERE WHAT IT READS IS OF BULK AT MOST 1048576: true; the input reads as it did. -/
def stackRowUptoRow : OpenClaim := { program := "ytgjoipndhlngnaa", sum := "773a0083da22e9eb3655960dec0c5cb95becfde917e44b4a885789718bc3cfb9", func := "rondel/rondellaw14.StackRow", spec := "stackRow", inPlace := ["slices.overlaps[rondel/stack.Key]"], apart := false, narrowed := true }
def StackRowUptoSaid : Prop := stackRowUptoRow.holds Try.pinned (OpenSpec.upto stackRowSpec)

/-- 'rondellaw14.StackDown', WHERE WHAT IT READS IS OF BULK AT MOST 1048576: true; the input reads as it did. -/
def stackDownUptoRow : OpenClaim := { program := "ytgjoipndhlngnaa", sum := "773a0083da22e9eb3655960dec0c5cb95becfde917e44b4a885789718bc3cfb9", func := "rondel/rondellaw14.StackDown", spec := "stackDown", inPlace := ["slices.overlaps[rondel/stack.Key]"], unfollowed := true, recurses := true, apart := false, narrowed := true }
def StackDownUptoSaid : Prop := stackDownUptoRow.holds Try.pinned (OpenSpec.upto stackDownSpec)

/-- 'rondellaw14.StackAll', WHERE WHAT IT READS IS OF BULK AT MOST 1048576: true; the input reads as it did. -/
def stackAllUptoRow : OpenClaim := { program := "ytgjoipndhlngnaa", sum := "773a0083da22e9eb3655960dec0c5cb95becfde917e44b4a885789718bc3cfb9", func := "rondel/rondellaw14.StackAll", spec := "stackAll", inPlace := ["slices.overlaps[rondel/stack.Key]"], unfollowed := true, recurses := true, apart := false, narrowed := true }
def StackAllUptoSaid : Prop := stackAllUptoRow.holds Try.pinned (OpenSpec.upto stackAllSpec)

/-- 'rondellaw14.StackBack', WHERE WHAT IT READS IS OF BULK AT MOST 1048576: true; the input reads as it did. -/
def stackBackUptoRow : OpenClaim := { program := "ytgjoipndhlngnaa", sum := "773a0083da22e9eb3655960dec0c5cb95becfde917e44b4a885789718bc3cfb9", func := "rondel/rondellaw14.StackBack", spec := "stackBack", inPlace := ["slices.overlaps[rondel/stack.Key]"], apart := false, narrowed := true }
def StackBackUptoSaid : Prop := stackBackUptoRow.holds Try.pinned (OpenSpec.upto stackBackSpec)

end Rows
end Go.Proofs.Ytgjoipndhlngnaa
