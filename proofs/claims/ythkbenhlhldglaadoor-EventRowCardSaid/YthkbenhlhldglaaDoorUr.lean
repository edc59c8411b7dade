/-
  What is proved: what Good of the document's package hands back of any form and any arguments. No conditions but bounds.
-/
import Derived.Test.YthkbenhlhldglaaDoorUq
namespace Go.Proofs.YthkbenhlhldglaaDoor
open Go.RowKit Go.Sort
attribute [local go_sem ↓] run_min2 run_max2

end Go.Proofs.YthkbenhlhldglaaDoor
