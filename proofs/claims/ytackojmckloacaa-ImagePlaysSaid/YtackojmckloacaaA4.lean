/-
  What is proved: what the calls of package rect, and of the document's answers, hand back.
-/
import Derived.Test.YtackojmckloacaaA2
import Derived.Deep.RegionHeld3
import Derived.IntWalk
import Derived.Deep.DeepCutAuto
namespace Go.Proofs.Ytackojmckloacaa
open Go.RowKit Go.Sort

attribute [local go_sem] cell?_grow frozen?_grow nlt_r
attribute [local go_sem ↓] run_min2 run_max2

end Go.Proofs.Ytackojmckloacaa
