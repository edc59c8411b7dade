/-
  What is proved: nothing of its own: it hands on the document's Small of a rectangle. No conditions.
-/
import Derived.Test.YtackojmckloacaaIa
import Derived.Deep.RegionHeld3
import Derived.IntWalk
import Derived.Deep.DeepCutAuto
