/-
  What is proved: nothing of its own: it hands on the calls of package color. No conditions.
-/
import Derived.Test.YtackojmckloacaaCc
import Derived.Test.YtackojmckloacaaCm
import Derived.IntWalk
import Derived.Laws.Cover1
import Derived.Handy
