/-
  What is proved: nothing of its own: it hands on the calls of package rect. No conditions.
-/
import Derived.Test.YtackojmckloacaaA2
import Derived.Test.YtackojmckloacaaB3
import Derived.Test.YtackojmckloacaaM5
import Derived.Test.YtackojmckloacaaA4
