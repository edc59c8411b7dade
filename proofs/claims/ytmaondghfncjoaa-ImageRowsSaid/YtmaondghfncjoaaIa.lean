/-
  What is proved: nothing of its own: it hands on the calls of package rect. No conditions.
-/
import Derived.Test.YtmaondghfncjoaaA2
import Derived.Test.YtmaondghfncjoaaB3
import Derived.Test.YtmaondghfncjoaaM5
import Derived.Test.YtmaondghfncjoaaA4
