/-
  What is proved: nothing of its own: it hands on the calls of package rect. No conditions.
-/
import Derived.Test.YtafceieenhogpaaA2
import Derived.Test.YtafceieenhogpaaB3
import Derived.Test.YtafceieenhogpaaM5
import Derived.Test.YtafceieenhogpaaA4
