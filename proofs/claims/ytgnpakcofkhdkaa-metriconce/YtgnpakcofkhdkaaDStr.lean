/-
  Strings of our own, beside the shelf. No statement of the seat is proved here.
-/
import Derived.Test.YtgnpakcofkhdkaaShelf
import Derived.Test.YtgnpakcofkhdkaaKStr
