/-
  The walk of WireFlips, with the opener of its message.
-/
import Derived.Test.YtbhlgceicfjncaaSet49
import Derived.Test.YtbhlgceicfjncaaSet50

