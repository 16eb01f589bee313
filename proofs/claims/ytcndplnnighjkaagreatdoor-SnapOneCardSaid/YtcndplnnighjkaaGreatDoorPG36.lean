/-
  A compound, and a selector, that came in.
-/
import Derived.Test.YtcndplnnighjkaaGreatDoorPG34
import Derived.Deep.Slices
import Derived.ChangeSame
import Derived.WalkSmall
