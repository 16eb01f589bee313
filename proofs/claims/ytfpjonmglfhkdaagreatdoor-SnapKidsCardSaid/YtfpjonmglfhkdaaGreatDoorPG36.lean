/-
  A compound, and a selector, that came in.
-/
import Derived.Test.YtfpjonmglfhkdaaGreatDoorPG34
import Derived.Deep.Slices
import Derived.ChangeSame
import Derived.WalkSmall
