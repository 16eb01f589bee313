/-
  What the laws of layer 7 want of plain forests: moved, and moved back.
-/
import Derived.Test.YtaacikjoafobfaaGreatDoorP12
