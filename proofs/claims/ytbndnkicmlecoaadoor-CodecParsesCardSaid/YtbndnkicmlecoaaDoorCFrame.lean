/-
  The frame of each law's proof of package hurdlelaw03.
-/
import Derived.Test.YtbndnkicmlecoaaDoorTabs
import Derived.Test.YtbndnkicmlecoaaDoorArgs
import Derived.Test.YtbndnkicmlecoaaDoorCKnows
import Derived.Test.YtbndnkicmlecoaaDoorCTrip
import Derived.Test.YtbndnkicmlecoaaDoorApp
