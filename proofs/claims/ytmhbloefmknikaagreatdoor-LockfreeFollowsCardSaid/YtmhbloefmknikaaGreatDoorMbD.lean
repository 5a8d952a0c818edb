/-
  step of the reference of chapter 11, in place. Conditions: the list is valid and may be changed in place.
-/
import Derived.Test.YtmhbloefmknikaaGreatDoorMbA
import Derived.Test.YtmhbloefmknikaaGreatDoorMbB
import Derived.Test.YtmhbloefmknikaaGreatDoorMbC
import Derived.Test.YtmhbloefmknikaaGreatDoorMaA
namespace Go.Proofs.YtmhbloefmknikaaGreatDoor
open Go.RowKit Go.Maps
namespace Lk
end Lk
end Go.Proofs.YtmhbloefmknikaaGreatDoor
