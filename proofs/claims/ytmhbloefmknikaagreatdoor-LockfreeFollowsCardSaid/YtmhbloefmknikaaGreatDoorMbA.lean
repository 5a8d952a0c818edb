/-
  lock and unlock of the reference of chapter 11. Conditions: the list may be changed in place.
-/
import Derived.Test.YtmhbloefmknikaaGreatDoorLzD
namespace Go.Proofs.YtmhbloefmknikaaGreatDoor
open Go.RowKit Go.Maps
namespace Lk
end Lk
end Go.Proofs.YtmhbloefmknikaaGreatDoor
