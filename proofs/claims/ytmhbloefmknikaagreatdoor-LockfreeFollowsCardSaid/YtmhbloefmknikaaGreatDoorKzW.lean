/-
  Bound of package locked. Condition: the list can be read.
-/
import Derived.Test.YtmhbloefmknikaaGreatDoorLzQ
namespace Go.Proofs.YtmhbloefmknikaaGreatDoor
open Go.RowKit Go.Maps
namespace Lk

end Lk
end Go.Proofs.YtmhbloefmknikaaGreatDoor
