/-
  Bound of package locked. Condition: the list can be read.
-/
import Derived.Test.YtmhbloefmknikaaDoorLzQ
namespace Go.Proofs.YtmhbloefmknikaaDoor
open Go.RowKit Go.Maps
namespace Lk

end Lk
end Go.Proofs.YtmhbloefmknikaaDoor
