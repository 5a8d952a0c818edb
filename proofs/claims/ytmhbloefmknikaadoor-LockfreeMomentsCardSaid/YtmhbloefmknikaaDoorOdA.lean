/-
  Busy of the reference at a list without locks. Condition: the processes can be read.
-/
import Derived.Test.YtmhbloefmknikaaDoorOcA
import Derived.Test.YtmhbloefmknikaaDoorMaA
namespace Go.Proofs.YtmhbloefmknikaaDoor
open Go.RowKit Go.Maps
namespace Lf
open Lk
end Lf
end Go.Proofs.YtmhbloefmknikaaDoor
