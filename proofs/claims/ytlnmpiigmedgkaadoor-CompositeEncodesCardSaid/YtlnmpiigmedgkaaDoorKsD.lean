/-
  The calls of package keyspace and of its reference that give the lower or the higher of two bounds, a range or the zero range, intersections and hulls: what they answer, in every world; they only make memory. No condition.
-/
import Derived.Test.YtlnmpiigmedgkaaDoorKsC
import Derived.Test.YtlnmpiigmedgkaaDoorKsW
import Derived.Deep.RegionHeld3
import Derived.Lib.Hide
namespace Go.Proofs.YtlnmpiigmedgkaaDoor
open Go.RowKit

end Go.Proofs.YtlnmpiigmedgkaaDoor
