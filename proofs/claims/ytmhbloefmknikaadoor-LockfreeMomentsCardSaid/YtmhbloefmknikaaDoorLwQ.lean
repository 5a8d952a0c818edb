/-
  Pick: one of some numbers, as the tape says. Condition: the numbers can be read, and lie not in the tape.
  Words from the tape. Condition: the tape.
-/
import Derived.Test.YtmhbloefmknikaaDoorKwL
namespace Go.Proofs.YtmhbloefmknikaaDoor
end Go.Proofs.YtmhbloefmknikaaDoor
