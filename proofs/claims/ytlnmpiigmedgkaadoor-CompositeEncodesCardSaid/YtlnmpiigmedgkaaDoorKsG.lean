/-
  Hull and Adjacent of package keyspace and of its reference: what they answer, in every world; they only make memory. No condition.
-/
import Derived.Test.YtlnmpiigmedgkaaDoorKsD
import Derived.Deep.RegionHeld3
import Derived.Lib.Hide
namespace Go.Proofs.YtlnmpiigmedgkaaDoor
open Go.RowKit

def Rg.hulK (a b : Rg) : Rg := if a.emp then b.orZ else if b.emp then a else ⟨a.lo.loK b.lo, a.hi.hiK b.hi⟩
def Rg.hulR (a b : Rg) : Rg := if a.emp then b.orZ else if b.emp then a else ⟨a.lo.loR b.lo, a.hi.hiR b.hi⟩
def Rg.adj (a b : Rg) : Bool := !a.emp && !b.emp && (a.hi.cmp b.lo == 0)

end Go.Proofs.YtlnmpiigmedgkaaDoor
