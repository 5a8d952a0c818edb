/-
  Rank, Interval and Owner of package roster, for any list of nodes: what they answer. Condition: the nodes can be read.
-/
import Derived.Test.YtjokbdhineilcaaDoorLhE
import Derived.Test.YtjokbdhineilcaaDoorLgJ
namespace Go.Proofs.YtjokbdhineilcaaDoor
open Go.RowKit

theorem sort_med (A : Option Addr) (l : List Nd) (c : Nat) (w : World) (hl : Nds w w.heap.size A l) (hn : l.length ≤ 100000) : Calls Tryd.prog 26 #[.slice A l.length c] w (SrtP l w) := by
  refine (sort_big A l c w hl hn).mono ?_
  rintro e w' ⟨s, hs, h⟩
  exact ⟨s, hs.srt, h⟩
/-- What the three answer for any list. -/
def rkB (l : List Nd) (id : Int) : Bool := decide (chkV l = 0) && decide (plc (srt l) id < (srt l).length)
def rkN (l : List Nd) (id : Int) : Nat := if rkB l id = true then plc (srt l) id else 0
def ivR (l : List Nd) (id : Int) : Rg := if rkB l id = true then ivlAt (srt l) (plc (srt l) id) else Rg.zero
def owB (l : List Nd) (key : ByteArray) : Bool := decide (chkV l = 0) && (decide (0 < l.length) && vk key)
def owN (l : List Nd) (key : ByteArray) : Nd := if owB l key = true then ownV (srt l) key else Nd.none

end Go.Proofs.YtjokbdhineilcaaDoor
