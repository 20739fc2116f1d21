/- A script in memory. -/
import Derived.Test.YtcgabodkegcpgaaDoorProg
import Derived.WalkKit
import Derived.Deep.MidRow
namespace Go.Proofs.YtcgabodkegcpgaaDoor
open Go.RowKit
/-- An act's ten cells. -/
def actCells (k s c a0 a1 a2 o0 o1 o2 : Int) (b : Bool) : List Value := [.int .i64 k, .int .i64 s, .int .i64 c, .int .i64 a0, .int .i64 a1, .int .i64 a2, .int .i64 o0, .int .i64 o1, .int .i64 o2, .bool b]
def Script (w : World) (a : Option Addr) (n : Nat) : Prop := ∀ i, i < n → ∃ g o k s c a0 a1 a2 o0 o1 o2 b, a = some ⟨g, o, none⟩ ∧ g < w.heap.size ∧ w.rangeAt g (o + i * 10) (actCells k s c a0 a1 a2 o0 o1 o2 b)
end Go.Proofs.YtcgabodkegcpgaaDoor
