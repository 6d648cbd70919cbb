import Derived.Test.YtkcncepfncdbhaaDoorRefFold
import Derived.Test.YtkcncepfncdbhaaDoorHexMath
import Derived.Test.YtkcncepfncdbhaaDoorHexLaws
namespace Go.Proofs.YtkcncepfncdbhaaDoor
open Go.RowKit
open TextMath (dg hex wo unhex pre fold lo)

/-- The text of the digits. -/
def DIG : ByteArray := ⟨#[48, 49, 50, 51, 52, 53, 54, 55, 56, 57, 97, 98, 99, 100, 101, 102]⟩
theorem DIG_at : ∀ q : Fin 16, DIG.data.toList.getD q.val 0 = dg q.val := by decide
theorem DIG_get (q : Nat) (h : q < 16) (h' : q < DIG.size) : DIG[q] = dg q := by
  rw [← getD_s DIG q h']; exact DIG_at ⟨q, h⟩

/-- The place of a byte in a text; -1: it isn't there. -/
def pos (l : List UInt8) (c : UInt8) : Int := if l.findIdx (· == c) < l.length then (l.findIdx (· == c) : Int) else -1

end Go.Proofs.YtkcncepfncdbhaaDoor
