import Derived.Test.YtfmhcgadgakbhaaDoorFxD
import Derived.Lib.AppendZeros
namespace Go.Proofs.YtfmhcgadgakbhaaDoor
open Go.RowKit

/-- What Print writes, of the first i options. -/
def prt (t : List UInt8) (X : Nat → ByteArray) : Nat → List UInt8
  | 0 => t
  | i + 1 => prt t X i ++ [59] ++ (X i).data.toList
theorem prt_len (t : List UInt8) (X : Nat → ByteArray) (i : Nat) : (prt t X i).length = t.length + tot X i := by
  induction i with
  | zero => rfl
  | succ i ih =>
    show (prt t X i ++ [59] ++ (X i).data.toList).length = t.length + (tot X i + ((X i).size + 1))
    rw [List.length_append, List.length_append, ih, size_l]
    simp
    omega
theorem heap_new_cells (w : World) (o : Obj) : (w.alloc o).heap[w.heap.size]? = some o := heap_alloc_new w o

end Go.Proofs.YtfmhcgadgakbhaaDoor
