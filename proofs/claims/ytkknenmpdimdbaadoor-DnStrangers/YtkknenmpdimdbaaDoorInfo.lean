import Derived.Test.YtkknenmpdimdbaaDoorRows
import Derived.KernelRfl
namespace Go.Proofs.YtkknenmpdimdbaaDoor
theorem info_u8 : (Tryd.prog.info? 5).map (fun i => (i.zero, i.size, i.bytes)) = some (some (.int .u8 0), 1, 1) := by kernel_rfl
end Go.Proofs.YtkknenmpdimdbaaDoor
