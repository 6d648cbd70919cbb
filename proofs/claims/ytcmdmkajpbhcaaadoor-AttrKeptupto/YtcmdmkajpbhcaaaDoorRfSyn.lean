import Derived.Test.YtcmdmkajpbhcaaaDoorRfB
import Derived.Test.YtcmdmkajpbhcaaaDoorAtCback
import Derived.Test.YtcmdmkajpbhcaaaDoorAtSynD
namespace Go.Proofs.YtcmdmkajpbhcaaaDoor
open Go.RowKit
open TextMath (fold lo)
set_option linter.unusedVariables false

theorem canF (f : ByteArray) (hok : (desc f).2.2 = true) (hf : fold f.data.toList = f.data.toList) : fold (canN (typD f)).data.toList = (canN (typD f)).data.toList ∧ synN (canN (typD f)) = synN (typD f) ∧ lin (canN (typD f)) = lin (typD f) := by
  obtain ⟨i1, i2, i3, i4⟩ := desc_inv f hok
  have hb := (fold_id_iff _).1 hf
  have hft : fold (typD f).data.toList = (typD f).data.toList := (fold_id_iff _).2 (fun b q => hb b (by rw [i1]; exact List.mem_append_left _ q))
  obtain ⟨t1, t2, t3, t4, t5⟩ := can_type (typD f) i2 hft
  exact ⟨t2, t5, t4⟩
theorem can_sizeR (f : ByteArray) : (canN (typD f)).size ≤ f.size + 64 := by
  cases hr : rowOf (typD f) with
  | none =>
    rw [(lin_none _ hr).2]
    unfold typD
    rw [ByteArray.size_extract]
    omega
  | some i =>
    rw [← size_l, (lin_row _ i hr).2]
    have := nm_size i
    omega
theorem lin_small (f : ByteArray) : (lin f).length ≤ 4194304 := by
  unfold lin
  have h3 : (chn 3 (upN (noN f))).length ≤ 3 := chn_len ⟨upN (noN f), (up_lt ⟨noN f, noN_lt f⟩).2⟩
  simp only [List.length_cons]
  omega
end Go.Proofs.YtcmdmkajpbhcaaaDoor
