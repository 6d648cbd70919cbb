import Derived.Test.YtnboimoncpphlabDoorAtCback
import Derived.Test.YtnboimoncpphlabDoorAtSynD
import Derived.Test.YtnboimoncpphlabDoorAtOrdW
namespace Go.Proofs.YtnboimoncpphlabDoor
open TextMath (fold lo)
set_option linter.unusedVariables false

def onT : ByteArray := ⟨#[49, 46, 50]⟩
theorem desc_cx : desc (S (fold cxT.data.toList)) = ([[120]], 4, true) := by decide +kernel
theorem desc_on : desc (S (fold onT.data.toList)) = ([], 3, true) := by decide +kernel
theorem can_cx : (canN (typD (S (fold cxT.data.toList)))).data.toList = [99, 110] := by decide +kernel
theorem can_on : (canN (typD (S (fold onT.data.toList)))).data.toList = [49, 46, 50] := by decide +kernel
theorem srt_one (z : List UInt8) : srt [z] = [z] := by unfold srt; simp
theorem srt_nil : srt [] = [] := by unfold srt; simp
theorem cx_is (x : List UInt8) (h : CanIs (S (fold cxT.data.toList)) x) : x = [99, 110, 59, 120] := by
  obtain ⟨L, l1, l2, rfl⟩ := h
  rw [desc_cx] at l2
  rw [can_cx, srt_same L [[120]] l1 (by simp) l2, srt_one]
  rfl
theorem on_is (x : List UInt8) (h : CanIs (S (fold onT.data.toList)) x) : x = [49, 46, 50] := by
  obtain ⟨L, l1, l2, rfl⟩ := h
  rw [desc_on] at l2
  rw [can_on, srt_same L [] l1 (by simp) l2, srt_nil]
  rfl
theorem can_size' (t : ByteArray) : (canN t).size ≤ t.size + 64 := by
  cases hr : rowOf t with
  | none => rw [(lin_none _ hr).2]; omega
  | some i =>
    rw [← size_l, (lin_row _ i hr).2]
    have := nm_size i
    omega
/-- All that a canonical text says of itself. -/
theorem can_all (f : ByteArray) (x : List UInt8) (hok : (desc f).2.2 = true) (hf : fold f.data.toList = f.data.toList) (hx : CanIs f x) :
    fold x = x ∧ (desc (S x)).2.2 = true ∧ (desc (S x)).2.1 = x.length ∧ (∀ y, CanIs (S x) y → y = x) ∧ canN (typD (S x)) = canN (typD f) ∧
    (∀ K, K.Nodup → (∀ z, z ∈ K ↔ z ∈ (desc (S x)).1) → ∀ M, M.Nodup → (∀ z, z ∈ M ↔ z ∈ (desc f).1) → srt K = srt M) ∧
    covB f (S x) = true ∧ covB (S x) f = true ∧ synD (S x) = synD f ∧ x.length ≤ f.size + 64 ∧
    (∀ M, M.Nodup → (∀ z, z ∈ M ↔ z ∈ (desc f).1) → x = (canN (typD f)).data.toList ++ semis (srt M)) := by
  obtain ⟨b1, L, l1, l2, b2, b3, b4⟩ := can_back f x hok hf hx
  obtain ⟨i1, i2, i3, i4⟩ := desc_inv f hok
  have hb := (fold_id_iff _).1 hf
  have hft : fold (typD f).data.toList = (typD f).data.toList := (fold_id_iff _).2 (fun b q => hb b (by rw [i1]; exact List.mem_append_left _ q))
  obtain ⟨t1, t2, t3, t4, t5⟩ := can_type (typD f) i2 hft
  have hm : ∀ z, z ∈ (desc (S x)).1 ↔ z ∈ (desc f).1 := fun z => by rw [b3]; show z ∈ srt L ↔ _; rw [srt_mem, l2]
  have hok2 : (desc (S x)).2.2 = true := by rw [b3]
  have hc : canN (typD (S x)) = canN (typD f) := by rw [b4, t3]
  refine ⟨b1, hok2, by rw [b3]; show (S x).size = _; rw [← size_l, S_l], ?_, hc, ?_, ?_, ?_, ?_, ?_, ?_⟩
  · intro y hy
    exact (can_eq (S x) f y x hy hx).2 ⟨by rw [hc], hm⟩
  · intro K k1 k2 M m1 m2
    exact srt_same K M k1 m1 (fun z => by rw [k2, m2, hm])
  · rw [cov_iff]
    refine ⟨hok, hok2, fun z hz => (hm z).2 hz, ?_⟩
    rw [b4, t4]
    exact lin_own _
  · rw [cov_iff]
    refine ⟨hok2, hok, fun z hz => (hm z).1 hz, ?_⟩
    rw [hc]
    exact lin_own _
  · unfold synD
    rw [hok, hok2, b4, t5]
  · have h1 := congrArg List.length i1
    rw [List.length_append, size_l, size_l] at h1
    have h2 := semis_sub (srt L) (desc f).1 ((List.Nodup.perm l1) (srt_perm L).symm) (fun z hz => (l2 z).1 ((srt_mem L z).1 hz))
    have h3 := can_size' (typD f)
    rw [b2, List.length_append, size_l]
    omega
  · intro M m1 m2
    rw [b2, srt_same L M l1 m1 (fun z => by rw [l2, m2])]
/-- Ascending, at two neighbours. -/
theorem srt_next (L : List (List UInt8)) (hn : L.Nodup) (i : Nat) (hi : i + 1 < (srt L).length) : (srt L)[i] < (srt L)[i + 1] :=
  List.pairwise_iff_getElem.1 (srt_up L hn) i (i + 1) (by omega) hi (by omega)
end Go.Proofs.YtnboimoncpphlabDoor
