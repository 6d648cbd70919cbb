import Derived.Test.YtcmdmkajpbhcaaaDoorAtInv
namespace Go.Proofs.YtcmdmkajpbhcaaaDoor
open TextMath (fold lo)
set_option linter.unusedVariables false

theorem fold_id_iff (l : List UInt8) : fold l = l ↔ ∀ b ∈ l, lo b = b := by
  unfold fold
  induction l with
  | nil => simp
  | cons a l ih =>
    rw [List.map_cons, List.cons.injEq, ih]
    simp
theorem mem_semis (zs : List (List UInt8)) (z : List UInt8) (hz : z ∈ zs) (b : UInt8) (hb : b ∈ z) : b ∈ semis zs := by
  unfold semis
  rw [List.mem_flatMap]
  exact ⟨z, hz, List.mem_cons_of_mem _ hb⟩
/-- A canonical type: whole, folded, its own canonical type; what stands above it and its syntax are the type's. -/
theorem can_type (t : ByteArray) (hT : typE t.data.toList = (t.data.toList.length, true)) (hf : fold t.data.toList = t.data.toList) :
    typE (canN t).data.toList = ((canN t).data.toList.length, true) ∧ fold (canN t).data.toList = (canN t).data.toList ∧ canN (canN t) = canN t ∧ lin (canN t) = lin t ∧ synN (canN t) = synN t := by
  cases hr : rowOf t with
  | none =>
    have hc := (lin_none t hr).2
    rw [hc]
    exact ⟨hT, hf, hc, rfl, rfl⟩
  | some i =>
    obtain ⟨h1, h2⟩ := lin_row t i hr
    obtain ⟨r1, r2, r3⟩ := row_facts i
    have hS : canN t = S (nmN i.val) := by rw [← h2, S_of]
    obtain ⟨n1, n2, n3, n4, n5⟩ := name_facts i.val i.2
    rw [h2, hS]
    refine ⟨r2, r1, n3, by rw [n4, h1], ?_⟩
    rw [n5]
    unfold synN
    rw [hr]
/-- A canonical text reads back as itself. -/
theorem can_back (f : ByteArray) (x : List UInt8) (hok : (desc f).2.2 = true) (hf : fold f.data.toList = f.data.toList) (hx : CanIs f x) :
    fold x = x ∧ ∃ L, L.Nodup ∧ (∀ z, z ∈ L ↔ z ∈ (desc f).1) ∧ x = (canN (typD f)).data.toList ++ semis (srt L) ∧ desc (S x) = (srt L, (S x).size, true) ∧ typD (S x) = canN (typD f) := by
  obtain ⟨i1, i2, i3, i4⟩ := desc_inv f hok
  obtain ⟨L, l1, l2, rfl⟩ := hx
  have hb := (fold_id_iff _).1 hf
  have hft : fold (typD f).data.toList = (typD f).data.toList := (fold_id_iff _).2 (fun b q => hb b (by rw [i1]; exact List.mem_append_left _ q))
  obtain ⟨t1, t2, t3, t4, t5⟩ := can_type (typD f) i2 hft
  have hz : ∀ z ∈ srt L, z ≠ [] ∧ ∀ b ∈ z, isK b = true := fun z hz => i4 z ((l2 z).1 ((srt_mem L z).1 hz))
  have hd := desc_semis (canN (typD f)).data.toList (srt L) t1 hz
  refine ⟨?_, L, l1, l2, rfl, hd.1, by rw [hd.2, S_of]⟩
  rw [fold_app, t2, fold_semis]
  congr 2
  have : ∀ z ∈ srt L, fold z = z := fun z hz => (fold_id_iff z).2 (fun b q => hb b (by rw [i1]; exact List.mem_append_right _ (mem_semis _ z ((l2 z).1 ((srt_mem L z).1 hz)) b q)))
  have hm : (srt L).map fold = (srt L).map id := List.map_congr_left (fun z hz => this z hz)
  rw [hm, List.map_id]
theorem srt_srt (L : List (List UInt8)) (hn : L.Nodup) (K : List (List UInt8)) (kn : K.Nodup) (h : ∀ z, z ∈ K ↔ z ∈ srt L) : srt K = srt L :=
  srt_same K L kn hn (fun z => by rw [h, srt_mem])
theorem srt_up (L : List (List UInt8)) (hn : L.Nodup) : (srt L).Pairwise (fun x y => x < y) := by
  have hnd : (srt L).Nodup := (List.Nodup.perm hn) (srt_perm L).symm
  have hp := (srt_ord L).and hnd
  refine hp.imp ?_
  rintro x y ⟨h1, h2⟩
  rcases Classical.em (x < y) with h | h
  · exact h
  · exact absurd (List.le_antisymm (of_decide_eq_true h1) h) h2
end Go.Proofs.YtcmdmkajpbhcaaaDoor
