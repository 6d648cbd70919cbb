import Derived.Test.YteiikipldejeeaaDoorAtOrdM
namespace Go.Proofs.YteiikipldejeeaaDoor
open TextMath (fold lo)
set_option linter.unusedVariables false

theorem srt_perm (l : List (List UInt8)) : (srt l).Perm l := List.mergeSort_perm _ _
theorem srt_mem (l : List (List UInt8)) (x : List UInt8) : x ∈ srt l ↔ x ∈ l := (srt_perm l).mem_iff
theorem srt_ord (l : List (List UInt8)) : (srt l).Pairwise (fun x y => decide (x ≤ y) = true) :=
  List.pairwise_mergeSort (le := fun x y : List UInt8 => decide (x ≤ y)) (fun a b c h1 h2 => decide_eq_true (List.le_trans (of_decide_eq_true h1) (of_decide_eq_true h2)))
    (fun a b => by
      rcases List.le_total a b with h | h
      · simp [h]
      · simp [h]) l
theorem srt_same (a b : List (List UInt8)) (ha : a.Nodup) (hb : b.Nodup) (h : ∀ z, z ∈ a ↔ z ∈ b) : srt a = srt b := by
  have hp : a.Perm b := (List.perm_ext_iff_of_nodup ha hb).2 (fun z => h z)
  refine List.Perm.eq_of_pairwise (le := fun x y : List UInt8 => decide (x ≤ y) = true) ?_ (srt_ord a) (srt_ord b) (((srt_perm a).trans hp).trans (srt_perm b).symm)
  intro x y _ _ h1 h2
  exact List.le_antisymm (of_decide_eq_true h1) (of_decide_eq_true h2)

/-- A description's canonical text. -/
def CanIs (f : ByteArray) (x : List UInt8) : Prop := ∃ L : List (List UInt8), L.Nodup ∧ (∀ z, z ∈ L ↔ z ∈ (desc f).1) ∧ x = (canN (typD f)).data.toList ++ semis (srt L)
theorem can_eq (f g : ByteArray) (x y : List UInt8) (hx : CanIs f x) (hy : CanIs g y) : x = y ↔ (canN (typD f)).data.toList = (canN (typD g)).data.toList ∧ ∀ z, z ∈ (desc f).1 ↔ z ∈ (desc g).1 := by
  obtain ⟨L, l1, l2, rfl⟩ := hx
  obtain ⟨K, k1, k2, rfl⟩ := hy
  have nL : ∀ z ∈ srt L, No59 z := fun z hz => desc_no59 f z ((l2 z).1 ((srt_mem L z).1 hz))
  have nK : ∀ z ∈ srt K, No59 z := fun z hz => desc_no59 g z ((k2 z).1 ((srt_mem K z).1 hz))
  constructor
  · intro e
    obtain ⟨e1, e2⟩ := split59 _ _ (can_no59 f) (can_no59 g) (srt L) (srt K) nL nK e
    have e3 := semis_inj _ _ nL nK e2
    refine ⟨e1, fun z => ?_⟩
    rw [← l2, ← k2, ← srt_mem L, ← srt_mem K, e3]
  · rintro ⟨e1, e2⟩
    rw [e1, srt_same L K l1 k1 (fun z => by rw [l2, k2, e2])]
theorem cov_iff (f g : ByteArray) : covB f g = true ↔ (desc f).2.2 = true ∧ (desc g).2.2 = true ∧ (∀ z ∈ (desc f).1, z ∈ (desc g).1) ∧ (canN (typD f)).data.toList ∈ lin (typD g) := by
  unfold covB holds
  simp only [Bool.and_eq_true, List.all_eq_true, decide_eq_true_iff]
  constructor
  · rintro ⟨⟨⟨h1, h2⟩, h3⟩, h4⟩; exact ⟨h1, h2, h3, h4⟩
  · rintro ⟨h1, h2, h3, h4⟩; exact ⟨⟨⟨h1, h2⟩, h3⟩, h4⟩
theorem lin_own (f : ByteArray) : (canN f).data.toList ∈ lin f := by unfold lin; simp
theorem cov_refl (f : ByteArray) : covB f f = (desc f).2.2 := by
  rw [Bool.eq_iff_iff, cov_iff]
  exact ⟨fun h => h.1, fun h => ⟨h, h, fun _ hz => hz, lin_own _⟩⟩
theorem cov_trans (f g k : ByteArray) (h1 : covB f g = true) (h2 : covB g k = true) : covB f k = true := by
  rw [cov_iff] at *
  exact ⟨h1.1, h2.2.1, fun z hz => h2.2.2.1 z (h1.2.2.1 z hz), lin_trans _ _ _ h1.2.2.2 h2.2.2.2⟩
theorem cov_anti (f g : ByteArray) (x y : List UInt8) (h : covB f g = true) (hx : CanIs f x) (hy : CanIs g y) : covB g f = decide (x = y) := by
  rw [cov_iff] at h
  rw [Bool.eq_iff_iff, cov_iff, decide_eq_true_iff, can_eq f g x y hx hy]
  constructor
  · rintro ⟨_, _, h3, h4⟩
    exact ⟨lin_anti _ _ h.2.2.2 h4, fun z => ⟨h.2.2.1 z, h3 z⟩⟩
  · rintro ⟨e1, e2⟩
    refine ⟨h.2.1, h.1, fun z hz => (e2 z).2 hz, ?_⟩
    rw [← e1]
    exact lin_own _
end Go.Proofs.YteiikipldejeeaaDoor
