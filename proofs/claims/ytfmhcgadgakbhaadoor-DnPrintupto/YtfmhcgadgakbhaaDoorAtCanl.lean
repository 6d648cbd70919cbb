import Derived.Test.YtfmhcgadgakbhaaDoorFxI
import Derived.Test.YtfmhcgadgakbhaaDoorAtPrnt
namespace Go.Proofs.YtfmhcgadgakbhaaDoor
open Go.RowKit
open TextMath (fold lo)
set_option linter.unusedVariables false

theorem semis_erase (x : List UInt8) : ∀ O : List (List UInt8), x ∈ O → (semis O).length = x.length + 1 + (semis (O.erase x)).length
  | [], h => by simp at h
  | y :: O, h => by
    by_cases e : y = x
    · subst e
      rw [List.erase_cons_head, semis_cons]
      simp
      omega
    · have hx : x ∈ O := by
        rcases List.mem_cons.1 h with q | q
        · exact absurd q.symm e
        · exact q
      rw [List.erase_cons_tail (by simpa using e), semis_cons, semis_cons]
      have := semis_erase x O hx
      simp
      omega
theorem semis_sub : ∀ (K O : List (List UInt8)), K.Nodup → (∀ x ∈ K, x ∈ O) → (semis K).length ≤ (semis O).length
  | [], O, _, _ => by simp [semis]
  | x :: K, O, hn, hs => by
    have hx := hs x (by simp)
    rw [semis_erase x O hx, semis_cons]
    rw [List.nodup_cons] at hn
    have := semis_sub K (O.erase x) hn.2 (fun y hy => (List.mem_erase_of_ne (fun e => hn.1 (by rw [← e]; exact hy))).2 (hs y (by simp [hy])))
    simp
    omega
theorem dscE_sum (s : ByteArray) : ∀ n e acc, (semis acc).length ≤ e → e ≤ s.size → (semis (dscE s n e acc).1).length ≤ s.size
  | 0, e, acc, h, he => by simp [dscE, semis]
  | n + 1, e, acc, h, he => by
    unfold dscE
    split
    · rename_i hlt
      split
      · split
        · simp [semis]
        · have h1 := runE_le isK s.data.toList (e + 1) (by rw [size_l]; omega)
          rw [size_l] at h1
          refine dscE_sum s n _ _ ?_ h1.2
          rw [semis_snoc, List.length_append, List.length_cons, size_l, ByteArray.size_extract]
          omega
      · simp [semis]
    · show (semis acc).length ≤ _
      omega
theorem desc_sum (f : ByteArray) : (semis (desc f).1).length ≤ f.size := by
  unfold desc
  split
  · have h := typE_le f.data.toList
    rw [size_l] at h
    exact dscE_sum f _ _ [] (by simp [semis]) h
  · simp [semis]
theorem can_size (f : ByteArray) : (canN (typD f)).size ≤ f.size + 64 := by
  cases hr : rowOf (typD f) with
  | none =>
    rw [(lin_none _ hr).2]
    unfold typD
    rw [ByteArray.size_extract]
    omega
  | some i =>
    rw [← size_l, (lin_row _ i hr).2]
    have := nm_size i
    omega
theorem prt_semis (t : List UInt8) (X : Nat → ByteArray) (l : List (List UInt8)) (h : ∀ i (hi : i < l.length), (X i).data.toList = l[i]) : ∀ k, k ≤ l.length → prt t X k = t ++ semis (l.take k) ∧ tot X k = (semis (l.take k)).length
  | 0, _ => by simp [prt, semis]; rfl
  | k + 1, hk => by
    obtain ⟨h1, h2⟩ := prt_semis t X l h k (by omega)
    have hx := h k (by omega)
    have hz : (X k).size = l[k].length := by rw [← size_l, hx]
    rw [List.take_succ_eq_append_getElem (by omega : k < l.length), semis_snoc]
    constructor
    · show prt t X k ++ [59] ++ (X k).data.toList = _
      rw [h1, hx]
      simp
    · show tot X k + ((X k).size + 1) = _
      rw [h2, hz]
      simp
/-- What Canonical answers of a folded text. -/
def CnlIs (f : ByteArray) (e : Ending) : Prop :=
  ((desc f).2.2 = true ∧ ∃ x, CanIs f x ∧ e = .returned (.tuple #[.string (S x), .int .i64 0, .int .i64 ((desc f).2.1 : Int)])) ∨
  ((desc f).2.2 = false ∧ e = .returned (.tuple #[.string (S []), .int .i64 40, .int .i64 ((desc f).2.1 : Int)]))
end Go.Proofs.YtfmhcgadgakbhaaDoor
