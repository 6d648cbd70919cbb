import Derived.Test.YtkcncepfncdbhaaDoorAtCov
import Derived.Test.YtkcncepfncdbhaaDoorAtDesc
namespace Go.Proofs.YtkcncepfncdbhaaDoor
open Go.RowKit
open TextMath (fold lo)
set_option linter.unusedVariables false

/-- A description's type, and its options, its place, whether it is whole. -/
def typD (f : ByteArray) : ByteArray := f.extract 0 (typE f.data.toList).1
def desc (f : ByteArray) : List (List UInt8) × Nat × Bool := if (typE f.data.toList).2 = true then dscE f (f.size + 1) (typE f.data.toList).1 [] else ([], (typE f.data.toList).1, false)
theorem dscE_len (s : ByteArray) : ∀ n e acc, acc.length ≤ e → e ≤ s.size → (dscE s n e acc).1.length ≤ s.size ∧ ((∀ x ∈ acc, x.length ≤ s.size) → ∀ x ∈ (dscE s n e acc).1, x.length ≤ s.size)
  | 0, e, acc, h, he => by simp [dscE]
  | n + 1, e, acc, h, he => by
    unfold dscE
    split
    · rename_i hlt
      split
      · split
        · simp
        · rename_i hne
          have h1 := runE_le isK s.data.toList (e + 1) (by rw [size_l]; omega)
          rw [size_l] at h1
          have ih := dscE_len s n (runE isK s.data.toList (e + 1)) (acc ++ [(s.extract (e + 1) (runE isK s.data.toList (e + 1))).data.toList]) (by simp; omega) h1.2
          refine ⟨ih.1, fun ha => ih.2 ?_⟩
          intro x hx
          rcases List.mem_append.1 hx with hx | hx
          · exact ha x hx
          · rw [List.mem_singleton.1 hx, size_l]
            simp [ByteArray.size_extract]
            omega
      · simp
    · exact ⟨by show acc.length ≤ _; omega, fun ha => ha⟩
theorem desc_len (f : ByteArray) : (desc f).1.length ≤ f.size ∧ ∀ x ∈ (desc f).1, x.length ≤ f.size := by
  unfold desc
  split
  · have h := typE_le f.data.toList
    rw [size_l] at h
    have h2 := dscE_len f (f.size + 1) (typE f.data.toList).1 [] (by simp) h
    exact ⟨h2.1, h2.2 (by simp)⟩
  · simp
def DescQ (W : World) (B : Nat) (X : ByteArray) (r : List (List UInt8) × Nat × Bool) (e : Ending) : Prop :=
  (r.2.2 = true ∧ ∃ v, e = .returned (.tuple #[.string X, v, .int .i64 (r.2.1 : Int), .bool true]) ∧ OwnS W B v r.1) ∨
  (r.2.2 = false ∧ e = .returned (.tuple #[.string ⟨#[]⟩, .slice none 0 0, .int .i64 (r.2.1 : Int), .bool false]))
theorem desc_any (f : ByteArray) (w : World) (hs : f.size ≤ 4194304) : Calls Tryd.prog 39 #[.string f] w fun e w' => DescQ w' w.heap.size (typD f) (desc f) e ∧ Below w.heap.size w w' := readDesc_any f w hs
/-- What Covers answers. -/
def covB (fd fe : ByteArray) : Bool := (desc fd).2.2 && (desc fe).2.2 && holds (desc fe).1 (desc fd).1 && decide ((canN (typD fd)).data.toList ∈ lin (typD fe))
end Go.Proofs.YtkcncepfncdbhaaDoor
