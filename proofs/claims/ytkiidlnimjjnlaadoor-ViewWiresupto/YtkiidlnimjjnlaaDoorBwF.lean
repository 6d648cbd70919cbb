import Derived.Test.YtkiidlnimjjnlaaDoorBwL
import Derived.Test.YtkiidlnimjjnlaaDoorBhSpW
import Derived.Test.YtkiidlnimjjnlaaDoorBhSound
namespace Go.Proofs.YtkiidlnimjjnlaaDoor
open Go.RowKit
set_option linter.unusedVariables false

theorem tree_yes {s : ByteArray} {w : World} (hm : s.size ≤ 281474976710656) {l : List Nd} (h : ∃ xs, treeR s = .ok xs ∧ xs.map (ndOf s) = l) : Calls Tryd.prog 43 #[.string s] w fun r w' => (∃ v, r = .returned (.tuple #[v, .int .i64 0, .int .i64 0]) ∧ OwnN w' w.heap.size v l) ∧ Below w.heap.size w w' :=
  (tree_any s w hm).mono (fun r w' ⟨hq, hb⟩ => by
    obtain ⟨xs, h1, h2⟩ := h
    refine ⟨?_, hb⟩
    rcases hq with ⟨ys, v, q1, q2, q3⟩ | ⟨f, q1, _⟩
    · rw [h1] at q1
      injection q1 with q1
      subst q1
      rw [h2] at q3
      exact ⟨v, q2, q3⟩
    · rw [h1] at q1; cases q1)
theorem tree_no {s : ByteArray} {w : World} (hm : s.size ≤ 281474976710656) {c q : Nat} (h : treeR s = .error (c, q)) : Calls Tryd.prog 43 #[.string s] w fun r w' => r = .returned (.tuple #[.slice none 0 0, .int .i64 (c : Int), .int .i64 (q : Int)]) ∧ Below w.heap.size w w' :=
  (tree_any s w hm).mono (fun r w' ⟨hq, hb⟩ => by
    refine ⟨?_, hb⟩
    rcases hq with ⟨ys, v, q1, _⟩ | ⟨f, q1, q2⟩
    · rw [h] at q1; cases q1
    · rw [h] at q1
      injection q1 with q1
      subst q1
      exact q2)
theorem spX_len {n : Nat} {D C T : Nat → Int} {M : Nat → Bool} {B : Nat → ByteArray} {σ : List Nat} {H : Nat → List UInt8} (hn : 0 < n) (hI : SpI n 0 D C T M B σ H) (hs : bsum B n ≤ 67108864) : (outB H B 0 n).length ≤ 67108864 := by
  obtain ⟨len, k, rest, e1, _, e3, e4⟩ := spI_end hn hI
  rw [e1, List.length_append, hdrL_len]
  omega
theorem spX_of {n K : Nat} {D C T : Nat → Int} {M : Nat → Bool} {B : Nat → ByteArray} {σ : List Nat} {H : Nat → List UInt8} (hI : SpI n K D C T M B σ H) : SpX n K D C T M B σ H := hI.2.2.2.2.2.2
end Go.Proofs.YtkiidlnimjjnlaaDoor
