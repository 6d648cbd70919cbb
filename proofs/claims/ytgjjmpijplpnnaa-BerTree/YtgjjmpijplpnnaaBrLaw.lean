import Derived.Test.YtgjjmpijplpnnaaBrT
import Derived.Test.YtgjjmpijplpnnaaBwSm
namespace Go.Proofs.Ytgjjmpijplpnnaa
open Go.RowKit
set_option linter.unusedVariables false
namespace BrM

/-- The answer as a list and two numbers. -/
def res (s : ByteArray) : List Nd × Nat × Nat := match treeR s with
  | .ok xs => (xs.map (ndOf s), 0, 0)
  | .error f => ([], f.1, f.2)
theorem treeQ_res {s : ByteArray} {B : Nat} {r : Ending} {w' : World} (h : treeQ s B r w') : ∃ a c, r = .returned (.tuple #[.slice a (res s).1.length c, .int .i64 ((res s).2.1 : Int), .int .i64 ((res s).2.2 : Int)]) ∧ NdRow w' a (res s).1 := by
  unfold res
  rcases h with ⟨xs, v, h1, rfl, h3⟩ | ⟨f, h1, rfl⟩
  · rw [h1]
    obtain ⟨a, c, rfl, hr⟩ := ownN_any h3
    exact ⟨a, c, rfl, hr⟩
  · rw [h1]
    exact ⟨none, 0, rfl, fun i hi => by simp at hi⟩
theorem res_len (s : ByteArray) : (res s).1.length ≤ 140737488355328 := by
  have h := (tr_len s).1
  cases hr : treeR s with
  | error f => unfold res; rw [hr]; simp
  | ok xs =>
    have hx : xs = (tr s).1 := by
      unfold treeR at hr
      cases h2 : (tr s).2 with
      | some f => rw [h2] at hr; cases hr
      | none =>
        rw [h2] at hr
        dsimp only at hr
        by_cases hl : lastE (tr s).1 < s.size
        · rw [if_pos hl] at hr; cases hr
        · rw [if_neg hl] at hr; injection hr with hr; exact hr.symm
    unfold res
    rw [hr, hx]
    show ((tr s).1.map (ndOf s)).length ≤ _
    rw [List.length_map]
    omega
set_option maxRecDepth 100000 in
set_option maxHeartbeats 2000000 in
theorem berTree_walk (s : ByteArray) (w : World) (hz : s.size ≤ 140737488355328) :
    Calls Try.prog 4 #[.string s] w fun e w' => e = .returned (.bool true) ∧ Below w.heap.size w w' := by
  have H1 : Hid (Calls Try.prog 10 #[.string s] w fun r w' => treeQ s w.heap.size r w' ∧ Below w.heap.size w w') := tree_any s w (by omega)
  have H2 : ∀ W, Hid (Calls Try.prog 11 #[.string s] W fun r w' => treeQ s W.heap.size r w' ∧ Below W.heap.size W w') := fun W => rtree_any s W hz
  have HL : Hid ((res s).1.length ≤ 140737488355328) := res_len s
  clear hz
  go_enter Try.func4, Try.ntmps4
  go_wp2_with fail
  refine H1.out.mono ?_
  rintro r w1 ⟨hq, hb1⟩
  obtain ⟨a1, c1, rfl, hr1⟩ := treeQ_res hq
  have HB1 : Hid (Below w.heap.size w w1) := hb1
  clear hq hb1 H1
  go_wp2_with fail
  refine (H2 _).out.mono ?_
  rintro r w2 ⟨hq, hb2⟩
  obtain ⟨a2, c2, rfl, hr2⟩ := treeQ_res hq
  have HB2 : Hid (Below w.heap.size w w2) := HB1.out.trans (hb2.mono HB1.out.size)
  have hsame := sameNodes_any (res s).1 a1 a2 c1 c2 w2 HL.out (hr1.below hb2) hr2
  obtain ⟨n, hn⟩ : ∃ n, (res s).1.length = n := ⟨_, rfl⟩
  rw [hn] at hsame ⊢
  have hs' : Hid (Calls Try.prog 12 #[.slice a1 n c1, .slice a2 n c2] w2 fun r w' => r = .returned (.bool true) ∧ Below w2.heap.size w2 w') := hsame
  generalize (res s).2.1 = x at *
  generalize (res s).2.2 = y at *
  clear hq hb2 H2 hr1 hr2 hsame hn HL HB1
  go_wp2_with fail
  refine hs'.out.mono ?_
  rintro r w3 ⟨rfl, hb3⟩
  have HB3 : Hid (Below w.heap.size w w3) := HB2.out.trans (hb3.mono HB2.out.size)
  clear hb3 hs'
  go_wp2_with fail
  go_ret
  exact ⟨by simp, HB3.out⟩
end BrM
end Go.Proofs.Ytgjjmpijplpnnaa
