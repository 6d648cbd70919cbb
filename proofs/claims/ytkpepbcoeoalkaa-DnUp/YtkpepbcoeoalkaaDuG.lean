import Derived.Test.YtkpepbcoeoalkaaDuE
namespace Go.Proofs.Ytkpepbcoeoalkaa
namespace Du
open Go.RowKit Go.Lib
set_option linter.unusedVariables false
set_option maxRecDepth 100000

theorem conv2 (w : World) (p q : Nat) (hp : p < 256) (hq : q < 256) (a b : Int) (ha : a = (p : Int)) (hb : b = (q : Int)) : ∃ s, (convert 42 9 (.slice (some ⟨w.heap.size, 0, none⟩) 2 2)).run Try.prog (w.alloc (.cells #[.int .u8 a, .int .u8 b] 5)) = .ok (.string s) (w.alloc (.cells #[.int .u8 a, .int .u8 b] 5)) ∧ s.size = 2 := by
  subst ha hb
  have h := run_convert_bytes_back (P := Try.prog) (w.alloc (.cells #[.int .u8 (p : Int), .int .u8 (q : Int)] 5)) 42 9 5 ⟨w.heap.size, 0, none⟩ 2 [UInt8.ofNat p, UInt8.ofNat q] Try.underlying42 Try.underlying5 Try.underlying9 (fun j hj => by
    have hg : (w.alloc (.cells #[.int .u8 (p : Int), .int .u8 (q : Int)] 5)).heap[w.heap.size]? = some (.cells #[.int .u8 (p : Int), .int .u8 (q : Int)] 5 (0, 0)) := heap_alloc_new _ _
    rw [add_o, cell_of_row _ _ _ _ _ _ hg]
    have : j = 0 ∨ j = 1 := by simp at hj; omega
    rcases this with rfl | rfl
    · simp [Nat.mod_eq_of_lt hp]
    · simp [Nat.mod_eq_of_lt hq])
  exact ⟨_, h, rfl⟩
set_option maxHeartbeats 1000000 in
theorem numbered_any (m : ByteArray) (i : Nat) (hi : i ≤ 5864062014634) (hm : m.size ≤ 5864062014634) (w : World) :
    Calls Try.prog 12 #[.string m, .int .i64 (i : Int)] w fun e w' => (∃ s, e = .returned (.string s)) ∧ Below w.heap.size w w' := by
  have i0 : (0 : Int) ≤ (i : Int) := Int.natCast_nonneg _
  have i1 : (i : Int) ≤ 5864062014634 := by omega
  have e1 : Int.tmod (i : Int) 26 = (i : Int) % 26 := Int.tmod_eq_emod_of_nonneg i0
  have e2 : Int.tdiv (i : Int) 26 = (i : Int) / 26 := Int.tdiv_eq_ediv_of_nonneg i0
  have e3 : Int.tmod ((i : Int) / 26) 26 = ((i : Int) / 26) % 26 := Int.tmod_eq_emod_of_nonneg (by omega)
  have mb : (m.size : Int) ≤ 5864062014634 := by omega
  obtain ⟨s, hcv, hsz⟩ := conv2 w (97 + i % 26) (97 + i / 26 % 26) (by omega) (by omega) (97 + (i : Int) % 26) (97 + (i : Int) / 26 % 26) (by omega) (by omega)
  have sb : (s.size : Int) = 2 := by omega
  clear hi hm hsz
  go_enter Try.func12, Try.ntmps12
  go_wp2_with fail
  go_ret
  exact ⟨⟨_, rfl⟩, (Below.refl _ _).alloc (Nat.le_refl _) _⟩
end Du
end Go.Proofs.Ytkpepbcoeoalkaa
