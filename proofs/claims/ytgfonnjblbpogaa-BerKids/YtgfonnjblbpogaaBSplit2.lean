import Derived.Test.YtgfonnjblbpogaaBSplit1
import Derived.Test.YtgfonnjblbpogaaBCatch2
namespace Go.Proofs.Ytgfonnjblbpogaa
open Go.RowKit
open BerMath (Hd HR num hAt wAt)

theorem enter_split1 : ∀ args W, (callFunc 44 args).run Try.prog W = .ok (.enter 44 args) W := enters_of Try.func44 (by kernel_rfl) rfl

theorem spl_code (s : ByteArray) (f p : Nat) (c q : Int) (h : spl s f p = .error (c, q)) : c = 20 ∨ c = 21 ∨ c = 22 ∨ c = 23 := by
  induction f generalizing p with
  | zero => cases h
  | succ f ih =>
    by_cases hp : s.size ≤ p
    · rw [spl_end s f p hp] at h; cases h
    · cases hw : wAt s.data.toList p s.size with
      | ok x =>
        rw [spl_ok s f p x hp hw] at h
        cases hr : spl s f (p + x.size + x.len) with
        | ok k => rw [hr] at h; cases h
        | error y =>
          rw [hr] at h
          injection h with h
          exact ih _ (by rw [hr, h])
      | error o =>
        cases o with
        | some cq =>
          obtain ⟨a, b⟩ := cq
          rw [spl_er s f p a b hp hw] at h
          injection h with h
          injection h with h _
          have := wAt_er _ _ _ _ _ hw
          omega
        | none =>
          rw [spl_miss s f p hp hw] at h
          injection h with h
          injection h with h _
          omega

set_option maxHeartbeats 1000000 in
theorem berSplit_any (s : ByteArray) (w : World) (hm : s.size ≤ 4294967296) : Calls Try.prog 17 #[.string s] w fun r w' => splitQ s w.heap.size r w' ∧ Below w.heap.size w w' := by
  have hmf : ∀ (fn : Fn) (first cap : Array Value) (w : World), (Instr.makeFunc fn first cap).run Try.prog w = .ok (.func fn first cap) w := fun _ _ _ _ => rfl
  obtain ⟨W3, hW3⟩ : ∃ W3, W3 = (w.alloc (.cells #[.string s] 9)).alloc (.cells #[.slice none 0 0] 47) := ⟨_, rfl⟩
  have hs3 : W3.heap.size = w.heap.size + 1 + 1 := by rw [hW3]; simp
  have hB3 : Below w.heap.size w W3 := by
    rw [hW3]
    exact ((Below.refl _ _).alloc (Nat.le_refl _) _).alloc (by simp) _
  have hc3 : W3.cell? ⟨w.heap.size + 1, 0, none⟩ = some (.slice none 0 0) := by rw [hW3]; simp [go_sem]
  have hz3 : W3.frozen? ⟨w.heap.size + 1, 0, none⟩ = false := by rw [hW3]; simp [go_sem]
  have hb3 : W3.cell? ⟨w.heap.size, 0, none⟩ = some (.string s) := by rw [hW3]; simp [go_sem]
  obtain ⟨W4, hW4⟩ : ∃ W4, W4 = W3.alloc (.cells #[.int .i64 0, .int .i64 0] 74) := ⟨_, rfl⟩
  have hs4 : W4.heap.size = w.heap.size + 1 + 1 + 1 := by rw [hW4]; simp [hs3]
  have hB4 : Below W3.heap.size W3 W4 := by rw [hW4]; exact (Below.refl _ _).alloc (Nat.le_refl _) _
  have hc4 : W4.cell? ⟨w.heap.size + 1, 0, none⟩ = some (.slice none 0 0) := by rw [hB4.cell (by show w.heap.size + 1 < _; omega)]; exact hc3
  have hz4 : W4.frozen? ⟨w.heap.size + 1, 0, none⟩ = false := by rw [hB4.frozen (by show w.heap.size + 1 < _; omega)]; exact hz3
  have hb4 : W4.cell? ⟨w.heap.size, 0, none⟩ = some (.string s) := by rw [hB4.cell (by show w.heap.size < _; omega)]; exact hb3
  have hcl := split1_any s w.heap.size (w.heap.size + 1) W4 hm (by omega) hb4 (by omega) hc4 hz4
  have hcaught := caught_all 44 #[.pointer (some ⟨w.heap.size, 0, none⟩), .pointer (some ⟨w.heap.size + 1, 0, none⟩)] W3 (split1Q s (w.heap.size + 1) W4) enter_split1 (by
    rw [← hW4]
    refine hcl.mono ?_
    intro r w1 hq
    refine ⟨hq, hq.1 _ (by omega) (by omega), ?_, ?_⟩
    · have := hq.2.1.size; omega
    · rcases hq.2.2 with ⟨l, v, _, hr, _⟩ | ⟨c, q, _, hr⟩
      · rw [hr]; exact ⟨0, 0, Or.inl ⟨rfl, rfl, rfl⟩⟩
      · rw [hr]; exact ⟨c, q, Or.inr rfl⟩)
  have hres : Hid (∀ (r : Ending) (w' : World), (∃ (r1 : Ending) (w1 : World) (c q : Int), split1Q s (w.heap.size + 1) W4 r1 w1 ∧ Read r1 c q ∧ r = .returned (fltV c q) ∧ Below W3.heap.size w1 w' ∧ ∀ b, b < w1.heap.size → b ≠ W3.heap.size → w'.heap[b]? = w1.heap[b]?) → ∃ (c q : Int), r = .returned (fltV c q) ∧ Below w.heap.size w w' ∧ w.heap.size + 1 + 1 ≤ w'.heap.size ∧ ((c == 0) = true ∧ (∃ l v, spl s (s.size + 1) 0 = .ok l ∧ w'.cell? ⟨w.heap.size + 1, 0, none⟩ = some v ∧ OwnE w' w.heap.size v l) ∨ (c == 0) = false ∧ spl s (s.size + 1) 0 = .error (c, q))) := by
    rintro r w' ⟨r1, w1, c, q, hq, hrd, rfl, hbw, hall⟩
    have hsz := hbw.size
    have hsz1 := hq.2.1.size
    have hBw : Below w.heap.size w w' := hB3.trans (((hB4.mono (by omega)).trans (hq.2.1.mono (by omega))).trans (hbw.mono (by omega)))
    refine ⟨c, q, rfl, hBw, by omega, ?_⟩
    rcases hq.2.2 with ⟨l, v, hk, hr, hcs, hown⟩ | ⟨c', q', hk, hr⟩
    · rw [hr] at hrd
      obtain ⟨rfl, rfl⟩ := read_back hrd
      refine Or.inl ⟨rfl, l, v, hk, ?_, ?_⟩
      · rw [hbw.cell (by show w.heap.size + 1 < _; omega)]; exact hcs
      · exact ownE_base (ownE_block hown (fun g hg hg2 => hall g hg2 (by omega))) (by omega)
    · rw [hr] at hrd
      obtain ⟨rfl, rfl⟩ := read_gave hrd
      refine Or.inr ⟨?_, hk⟩
      have := spl_code _ _ _ _ _ hk
      rw [beq_eq_false_iff_ne]
      omega
  clear hcl hc4 hb4 hB4 hs4 hc3 hb3 hz3 hz4
  go_enter Try.func17, Try.ntmps17
  go_wp2_with fail
  rw [← hW3]
  refine hcaught.mono ?_
  intro r w' hh
  obtain ⟨c, q, rfl, hBw, hsz, hcase⟩ := hres.out r w' hh
  clear hh hres hcaught hW3 hW4 hs3 hB3
  have n1 : w.heap.size + 1 < w'.heap.size := by omega
  rcases hcase with ⟨hc0, l, v, hk, hcv, hown⟩ | ⟨hc0, hk⟩
  · have hk' : Hid (spl s (s.size + 1) 0 = .ok l) := hk
    clear hk
    go_wp2_with fail
    refine bodyPost_ret_by (v := .tuple #[v, .int .i64 0, .int .i64 0]) (by simp [results, Try.results17]) rfl ⟨Or.inl ⟨l, v, hk'.out, rfl, World.ownsRow.alloc hown _⟩, hBw.alloc (by omega) _⟩
  · have hk' : Hid (spl s (s.size + 1) 0 = .error (c, q)) := hk
    clear hk
    go_wp2_with fail
    go_region
    all_goals (try go_wp2)
    refine bodyPost_ret_by (v := .tuple #[.slice none 0 0, .int .i64 c, .int .i64 q]) (by simp [results, Try.results17]) rfl ⟨Or.inr ⟨c, q, hk'.out, rfl⟩, Below.drew (hBw.alloc (by omega) _)⟩
end Go.Proofs.Ytgfonnjblbpogaa
