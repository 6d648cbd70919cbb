import Derived.Test.YtcmdmkajpbhcaaaDoorRfB
import Derived.Test.YtcmdmkajpbhcaaaDoorRfSyn
namespace Go.Proofs.YtcmdmkajpbhcaaaDoor
open Go.RowKit
open TextMath (fold lo)
set_option linter.unusedVariables false

theorem srt_upW (L : List (List UInt8)) (hn : L.Nodup) : Up (srt L) := by
  have hnd : (srt L).Nodup := (List.Nodup.perm hn) (srt_perm L).symm
  have hp := (srt_ord L).and hnd
  refine hp.imp ?_
  rintro x y ⟨h1, h2⟩
  rcases Classical.em (x < y) with h | h
  · exact h
  · exact absurd (List.le_antisymm (of_decide_eq_true h1) h) h2
theorem numW_any (n : Int) (w : World) : Calls Tryd.prog 19 #[.int .i64 n] w fun e w' => e = .returned (.int .i64 n) ∧ w' = w := by
  go_enter Tryd.func19, Tryd.ntmps19
  go_wp2_with fail
  go_ret
  exact ⟨rfl, rfl⟩
set_option maxRecDepth 100000 in
set_option maxHeartbeats 1000000 in
theorem parses_any (s : ByteArray) (w : World) (hs : s.size ≤ 1048576) :
    Calls Tryd.prog 7 #[.string s] w fun e w' => e = .returned (.bool true) ∧ Below w.heap.size w w' := by
  obtain ⟨f, hf⟩ : ∃ f, S (fold s.data.toList) = f := ⟨_, rfl⟩
  have hP := parse_any s f hf w (by omega)
  have hR : ∀ W, Hid (Calls Tryd.prog 18 #[.string s] W fun e w' => RParseIs w' s f e ∧ Below W.heap.size W w') := fun W => parseR_any s f hf W (by omega)
  have hfs : Hid (f.size = s.size) := by unfold Hid; rw [← hf, fold_size]
  have hs' : Hid (s.size ≤ 1048576) := hs
  clear hf hs
  go_enter Tryd.func7, Tryd.ntmps7
  go_wp2_with fail
  refine hP.mono ?_
  rintro e W1 ⟨hI, hb1⟩
  have o1 : Hid (Below w.heap.size w W1) := hb1
  clear hP hb1
  rcases hI with ⟨ok, v, L, rfl, hO, hn, hm⟩ | ⟨ok, rfl⟩
  · obtain ⟨va, vc, rfl, hrow⟩ := ownS_trow hO
    have hpl : ((desc f).2.1 : Int) = (s.size : Int) := by rw [(desc_inv f ok).2.2.1, hfs.out]
    rw [hpl]
    obtain ⟨W2, hW2⟩ : ∃ W2, W1.alloc (.cells #[.string (canN (typD f)), .slice va (srt L).length vc] 25) = W2 := ⟨_, rfl⟩
    have hB2 : Below W1.heap.size W1 W2 := by rw [← hW2]; exact (Below.refl _ _).alloc (Nat.le_refl _) _
    have p2 : Hid (DescB W2 W1.heap.size (.string (canN (typD f))) (.slice va (srt L).length vc)) := by unfold Hid DescB; rw [← hW2]; exact heap_alloc_last W1 _
    have o2 : Hid (Below w.heap.size w W2) := o1.out.trans (hB2.mono o1.out.size)
    have hrow2 : Hid (Row W2 va (srt L)) := (TRow.row hrow).below hB2
    have hLn : Hid (Up (srt L) ∧ ∀ z, z ∈ srt L ↔ z ∈ (desc f).1) := ⟨srt_upW L hn, fun z => by rw [srt_mem, hm]⟩
    have ok' : Hid ((desc f).2.2 = true) := ok
    have hR2 := hR W2
    clear hO hrow hn hm hB2 ok hR hpl
    go_wp2_with fail
    refine hR2.out.mono ?_
    rintro e W3 ⟨hI, hb3⟩
    obtain ⟨a, c, rfl, hr3, hl3⟩ : ∃ a c, e = .returned (.tuple #[.agg #[.string (canN (typD f)), .slice a (srt L).length c], .int .i64 0, .int .i64 (s.size : Int)]) ∧ Row W3 a (srt L) ∧ (srt L).length ≤ 4194304 := by
      rcases hI with ⟨_, a, r, c, rfl, hrow, hup, hmem, hrl⟩ | ⟨h1, _⟩
      · have : r = srt L := up_eq hup hLn.out.1 (fun z => by rw [hmem, hLn.out.2])
        subst this
        exact ⟨a, c, rfl, hrow, hrl⟩
      · rw [ok'.out] at h1; cases h1
    obtain ⟨W4, hW4⟩ : ∃ W4, W3.alloc (.cells #[.string (canN (typD f)), .slice a (srt L).length c] 25) = W4 := ⟨_, rfl⟩
    have hB4 : Below W3.heap.size W3 W4 := by rw [← hW4]; exact (Below.refl _ _).alloc (Nat.le_refl _) _
    have q4 : DescB W4 W3.heap.size (.string (canN (typD f))) (.slice a (srt L).length c) := by unfold DescB; rw [← hW4]; exact heap_alloc_last W3 _
    have p4 : DescB W4 W1.heap.size (.string (canN (typD f))) (.slice va (srt L).length vc) := (p2.out.of_block (hb3.block _ p2.out.lt)).of_block (hB4.block _ (Nat.lt_of_lt_of_le p2.out.lt hb3.size))
    have o4 : Hid (Below w.heap.size w W4) := (o2.out.trans (hb3.mono o2.out.size)).trans (hB4.mono (o2.out.trans (hb3.mono o2.out.size)).size)
    have hSa := same04_loop (srt L) (srt L) va a vc c W4 rfl hl3 ((hrow2.out.below hb3).below hB4) (hr3.below hB4)
    rw [decide_eq_true rfl] at hSa
    obtain ⟨⟨r0, f0⟩, ⟨r1, f1⟩⟩ := p4.cells
    obtain ⟨⟨t0, y0⟩, ⟨t1, y1⟩⟩ := q4.cells
    clear hR2 hI hb3 hr3 hl3 hB4 q4 p4 p2 o2 hrow2 hLn hW2
    go_wp2_with fail
    refine hSa.mono ?_
    rintro e W5 ⟨rfl, q, hW5⟩
    have o5 : Hid (Below w.heap.size w W5) := by unfold Hid; rw [hW5]; exact o4.out.trans (drewN_belowS _ _ _)
    clear hSa hW5 r0 f0 r1 f1 t0 y0 t1 y1 hW4
    go_wp2_with fail
    refine (numW_any 0 W5).mono ?_
    rintro e W5' ⟨rfl, hw5⟩
    subst hw5
    go_wp2_with fail
    refine (numW_any 0 W5').mono ?_
    rintro e W5 ⟨rfl, hw5⟩
    subst hw5
    go_wp2_with fail
    go_ret
    exact ⟨rfl, o5.out⟩
  · have hB2 : Below W1.heap.size W1 (W1.alloc (.cells #[.string ⟨#[]⟩, .slice none 0 0] 25)) := (Below.refl _ _).alloc (Nat.le_refl _) _
    have hh2 : Hid (DescB (W1.alloc (.cells #[.string ⟨#[]⟩, .slice none 0 0] 25)) W1.heap.size (.string ⟨#[]⟩) (.slice none 0 0)) := heap_alloc_last W1 _
    have o2 : Hid (Below w.heap.size w (W1.alloc (.cells #[.string ⟨#[]⟩, .slice none 0 0] 25))) := o1.out.trans (hB2.mono o1.out.size)
    obtain ⟨⟨r0, f0⟩, ⟨r1, f1⟩⟩ := hh2.out.cells
    have ok' : Hid ((desc f).2.2 = false) := ok
    have hR2 := hR (W1.alloc (.cells #[.string ⟨#[]⟩, .slice none 0 0] 25))
    clear hB2 ok hR
    go_wp2_with fail
    clear r0 f0 r1 f1
    refine hR2.out.mono ?_
    rintro e W3 ⟨hI, hb3⟩
    obtain rfl : e = .returned (.tuple #[.agg #[.string ⟨#[]⟩, .slice none 0 0], .int .i64 40, .int .i64 ((desc f).2.1 : Int)]) := by
      rcases hI with ⟨h1, _⟩ | ⟨_, h2⟩
      · rw [ok'.out] at h1; cases h1
      · exact h2
    have hB4 : Below W3.heap.size W3 (W3.alloc (.cells #[.string ⟨#[]⟩, .slice none 0 0] 25)) := (Below.refl _ _).alloc (Nat.le_refl _) _
    have hh4 : DescB (W3.alloc (.cells #[.string ⟨#[]⟩, .slice none 0 0] 25)) W3.heap.size (.string ⟨#[]⟩) (.slice none 0 0) := heap_alloc_last W3 _
    have hh5 : DescB (W3.alloc (.cells #[.string ⟨#[]⟩, .slice none 0 0] 25)) W1.heap.size (.string ⟨#[]⟩) (.slice none 0 0) := (hh2.out.of_block (hb3.block _ hh2.out.lt)).of_block (hB4.block _ (Nat.lt_of_lt_of_le hh2.out.lt hb3.size))
    have o3 : Hid (Below w.heap.size w W3) := o2.out.trans (hb3.mono o2.out.size)
    have o4 : Hid (Below w.heap.size w (W3.alloc (.cells #[.string ⟨#[]⟩, .slice none 0 0] 25))) := o3.out.trans (hB4.mono o3.out.size)
    have hSa := same04_loop [] [] none none 0 0 (W3.alloc (.cells #[.string ⟨#[]⟩, .slice none 0 0] 25)) rfl (by simp) (fun i hi => by simp at hi) (fun i hi => by simp at hi)
    rw [decide_eq_true rfl, List.length_nil] at hSa
    obtain ⟨⟨r0, f0⟩, ⟨r1, f1⟩⟩ := hh5.cells
    obtain ⟨⟨t0, y0⟩, ⟨t1, y1⟩⟩ := hh4.cells
    clear hR2 hI hb3 hB4 hh4 hh5 hh2 o2
    go_wp2_with fail
    refine hSa.mono ?_
    rintro e W5 ⟨rfl, q, hW5⟩
    have o5 : Hid (Below w.heap.size w W5) := by unfold Hid; rw [hW5]; exact o4.out.trans (drewN_belowS _ _ _)
    clear hSa hW5 r0 f0 r1 f1 t0 y0 t1 y1
    go_wp2_with fail
    refine (numW_any 40 W5).mono ?_
    rintro e W5' ⟨rfl, hw5⟩
    subst hw5
    go_wp2_with fail
    refine (numW_any 40 W5').mono ?_
    rintro e W5 ⟨rfl, hw5⟩
    subst hw5
    go_wp2_with fail
    go_ret
    exact ⟨rfl, o5.out⟩
end Go.Proofs.YtcmdmkajpbhcaaaDoor
