import Derived.Test.YtddkefjcpgdomaaFrRSplit
import Derived.Test.YtddkefjcpgdomaaFrSame
namespace Go.Proofs.Ytddkefjcpgdomaa
open Go.RowKit
open FrMath (Hdr lb bd within Out ends cut Cut)

theorem two_lt (lim : Int) (h : lim < 2) : Cut lim [48, 0, 48, 0, 48] = ⟨[], 0, 33⟩ := by
  simp [Cut, cut, FrMath.ends, FrMath.look, FrMath.within, FrMath.lb, h]
theorem two_ge (lim : Int) (h : ¬ lim < 2) : Cut lim [48, 0, 48, 0, 48] = ⟨[[48, 0], [48, 0]], 4, 0⟩ := by
  simp [Cut, cut, FrMath.ends, FrMath.look, FrMath.within, FrMath.lb, h]

theorem splitsTwo_any (lim : Int) (w : World) :
    Calls Try.prog 16 #[.int .i64 lim] w fun r w' => r = .returned (.bool true) ∧ Below w.heap.size w w' := by
  have H1 : ∀ W, Hid (Calls Try.prog 10 #[.int .i64 lim, .string ⟨#[48, 0, 48, 0, 48]⟩] W fun r w' => cutQ (Cut lim [48, 0, 48, 0, 48]) W.heap.size r w' ∧ Below W.heap.size W w') := fun W => frameSplit_any lim ⟨#[48, 0, 48, 0, 48]⟩ W (by decide)
  by_cases h : lim < 2
  · rw [two_lt lim h] at H1
    have d1 : decide (lim < 2) = true := decide_eq_true h
    go_enter Try.func16, Try.ntmps16
    go_wp2_with fail
    refine (H1 _).out.mono ?_
    rintro r w1 ⟨⟨v, rfl, hown⟩, hb1⟩
    rcases ownS_form hown with ⟨rfl, _⟩ | ⟨g, cap, rfl⟩
    all_goals
      clear hown
      go_wp2_with fail
      go_ret
      exact ⟨rfl, hb1.alloc hb1.size _⟩
  · rw [two_ge lim h] at H1
    have d1 : decide (lim < 2) = false := decide_eq_false h
    go_enter Try.func16, Try.ntmps16
    go_wp2_with fail
    refine (H1 _).out.mono ?_
    rintro r w1 ⟨⟨v, rfl, hown⟩, hb1⟩
    rcases ownS_form hown with ⟨_, hc⟩ | ⟨g, cap, rfl⟩
    · cases hc
    · clear hown
      go_wp2_with fail
      go_ret
      exact ⟨rfl, hb1.alloc hb1.size _⟩

set_option maxHeartbeats 1000000 in
theorem frameSplits_walk (lim : Int) (s : ByteArray) (w : World) (hm : s.size ≤ 1048576) :
    Calls Try.prog 6 #[.int .i64 lim, .string s] w fun e w' => e = .returned (.bool true) ∧ Below w.heap.size w w' := by
  have H1 : ∀ W, Hid (Calls Try.prog 10 #[.int .i64 lim, .string s] W fun r w' => cutQ (Cut lim s.data.toList) W.heap.size r w' ∧ Below W.heap.size W w') := fun W => frameSplit_any lim s W (by omega)
  have H2 : ∀ W, Hid (Calls Try.prog 14 #[.int .i64 lim, .string s] W fun r w' => cutQ (Cut lim s.data.toList) W.heap.size r w' ∧ Below W.heap.size W w') := fun W => refSplit_any lim s W (by omega)
  have H3 : ∀ W, Hid (Calls Try.prog 16 #[.int .i64 lim] W fun r w' => r = .returned (.bool true) ∧ Below W.heap.size W w') := fun W => splitsTwo_any lim W
  have hlen : (Cut lim s.data.toList).ms.length ≤ 4194304 := by
    have := FrMath.cut_len lim (s.data.toList.length + 1) s.data.toList
    rw [size_l] at this
    unfold FrMath.Cut
    rw [size_l]
    omega
  generalize Cut lim s.data.toList = o at *
  obtain ⟨ms, at_, er⟩ := o
  simp only at hlen
  clear hm
  go_enter Try.func6, Try.ntmps6
  go_wp2_with fail
  refine (H1 _).out.mono ?_
  rintro r w1 ⟨⟨v, rfl, hown1⟩, hb1⟩
  obtain ⟨ad, ln, cp, rfl⟩ := ownS_slice hown1
  go_wp2_with fail
  refine (H2 _).out.mono ?_
  rintro r w2 ⟨⟨v, rfl, hown2⟩, hb2⟩
  obtain ⟨ad2, ln2, cp2, rfl⟩ := ownS_slice hown2
  have m2 : w1.heap.size < w2.heap.size := by have := hb2.size; simp at this; omega
  obtain ⟨a0, a1, a2, x0, x1, x2⟩ := cells3 ((cells3_new w1 (.slice ad ln cp) (.int .i64 (at_ : Int)) (.int .i64 (er : Int)) 26).of_block (hb2.block w1.heap.size (by simp)))
  have hs1 : OwnS w2 w.heap.size (.slice ad ln cp) ms := ownS_below (World.ownsRow.alloc hown1 _) hb2
  have hsame : ∀ t, Hid (Calls Try.prog 15 #[.slice ad ln cp, .slice ad2 ln2 cp2] (w2.alloc t) fun r w' => r = .returned (.bool true) ∧ Below (w2.alloc t).heap.size (w2.alloc t) w') := fun t => same_any ms _ _ _ _ _ hlen (World.ownsRow.alloc hs1 _) (World.ownsRow.alloc hown2 _)
  have HB : Below w.heap.size w w2 := (hb1.alloc hb1.size _).trans (hb2.mono (by have := hb1.size; simp; omega))
  clear hb1 hb2 hown1 hown2 hs1
  go_wp2_with fail
  refine (hsame _).out.mono ?_
  rintro r w3 ⟨rfl, hb3⟩
  replace HB := (HB.alloc HB.size _).trans (hb3.mono (by have := HB.size; simp; omega))
  clear hb3
  go_wp2_with fail
  refine (H3 _).out.mono ?_
  rintro r w4 ⟨rfl, hb4⟩
  go_wp2_with fail
  go_ret
  exact ⟨rfl, HB.trans (hb4.mono HB.size)⟩
end Go.Proofs.Ytddkefjcpgdomaa
