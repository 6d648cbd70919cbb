import Derived.Test.YthaonpmmfennhaaWsC
import Derived.Test.YthaonpmmfennhaaFX4
namespace Go.Proofs.Ythaonpmmfennhaa
open Go.RowKit
open BerMath (lo enc sz be)
open FrMath (Hdr lb bd within Out ends cut Cut)
set_option linter.unusedVariables false

theorem mod_any (k : Int) (w : World) (h1 : -9223372036854775808 ≤ k) (h2 : k ≤ 9223372036854775807) :
    Calls Try.prog 18 #[.int .i64 k, .int .i64 300] w fun e w' => (∃ q : Nat, e = .returned (.int .i64 (q : Int)) ∧ q < 300) ∧ w = w' := by
  obtain ⟨r, hr⟩ : ∃ r, k.tmod 300 = r := ⟨_, rfl⟩
  have hb : -300 < r ∧ r < 300 := by
    have a1 := Int.tmod_lt_of_pos k (b := 300) (by decide)
    have a2 : -(300 : Int) < k.tmod 300 := by
      by_cases hk : 0 ≤ k
      · have := Int.tmod_nonneg 300 hk; omega
      · have e : k.tmod 300 = -((-k).tmod 300) := by rw [Int.neg_tmod]; omega
        have := Int.tmod_lt_of_pos (-k) (b := 300) (by decide)
        omega
    omega
  have hw : wrap64 r = r := by unfold wrap64; omega
  by_cases h : r < 0
  · have d1 : decide (r < 0) = true := decide_eq_true h
    obtain ⟨q, hq⟩ : ∃ q : Nat, r + 300 = (q : Int) := ⟨(r + 300).toNat, by omega⟩
    have hw2 : wrap64 (r + 300) = (q : Int) := by rw [← hq]; unfold wrap64; omega
    have hq3 : Hid (q < 300) := by unfold Hid; omega
    clear hb h hq h1 h2
    go_enter Try.func18, Try.ntmps18
    go_wp2_with fail
    go_ret
    exact ⟨⟨q, congrArg (fun x => Ending.returned (Value.int .i64 x)) hw2, hq3.out⟩, rfl⟩
  · have d1 : decide (r < 0) = false := decide_eq_false h
    obtain ⟨q, hq⟩ : ∃ q : Nat, r = (q : Int) := ⟨r.toNat, by omega⟩
    have hq3 : Hid (q < 300) := by unfold Hid; omega
    subst hq
    clear hb h h1 h2
    go_enter Try.func18, Try.ntmps18
    go_wp2_with fail
    go_ret
    exact ⟨⟨q, rfl, hq3.out⟩, rfl⟩

set_option maxRecDepth 100000 in
set_option maxHeartbeats 2000000 in
theorem wpieces_any (s0 : ByteArray) (a : Option Addr) (l c : Nat) (w : World) (hi : IsInts w a l) (hs : s0.size ≤ 33554432) (hl : l ≤ 33554432) :
    Calls Try.prog 6 #[.string s0, .slice a l c] w fun e w' => ∃ v ps, e = .returned v ∧ OwnS w' w.heap.size v ps ∧ ps.flatten = s0.data.toList ∧ ps.length ≤ l + 1 ∧ Below w.heap.size w w' := by
  go_enter Try.func6, Try.ntmps6
  go_wp2_with fail
  go_loopw [0, 5, 11] (fun sv' lv iv wr => ∃ (s : ByteArray) (i : Nat) (ps : List (List UInt8)), sv' = .string s ∧ iv = .int .i64 (i : Int) ∧ i ≤ l ∧ Hid (s.size ≤ s0.size) ∧ Hid (OwnS wr w.heap.size lv ps) ∧ Hid (ps.flatten ++ s.data.toList = s0.data.toList) ∧ Hid (ps.length = i) ∧ Below w.heap.size w wr) (fun _ _ iv _ => l - (intOf iv).toNat)
  case atStart => exact ⟨s0, 0, [], rfl, rfl, Nat.zero_le _, Nat.le_refl _, ownS_nil _ _, by unfold Hid; simp, rfl, Below.refl _ _⟩
  case round =>
    obtain ⟨s, i, ps, rfl, rfl, hil, hss, hown, hfl, hlen, HB⟩ := hrel
    obtain ⟨la, lc, rfl⟩ := ownS_len hown.out
    have hBs : w.heap.size ≤ wr.heap.size := HB.size
    have hl2 : Hid (ps.length ≤ 67108864) := by have := hlen.out; unfold Hid; omega
    by_cases h1 : i < l
    · obtain ⟨b, off, v, rfl, hcell, v1, v2⟩ := hi.below (Nat.le_refl _) HB i h1
      have i0 : (0 : Int) ≤ (i : Int) := Int.natCast_nonneg _
      have i1 : (i : Int) < (l : Int) := Int.ofNat_lt.2 h1
      have HM : Hid (Calls Try.prog 18 #[.int .i64 v, .int .i64 300] wr fun e w' => (∃ q : Nat, e = .returned (.int .i64 (q : Int)) ∧ q < 300) ∧ wr = w') := mod_any v wr v1 v2
      have hmeas : Hid (l - (i + 1) < l - i) := by unfold Hid; omega
      have h1' : Hid (i + 1 ≤ l) := h1
      clear v1 v2 hi hs
      go_wp2_with fail
      refine HM.out.mono ?_
      rintro e w1 ⟨⟨q0, rfl, hq0⟩, rfl⟩
      have hcase : ∃ q : Nat, q ≤ s.size ∧ ((s.size < q0 ∧ q = s.size) ∨ (¬ s.size < q0 ∧ q = q0)) := by
        by_cases hq : s.size < q0
        · exact ⟨s.size, Nat.le_refl _, Or.inl ⟨hq, rfl⟩⟩
        · exact ⟨q0, by omega, Or.inr ⟨hq, rfl⟩⟩
      obtain ⟨q, hqn, hcase⟩ := hcase
      have q0' : (0 : Int) ≤ (q : Int) := Int.natCast_nonneg _
      have q1 : (q : Int) ≤ (s.size : Int) := Int.ofNat_le.2 hqn
      obtain ⟨X, hX⟩ : ∃ X, s.extract 0 q = X := ⟨_, rfl⟩
      obtain ⟨Y, hY⟩ : ∃ Y, s.extract q s.size = Y := ⟨_, rfl⟩
      obtain ⟨tk, htk⟩ : ∃ tk, s.data.toList.take q = tk := ⟨_, rfl⟩
      have hXl : Hid (X = S tk) := by unfold Hid; rw [← hX, ← htk]; apply S_eq; exact take_l s q
      have hYl : Hid (Y.data.toList = s.data.toList.drop q) := by unfold Hid; rw [← hY]; exact drop_l s q
      have hYs : Hid (Y.size ≤ s0.size) := by unfold Hid; have := hss.out; rw [← hY, ByteArray.size_extract]; omega
      have hfl' : Hid ((ps ++ [tk]).flatten ++ Y.data.toList = s0.data.toList) := by unfold Hid; rw [hYl.out, ← hfl.out, ← htk]; simp
      have hlen' : Hid ((ps ++ [tk]).length = i + 1) := by unfold Hid; rw [List.length_append, hlen.out]; rfl
      clear hfl hq0 HM hqn hss htk hYl
      rcases hcase with ⟨d1, rfl⟩ | ⟨d1, rfl⟩
      · go_wp2_with (at_builtin; refine push_text _ rfl _ _ rfl w.heap.size _ ps tk _ rfl rfl ?_ ?_ ?_ hl2.out ?_; (exact World.ownsRow.alloc hown.out _); (rw [← hXl.out]; exact heap_alloc_new _ _); (simp; omega); intro g6 cap6 w6 hown6 hgr6 hlie6 hb6)
        refine ⟨⟨Y, i + 1, _, congrArg Value.string (by rw [← hY]; simp), by simp, h1'.out, hYs, hown6, hfl', hlen', (HB.alloc HB.size _).trans hb6⟩, ?_⟩
        have := hmeas.out
        simp [intOf]
        omega
      · go_wp2_with (at_builtin; refine push_text _ rfl _ _ rfl w.heap.size _ ps tk _ rfl rfl ?_ ?_ ?_ hl2.out ?_; (exact World.ownsRow.alloc hown.out _); (rw [← hXl.out]; exact heap_alloc_new _ _); (simp; omega); intro g6 cap6 w6 hown6 hgr6 hlie6 hb6)
        refine ⟨⟨Y, i + 1, _, rfl, by simp, h1'.out, hYs, hown6, hfl', hlen', (HB.alloc HB.size _).trans hb6⟩, ?_⟩
        have := hmeas.out
        simp [intOf]
        omega
    · have hXl : Hid (s = S s.data.toList) := (S_of s).symm
      have hfin : Hid ((ps ++ [s.data.toList]).flatten = s0.data.toList ∧ (ps ++ [s.data.toList]).length ≤ l + 1) := by
        unfold Hid
        refine ⟨by rw [← hfl.out]; simp, ?_⟩
        rw [List.length_append, hlen.out]
        simp
        omega
      clear hfl hi hs
      go_wp2_with (at_builtin; refine push_text _ rfl _ _ rfl w.heap.size _ ps s.data.toList _ rfl rfl ?_ ?_ ?_ hl2.out ?_; (exact World.ownsRow.alloc hown.out _); (rw [← hXl.out]; exact heap_alloc_new _ _); (simp; omega); intro g6 cap6 w6 hown6 hgr6 hlie6 hb6)
      go_ret
      exact ⟨_, _, rfl, hown6, hfin.out.1, hfin.out.2, (HB.alloc HB.size _).trans hb6⟩

set_option maxHeartbeats 1000000 in
theorem wsame_some (l : List (List UInt8)) (B B' g g' cap cap' : Nat) (w : World) (hl : l.length ≤ 67108864) (h1 : OwnS w B (.slice (some ⟨g, 0, none⟩) l.length cap) l) (h2 : OwnS w B' (.slice (some ⟨g', 0, none⟩) l.length cap') l) :
    Calls Try.prog 8 #[.slice (some ⟨g, 0, none⟩) l.length cap, .slice (some ⟨g', 0, none⟩) l.length cap'] w fun r w' => r = .returned (.bool true) ∧ Below w.heap.size w w' := by
  go_enter Try.func8, Try.ntmps8
  go_wp2_with fail
  go_loopw [13] (fun iv wr => ∃ (k : Nat), k ≤ l.length ∧ iv = .int .i64 (k : Int) ∧ Hid (wr.heap = w.heap) ∧ Below w.heap.size w wr) (fun iv _ => l.length - (intOf iv).toNat)
  case atStart => exact ⟨0, Nat.zero_le _, rfl, rfl, Below.refl _ _⟩
  case round =>
    obtain ⟨k, hk, rfl, hh, HB⟩ := hrel
    by_cases hlt : k < l.length
    · have a0 := ownS_cell h1 k hlt
      have b0 := ownS_cell h2 k hlt
      have hE : ∀ a, wr.cell? a = w.cell? a := fun a => World.cell?_of_block (w := w) (by rw [hh.out])
      rw [← hE] at a0 b0
      have k0 : (0 : Int) ≤ (k : Int) := Int.natCast_nonneg _
      have k1 : (k : Int) < (l.length : Int) := Int.ofNat_lt.2 hlt
      generalize S l[k] = x at *
      clear hE
      go_wp2_with fail
      go_region
      all_goals
        go_wp2_with fail
        go_roundw
        case rel => exact ⟨k + 1, hlt, by simp, by exact hh, HB.drew⟩
        case measure => simp [intOf]; omega
    · have hke : k = l.length := by omega
      subst hke
      go_wp2_with fail
      go_ret
      exact ⟨rfl, HB⟩
theorem wsame_any (l : List (List UInt8)) (B B' : Nat) (v v' : Value) (w : World) (hl : l.length ≤ 67108864) (h1 : OwnS w B v l) (h2 : OwnS w B' v' l) :
    Calls Try.prog 8 #[v, v'] w fun r w' => r = .returned (.bool true) ∧ Below w.heap.size w w' := by
  have empty : ∀ (a a' : Option Addr) (c c' : Nat), Calls Try.prog 8 #[.slice a 0 c, .slice a' 0 c'] w fun r w' => r = .returned (.bool true) ∧ Below w.heap.size w w' := by
    intro a a' c c'
    go_enter Try.func8, Try.ntmps8
    go_wp2_with fail
    go_loopw [13] (fun iv wr => iv = .int .i64 0 ∧ w = wr) (fun _ _ => 0)
    case atStart => exact ⟨rfl, rfl⟩
    case round =>
      obtain ⟨rfl, rfl⟩ := hrel
      go_wp2_with fail
      go_ret
      exact ⟨rfl, Below.refl _ _⟩
  rcases ownS_form h1 with ⟨rfl, rfl⟩ | ⟨g, cap, rfl⟩
  · rcases ownS_form h2 with ⟨rfl, _⟩ | ⟨g', cap', rfl⟩
    · exact empty _ _ _ _
    · exact empty _ _ _ _
  · rcases ownS_form h2 with ⟨rfl, rfl⟩ | ⟨g', cap', rfl⟩
    · exact empty _ _ _ _
    · exact wsame_some l B B' g g' cap cap' w hl h1 h2
end Go.Proofs.Ythaonpmmfennhaa
