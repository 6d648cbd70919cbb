import Derived.Test.YtddkefjcpgdomaaFrNeed
import Derived.Deep.RegionHeld3
import Derived.Deep.DeepCutAuto
namespace Go.Proofs.Ytddkefjcpgdomaa
open Go.RowKit
open FrMath (Hdr lb bd within Out ends cut Cut)

theorem needN_nil (lim : Int) : needN lim [] = 2 := rfl

set_option maxHeartbeats 1000000 in
theorem frameNeeds_walk (lim : Int) (b : ByteArray) (w : World) (hm : b.size ≤ 140737488351232) :
    Calls Try.prog 4 #[.int .i64 lim, .string b] w fun e w' => e = .returned (.bool true) ∧ Below w.heap.size w w' := by
  have H0 : ∀ W, Hid (Calls Try.prog 9 #[.int .i64 lim, .string ⟨#[]⟩] W fun r w' => r = .returned (.int .i64 2) ∧ Below W.heap.size W w') := fun W => frameNeed_any lim ⟨#[]⟩ W (by decide)
  have H1 : ∀ s W, Hid (s.size ≤ b.size → Calls Try.prog 9 #[.int .i64 lim, .string s] W fun r w' => r = .returned (.int .i64 (needN lim s.data.toList : Int)) ∧ Below W.heap.size W w') := fun s W hs => frameNeed_any lim s W (by omega)
  have H2 : ∀ s W, Hid (s.size ≤ b.size → Calls Try.prog 11 #[.int .i64 lim, .string s] W fun r w' => r = .returned (.int .i64 (needN lim s.data.toList : Int)) ∧ W = w') := fun s W hs => refNeed_any lim s W (by omega)
  go_enter Try.func4, Try.ntmps4
  go_wp2_with fail
  refine (H0 _).out.mono ?_
  rintro r w1 ⟨rfl, HB⟩
  go_wp2_with fail
  go_loopw [5] (fun iv wr => ∃ (i : Nat), i ≤ 301 ∧ iv = .int .i64 (i : Int) ∧ Below w.heap.size w wr) (fun iv _ => 301 - (intOf iv).toNat)
  case atStart => exact ⟨0, by omega, rfl, HB⟩
  case round =>
    clear HB
    obtain ⟨i, hi, rfl, HB⟩ := hrel
    by_cases hlt : i ≤ b.size ∧ i ≤ 300
    · obtain ⟨h1, h2⟩ := hlt
      have d1 : decide ((i : Int) ≤ 300) = true := decide_eq_true (by omega)
      have i0 : (0 : Int) ≤ (i : Int) := by omega
      have i1 : (i : Int) ≤ (b.size : Int) := by omega
      have hx : Hid ((b.extract 0 i).size ≤ b.size) := by unfold Hid; rw [ByteArray.size_extract]; omega
      have h2' : Hid (i ≤ 300) := h2
      clear hi h2
      go_wp2_with fail
      replace HB := HB.drew
      go_region_with (first
        | (go_at_call 9; refine ((H1 _ _).out hx.out).mono ?_; rintro r w2 ⟨rfl, hb2⟩; replace HB := HB.trans (hb2.mono HB.size); clear hb2)
        | (go_at_call 11; refine ((H2 _ _).out hx.out).mono ?_; rintro r w2 ⟨rfl, rfl⟩))
      all_goals
        go_wp2_with fail
        go_roundw
        case rel => exact ⟨i + 1, by have := h2'.out; omega, by simp, HB⟩
        case measure => have := h2'.out; simp [intOf]; omega
    · have hc : (i ≤ b.size ∧ 301 = i) ∨ ¬ i ≤ b.size := by omega
      have hb' : Hid (b.size ≤ b.size) := Nat.le_refl _
      rcases hc with ⟨h1, rfl⟩ | h1
      · clear hi hlt
        go_wp2_with fail
        refine ((H1 _ _).out hb'.out).mono ?_
        rintro r w2 ⟨rfl, hb2⟩
        replace HB := HB.trans (hb2.mono HB.size)
        go_wp2_with fail
        refine ((H2 _ _).out hb'.out).mono ?_
        rintro r w3 ⟨rfl, rfl⟩
        go_wp2_with fail
        go_ret
        exact ⟨rfl, HB⟩
      · clear hi hlt
        go_wp2_with fail
        refine ((H1 _ _).out hb'.out).mono ?_
        rintro r w2 ⟨rfl, hb2⟩
        replace HB := HB.trans (hb2.mono HB.size)
        go_wp2_with fail
        refine ((H2 _ _).out hb'.out).mono ?_
        rintro r w3 ⟨rfl, rfl⟩
        go_wp2_with fail
        go_ret
        exact ⟨rfl, HB⟩
end Go.Proofs.Ytddkefjcpgdomaa
