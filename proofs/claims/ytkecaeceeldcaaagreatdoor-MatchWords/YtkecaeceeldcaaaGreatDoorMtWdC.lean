import Derived.Test.YtkecaeceeldcaaaGreatDoorMtWdB
import Derived.Test.YtkecaeceeldcaaaGreatDoorMtRuC
namespace Go.Proofs.YtkecaeceeldcaaaGreatDoor
open Go.RowKit
open TextMath (fold squeeze sqA squeeze_eq col_length col trimS trimP)
open Ru (fam)
set_option linter.unusedVariables false
set_option linter.unusedSimpArgs false
namespace Wd

set_option maxRecDepth 100000 in
theorem word1Walked : WalkedAt 51 := fun args W => by kernel_rfl
set_option maxRecDepth 100000 in
set_option maxHeartbeats 1000000 in
theorem test_any (m : Int) (T : TypeId) (x : Value) (fn : FuncId) (hD : SynAt T x fn) (hE : WalkedAt fn) (g1 g2 g3 : Nat) (v nv : ByteArray) (hnv : nv.size ≤ 1048576) (a : List UInt8) (b : Bool) (hN : NormIs x fn v nv b) (w : World) (hM : MaxL m w) (h1 : w.cell? ⟨g1, 0, none⟩ = some (.iface T x)) (h2 : w.cell? ⟨g2, 0, none⟩ = some (.func (.func 51) #[] #[.pointer (some ⟨g3, 0, none⟩)])) (h3 : w.cell? ⟨g3, 0, none⟩ = some (.string (S a))) :
    Calls Tryz.prog 38 #[.string v, .pointer (some ⟨g1, 0, none⟩), .pointer (some ⟨g2, 0, none⟩)] w fun e w' => e = .returned (.bool (b && wdIn nv a)) ∧ Below w.heap.size w w' := by
  have hk2 : Hid (w.cell? ⟨g2, 0, none⟩ = some (.func (.func 51) #[] #[.pointer (some ⟨g3, 0, none⟩)]) ∧ w.cell? ⟨g3, 0, none⟩ = some (.string (S a))) := ⟨h2, h3⟩
  have hC : ∀ W, Below w.heap.size w W → Hid (Calls Tryz.prog 51 #[.string nv, .pointer (some ⟨g3, 0, none⟩)] W fun e w' => e = .returned (.bool (wdIn nv a)) ∧ Below W.heap.size W w') := fun W h => word1_any m nv hnv a g3 W (hM.below h) ((h.cell (World.block_lt_of_cell? w _ h3)).trans h3)
  clear h2 h3 hM hnv
  generalize wdIn nv a = r at *
  go_enter Tryz.func38, Tryz.ntmps38
  go_wp2_with fail
  rw [hD]
  go_wp2_with fail
  rw [hE]
  go_wp2_with fail
  refine (hN w).mono ?_
  rintro e W1 ⟨rfl, hb1⟩
  have o1 : Hid (Below w.heap.size w W1) := hb1
  have c2 := (hb1.cell (World.block_lt_of_cell? w _ hk2.out.1)).trans hk2.out.1
  have hC1 := hC W1 hb1
  clear hb1 h1 hC hk2 hN
  cases b
  · go_wp2_with fail
    go_ret
    exact ⟨rfl, o1.out⟩
  · go_wp2_with fail
    refine hC1.out.mono ?_
    rintro e W2 ⟨rfl, hb2⟩
    have o2 : Hid (Below w.heap.size w W2) := o1.out.trans (hb2.mono o1.out.size)
    clear hb2 c2 hC1
    go_wp2_with fail
    go_ret
    exact ⟨rfl, o2.out⟩
set_option maxRecDepth 100000 in
set_option maxHeartbeats 1000000 in
theorem verdictWd_any (m : Int) (T : TypeId) (x : Value) (fn : FuncId) (hD : SynAt T x fn) (hE : WalkedAt fn) (c : Value) (ok : Bool) (v nv : ByteArray) (hnv : nv.size ≤ 1048576) (a : List UInt8) (b : Bool) (hN : NormIs x fn v nv b) (w : World) (hM : MaxL m w) (hc : WdCls w c (.iface T x) a) :
    Calls Tryz.prog 22 #[c, .bool ok, .string v] w fun e w' => e = .returned (tvE ok (b && wdIn nv a)) ∧ Below w.heap.size w w' := by
  obtain ⟨g1, g2, g3, rfl, h1, h2, h3⟩ := hc
  have hT := test_any m T x fn hD hE g1 g2 g3 v nv hnv a b hN w hM h1 h2 h3
  obtain ⟨z, hz⟩ : ∃ z, (b && wdIn nv a) = z := ⟨_, rfl⟩
  rw [hz] at hT
  rw [hz]
  clear hz h1 h2 h3 hN hM
  cases ok
  · go_enter Tryz.func22, Tryz.ntmps22
    go_wp2_with fail
    go_ret
    exact ⟨rfl, Below.refl _ _⟩
  · go_enter Tryz.func22, Tryz.ntmps22
    go_wp2_with fail
    refine hT.mono ?_
    rintro e W1 ⟨rfl, hb1⟩
    have o1 : Hid (Below w.heap.size w W1) := hb1
    clear hT hb1
    cases z
    · go_wp2_with fail
      go_ret
      exact ⟨rfl, o1.out⟩
    · go_wp2_with fail
      go_ret
      exact ⟨rfl, o1.out⟩
/-- What the rule of words answers. -/
def wdTv (v a : List UInt8) : Value := tvE (exOk (fold a) && wdOk (sqA (fold a))) (exOk (fold v) && wdIn (S (sqA (fold v))) (sqA (fold a)))
theorem sq_len (l : List UInt8) : (squeeze l).length ≤ l.length := by
  unfold squeeze trimS trimP
  have := col_length l false
  split <;> split <;> simp <;> omega
theorem nrm_le (b : Bool) (l : List UInt8) (h : l.length ≤ 1048576) : (nrmL b (squeeze (fold l))).size ≤ 1048576 := by
  unfold nrmL
  cases b
  · exact Nat.zero_le _
  · show (S _).size ≤ _
    rw [S_size]
    exact Nat.le_trans (sq_len _) (by rw [fold_len]; exact h)
theorem byWord_any (m : Int) (s : Int) (hs : fam 1 = fam s) (v a : List UInt8) (hv : v.length ≤ 1048576) (ha : a.length ≤ 1048576) (w : World) (hM : MaxL m w) :
    Calls Tryz.prog 9 #[.int .i64 30, .int .i64 s, .string (S v), .string (S a)] w fun e w' => e = .returned (wdTv v a) ∧ Below w.heap.size w w' := by
  have zv : (S v).size ≤ 281474976710656 := by rw [S_size]; omega
  have za : (S a).size ≤ 281474976710656 := by rw [S_size]; omega
  have nv := foN_any (S v) zv
  have na := foN_any (S a) za
  rw [S_l] at nv na
  obtain ⟨ra, hra, na', hla⟩ : ∃ ra, (exOk (fold a) = true → ra = squeeze (fold a)) ∧ NormIs exX 226 (S a) (S ra) (exOk (fold a)) ∧ ra.length ≤ 1048576 := by
    cases h : exOk (fold a)
    · refine ⟨[], fun h => (by cases h), ?_, Nat.zero_le _⟩
      rw [h] at na
      exact na
    · refine ⟨squeeze (fold a), fun _ => rfl, ?_, ?_⟩
      · rw [h] at na
        exact na
      · exact Nat.le_trans (sq_len _) (by rw [fold_len]; exact ha)
  have hres : wdTv v a = tvE (exOk (fold a) && wdOk ra) (exOk (fold v) && wdIn (nrmL (exOk (fold v)) (squeeze (fold v))) ra) := by
    unfold wdTv
    cases h : exOk (fold a)
    · simp [tvE]
    · rw [hra h, squeeze_eq]
      cases h' : exOk (fold v)
      · rfl
      · rw [squeeze_eq]; rfl
  rw [hres]
  exact Ru.byRule_gen 30 1 s 68 exX 36 (by decide) (by decide) (fun cs h => h.2 (30, 1, 36) (by simp [Ru.rulT])) wordWalked hs synFo (S v) (S a) (exOk (fold a) && wdOk ra) _ (fun W c => WdCls W c (.iface 68 exX) ra) w
    (fun W hb => word_any m 68 exX 226 foAt foWalked (S a) ra hla _ na' W (hM.below hb))
    (fun c W hb hc => verdictWd_any m 68 exX 226 foAt foWalked c _ (S v) _ (nrm_le _ _ hv) ra _ nv W (hM.below hb) hc)
end Wd
end Go.Proofs.YtkecaeceeldcaaaGreatDoor
