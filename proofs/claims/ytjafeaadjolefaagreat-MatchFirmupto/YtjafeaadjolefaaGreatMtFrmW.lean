import Derived.Test.YtjafeaadjolefaaGreatMtFrmF
namespace Go.Proofs.YtjafeaadjolefaaGreat
open Go.RowKit
set_option linter.unusedVariables false

set_option maxRecDepth 100000 in
set_option maxHeartbeats 2000000 in
theorem matchFirm_walk (v : ByteArray) (m : Int) (w : World) (hM : MaxL m w) (hv : v.size ≤ 1048576) : Calls Tryz.prog 3 #[.string v] w fun e w' => e = .returned (.bool true) ∧ Below w.heap.size w w' := by
  have hO : Hid (Calls Tryz.prog 4 #[.int .i64 9, .string v] w fun e w' => e = .returned (.tuple #[.string v, .bool true]) ∧ Below w.heap.size w w') := normalK_any 9 _ _ _ synOct octAt octWalked v v true w (octNorm v w)
  have hF : Hid (∀ k : Nat, 1 ≤ k → k ≤ 11 → k ≠ 10 → Firm m (k : Int) v) := fun k => firm_all m v hv k
  have hM' : Hid (MaxL m w) := hM
  clear hM hv
  go_enter Tryz.func3, Tryz.ntmps3
  go_wp2_with fail
  refine hO.out.mono ?_
  rintro e w1 ⟨rfl, hb1⟩
  have o1 : Hid (Below w.heap.size w w1) := hb1
  clear hO hb1
  go_wp2_with fail
  go_loopw [5] (fun kv wr => ∃ (k : Nat), 1 ≤ k ∧ k ≤ 12 ∧ kv = .int .i64 (k : Int) ∧ Hid (Below w.heap.size w wr)) (fun kv _ => 12 - (intOf kv).toNat)
  case atStart => exact ⟨1, by omega, by omega, rfl, o1⟩
  case round =>
    obtain ⟨k, h1, h12, rfl, hb⟩ := hrel
    have hm : Hid (MaxL m wr) := hM'.out.below hb.out
    have i0 : (1 : Int) ≤ (k : Int) := by omega
    by_cases hk : k ≤ 11
    · have i1 : (k : Int) ≤ 11 := by omega
      by_cases h10 : k = 10
      · subst h10
        clear hF hm hM'
        go_wp2_with fail
        go_roundw
        case rel => exact ⟨11, by omega, by omega, rfl, hb⟩
        case measure => simp [intOf]
      · have i2 : ¬ (k : Int) = 10 := by omega
        obtain ⟨n, b, hN1, hN2⟩ := hF.out k h1 hk h10
        have hN1' := hN1 wr hm.out
        clear hN1
        obtain ⟨be, he⟩ : ∃ b, n.toList.isEmpty = b := ⟨_, rfl⟩
        have hN2' : Hid (b = true → be = false → NrmC m (k : Int) n n true) := fun hb h => hN2 hb (he.trans h)
        have hk' : Hid (1 ≤ k ∧ k ≤ 11) := ⟨h1, hk⟩
        clear hN2 hF h1 h12 hk
        go_wp2_with fail
        refine hN1'.mono ?_
        rintro e w2 ⟨rfl, hb2⟩
        have o2 : Hid (Below w.heap.size w w2) := hb.out.trans (hb2.mono hb.out.size)
        have m2 : Hid (MaxL m w2) := hm.out.below hb2
        clear hN1' hb2 hm hb
        cases b
        · clear hN2'
          go_wp2_with fail
          go_roundw
          case rel => exact ⟨k + 1, by have := hk'.out; omega, by have := hk'.out; omega, by simp, o2⟩
          case measure => have := hk'.out; simp [intOf]; omega
        · cases be
          · have hN3 := hN2'.out rfl rfl w2 m2.out
            clear hN2' m2
            go_wp2_with fail
            refine hN3.mono ?_
            rintro e w3 ⟨rfl, hb3⟩
            have o3 : Hid (Below w.heap.size w w3) := o2.out.trans (hb3.mono o2.out.size)
            clear hN3 hb3
            go_wp2_with fail
            go_roundw
            case rel => exact ⟨k + 1, by have := hk'.out; omega, by have := hk'.out; omega, by simp, o3⟩
            case measure => have := hk'.out; simp [intOf]; omega
          · clear hN2'
            go_wp2_with fail
            go_roundw
            case rel => exact ⟨k + 1, by have := hk'.out; omega, by have := hk'.out; omega, by simp, o2⟩
            case measure => have := hk'.out; simp [intOf]; omega
    · have i1 : ¬ (k : Int) ≤ 11 := by omega
      clear hF hm hM'
      go_wp2_with fail
      go_ret
      exact ⟨rfl, hb.out⟩
end Go.Proofs.YtjafeaadjolefaaGreat
