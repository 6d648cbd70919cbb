import Derived.Test.YtoofphmplfbjgaaGreatMtLsD
import Derived.Test.YtoofphmplfbjgaaGreatAtOwn
namespace Go.Proofs.YtoofphmplfbjgaaGreat
open Go.RowKit
open TextMath (fold squeeze check unhex wo normal)
set_option linter.unusedVariables false
set_option linter.unusedSimpArgs false
namespace Ml

theorem own_nil' (W : World) (B : Nat) : Own W B (.slice none 0 0) [] := ⟨rfl, Or.inl ⟨rfl, rfl⟩⟩
theorem enc_take {l : List UInt8} {k : Nat} (h : UInt8) (hk : k < l.length) : enc h (l.take (k + 1)) = enc h (l.take k) ++ en1 h l[k] := by
  unfold enc
  rw [List.take_succ_eq_append_getElem hk, List.flatMap_append]
  simp
set_option maxRecDepth 100000 in
set_option maxHeartbeats 4000000 in
theorem line_any (s : ByteArray) (w : World) (hs : s.size ≤ 1048576) : Calls Tryz.prog 11 #[.string s] w fun e w' => e = .returned (.string (S (enc 67 s.data.toList))) ∧ Below w.heap.size w w' := by
  have hL : Hid (s.data.toList.length = s.size) := size_l s
  have hs' : Hid (s.size ≤ 1048576) := hs
  have h0 : Hid (Own w w.heap.size (.slice none 0 0) (enc 67 (s.data.toList.take 0)) ∧ Below w.heap.size w w) := ⟨own_nil' w _, Below.refl _ _⟩
  go_enter Tryz.func11, Tryz.ntmps11
  go_wp2_with fail
  go_loopw [3, 4] (fun ov iv wr => ∃ (k : Nat), k ≤ s.size ∧ iv = .int .i64 (k : Int) ∧ Hid (Own wr w.heap.size ov (enc 67 (s.data.toList.take k)) ∧ Below w.heap.size w wr)) (fun _ iv _ => s.size - (intOf iv).toNat)
  case atStart => exact ⟨0, Nat.zero_le _, rfl, h0⟩
  case round =>
    obtain ⟨k, hk, rfl, hI⟩ := hrel
    clear h0
    have i0 : (0 : Int) ≤ (k : Int) := Int.natCast_nonneg _
    by_cases hlt : k < s.size
    · have i1 : (k : Int) < (s.size : Int) := Int.ofNat_lt.2 hlt
      have hkl : k < s.data.toList.length := by rw [hL.out]; exact hlt
      have hnx : ∀ x, s.data.toList[k] = x → enc 67 (s.data.toList.take (k + 1)) = enc 67 (s.data.toList.take k) ++ en1 67 x := fun x hx => by rw [enc_take 67 hkl, hx]
      obtain ⟨c, hc⟩ : ∃ c : UInt8, s[k] = c := ⟨_, rfl⟩
      have hnx' : enc 67 (s.data.toList.take (k + 1)) = enc 67 (s.data.toList.take k) ++ en1 67 c := hnx c hc
      have hbd : (enc 67 (s.data.toList.take k)).length ≤ 3145728 := by
        have h1 := enc_len 67 (s.data.toList.take k)
        have h2 := List.length_take_le k s.data.toList
        omega
      have hbd' : Hid ((enc 67 (s.data.toList.take k)).length ≤ 3145728) := hbd
      have hlt' : Hid (k < s.size) := hlt
      have hsz : Hid (w.heap.size ≤ wr.heap.size) := hI.out.2.size
      obtain ⟨l2, hl2⟩ : ∃ l2, enc 67 (s.data.toList.take (k + 1)) = l2 := ⟨_, rfl⟩
      rw [hl2] at hnx'
      have hl2' : Hid (enc 67 (s.data.toList.take (k + 1)) = l2) := hl2
      generalize enc 67 (s.data.toList.take k) = l1 at *
      clear hnx hbd hl2
      by_cases h1 : (c.toNat : Int) = 36
      · have b1 : ((c.toNat : Int) == 36) = true := by rw [h1]; rfl
        have hn : Hid (l2 = l1 ++ (⟨#[92, 50, 52]⟩ : ByteArray).data.toList) := by
          have e : c = 36 := UInt8.toNat_inj.1 (by rw [show (36 : UInt8).toNat = 36 from rfl]; omega)
          unfold Hid
          rw [hnx', e]
          rfl
        clear hnx'
        go_wp2_with (at_builtin; refine push_str _ rfl _ _ rfl w.heap.size _ l1 ⟨#[92, 50, 52]⟩ rfl rfl ?_ ?_ ?_ ?_; (exact hI.out.1); (exact hsz.out); (have := hbd'.out; show _ + 3 ≤ _; omega); intro v1 w1 hown1 hb1)
        have hJ : Hid (Own w1 w.heap.size v1 l2 ∧ Below w.heap.size w w1) := ⟨by rw [hn.out]; exact hown1, hI.out.2.trans hb1⟩
        clear hown1 hb1 hI hn
        go_wp2_with fail
        go_roundw
        case rel => exact ⟨k + 1, hlt'.out, by simp, by rw [hl2'.out]; exact hJ⟩
        case measure => have := hlt'.out; simp [intOf]; omega
      · have b1 : ((c.toNat : Int) == 36) = false := beq_eq_false_iff_ne.2 h1
        by_cases h2 : (c.toNat : Int) = 92
        · have b2 : ((c.toNat : Int) == 92) = true := by rw [h2]; rfl
          have hn : Hid (l2 = l1 ++ (⟨#[92, 53, 67]⟩ : ByteArray).data.toList) := by
            have e : c = 92 := UInt8.toNat_inj.1 (by rw [show (92 : UInt8).toNat = 92 from rfl]; omega)
            unfold Hid
            rw [hnx', e]
            rfl
          clear hnx'
          go_wp2_with (at_builtin; refine push_str _ rfl _ _ rfl w.heap.size _ l1 ⟨#[92, 53, 67]⟩ rfl rfl ?_ ?_ ?_ ?_; (exact hI.out.1); (exact hsz.out); (have := hbd'.out; show _ + 3 ≤ _; omega); intro v1 w1 hown1 hb1)
          have hJ : Hid (Own w1 w.heap.size v1 l2 ∧ Below w.heap.size w w1) := ⟨by rw [hn.out]; exact hown1, hI.out.2.trans hb1⟩
          clear hown1 hb1 hI hn
          go_wp2_with fail
          go_roundw
          case rel => exact ⟨k + 1, hlt'.out, by simp, by rw [hl2'.out]; exact hJ⟩
          case measure => have := hlt'.out; simp [intOf]; omega
        · have b2 : ((c.toNat : Int) == 92) = false := beq_eq_false_iff_ne.2 h2
          have hn : Hid (l2 = l1 ++ [c]) := by
            have e1 : ¬ c = 36 := fun e => h1 (by rw [e]; rfl)
            have e2 : ¬ c = 92 := fun e => h2 (by rw [e]; rfl)
            unfold Hid
            rw [hnx']
            unfold en1
            rw [if_neg e1, if_neg e2]
          clear hnx'
          go_wp2_with (at_builtin; refine push_byte_at _ rfl _ _ rfl w.heap.size _ l1 c _ rfl rfl ?_ ?_ ?_ ?_ ?_; (first | rfl | (simp)); (exact hI.out.1); (exact hsz.out); (have := hbd'.out; omega); intro v1 w1 hown1 hb1)
          have hJ : Hid (Own w1 w.heap.size v1 l2 ∧ Below w.heap.size w w1) := ⟨by rw [hn.out]; exact hown1, hI.out.2.trans hb1⟩
          clear hown1 hb1 hI hn
          go_wp2_with fail
          go_roundw
          case rel => exact ⟨k + 1, hlt'.out, by simp, by rw [hl2'.out]; exact hJ⟩
          case measure => have := hlt'.out; simp [intOf]; omega
    · obtain rfl : k = s.size := by omega
      have hcv : Hid (Own wr w.heap.size u3 (enc 67 s.data.toList)) := by
        have h := hI.out.1
        rw [List.take_of_length_le (by rw [hL.out]; exact Nat.le_refl _)] at h
        exact h
      have hcv' := own_conv hcv.out
      have o3 : Hid (Below w.heap.size w wr) := hI.out.2
      clear hI hcv
      go_wp2_with fail
      go_ret
      exact ⟨rfl, o3.out⟩
end Ml
end Go.Proofs.YtoofphmplfbjgaaGreat
