import Derived.Test.YtnjodplnbfmjeaaGreatDoorMtTmH
namespace Go.Proofs.YtnjodplnbfmjeaaGreatDoor
open Go.RowKit
set_option linter.unusedVariables false
set_option linter.unusedSimpArgs false
namespace Mt

def zoR (l : List UInt8) (br : Bool) : Int × List UInt8 × Bool :=
  if Lib.hasPrefix l [90] = true then (0, Lib.trimPrefix l [90], br)
  else if Lib.hasPrefix l [43] = true then zmR (Lib.trimPrefix l [43]) br
  else if Lib.hasPrefix l [45] = true then (-(zmR (Lib.trimPrefix l [45]) br).1, (zmR (Lib.trimPrefix l [45]) br).2)
  else (0, l, true)
theorem zmR_bnd (l : List UInt8) (br : Bool) : 0 ≤ (zmR l br).1 ∧ (zmR l br).1 ≤ 10000 := by
  unfold zmR
  have h1 := numR_bnd 0 23 l br (by decide) (by decide)
  by_cases q : (numR 2 0 23 l br).2.1 = []
  · rw [if_pos q]
    show 0 ≤ (numR 2 0 23 l br).1 * 60 ∧ (numR 2 0 23 l br).1 * 60 ≤ 10000
    omega
  · rw [if_neg q]
    have h2 := numR_bnd 0 59 (numR 2 0 23 l br).2.1 (numR 2 0 23 l br).2.2 (by decide) (by decide)
    show 0 ≤ (numR 2 0 23 l br).1 * 60 + (numR 2 0 59 (numR 2 0 23 l br).2.1 (numR 2 0 23 l br).2.2).1 ∧ (numR 2 0 23 l br).1 * 60 + (numR 2 0 59 (numR 2 0 23 l br).2.1 (numR 2 0 23 l br).2.2).1 ≤ 10000
    omega
theorem trimP_len (l p : List UInt8) : (Lib.trimPrefix l p).length ≤ l.length := by
  unfold Lib.trimPrefix
  split
  · rw [List.length_drop]; omega
  · exact Nat.le_refl _
theorem zone_get {W W1 : World} {b : Nat} {l : List UInt8} {br : Bool} (h : Tr W b l br) : W.cell? ⟨b, 0, none⟩ = some (.string (S l)) := h.cells.1
set_option maxRecDepth 100000 in
set_option maxHeartbeats 1000000 in
theorem zone_any (b : Nat) (l : List UInt8) (br : Bool) (w : World) (hR : Tr w b l br) (hl : l.length ≤ 4194304) :
    Calls Tryz.prog 280 #[.pointer (some ⟨b, 0, none⟩)] w fun e w' => e = .returned (.int .i64 (zoR l br).1) ∧ Tr w' b (zoR l br).2.1 (zoR l br).2.2 ∧ Tb b w w' := by
  obtain ⟨c0, c1, f0, f1⟩ := hR.cells
  have hR' : Hid (Tr w b l br) := hR
  obtain ⟨out, hout'⟩ : ∃ out, zoR l br = out := ⟨_, rfl⟩
  rw [hout']
  have hC : ∀ (c : UInt8), Hid (Calls Tryz.prog 68 #[.string (S l), .string (S [c])] w fun e w' => e = .returned (.tuple #[.string (S (Lib.trimPrefix l [c])), .bool (Lib.hasPrefix l [c])]) ∧ w' = w) := fun c => by
    have := Tryz.strings_CutPrefix (S l) (S [c]) w
    rw [S_l, S_l] at this
    exact this
  have hZ : ∀ (W : World) (m : List UInt8), Tr W b m br → m.length ≤ l.length → Hid (Calls Tryz.prog 286 #[.pointer (some ⟨b, 0, none⟩)] W fun e w' => e = .returned (.int .i64 (zmR m br).1) ∧ Tr w' b (zmR m br).2.1 (zmR m br).2.2 ∧ Tb b W w') := fun W m h hm => zoneMinutes_any b m br W h (Nat.le_trans hm hl)
  have hset : ∀ m : List UInt8, Hid (Tr (w.setCell ⟨b, 0, none⟩ (.string (S m))) b m br ∧ Tb b w (w.setCell ⟨b, 0, none⟩ (.string (S m)))) := fun m => ⟨hR'.out.rest m, (Tb.refl b w).set _ _⟩
  have hC90 := hC 90
  have hC43 := hC 43
  have hC45 := hC 45
  clear hC
  rw [show S ([90] : List UInt8) = (⟨#[90]⟩ : ByteArray) from rfl] at hC90
  rw [show S ([43] : List UInt8) = (⟨#[43]⟩ : ByteArray) from rfl] at hC43
  rw [show S ([45] : List UInt8) = (⟨#[45]⟩ : ByteArray) from rfl] at hC45
  unfold zoR at hout'
  by_cases q1 : Lib.hasPrefix l [90] = true
  · have ho : Hid (out = (0, Lib.trimPrefix l [90], br)) := by unfold Hid; rw [← hout', if_pos q1]
    rw [q1] at hC90
    have hs := hset (Lib.trimPrefix l [90])
    obtain ⟨M, hM⟩ : ∃ M, S (Lib.trimPrefix l [90]) = M := ⟨_, rfl⟩
    rw [hM] at hC90 hs
    clear hout' q1 hset hZ hC43 hC45 hM hR
    go_enter Tryz.func280, Tryz.ntmps280
    go_wp2_with fail
    refine hC90.out.mono ?_
    rintro e w1 ⟨rfl, hww⟩
    obtain rfl := hww.symm
    clear hww
    go_wp2_with fail
    go_ret
    rw [ho.out]
    exact ⟨rfl, hs.out.1, hs.out.2⟩
  have q1' : Lib.hasPrefix l [90] = false := by simpa using q1
  rw [q1'] at hC90
  rw [if_neg q1] at hout'
  obtain ⟨P90, hP90⟩ : ∃ M, S (Lib.trimPrefix l [90]) = M := ⟨_, rfl⟩
  rw [hP90] at hC90
  clear q1 q1' hP90
  by_cases q1 : Lib.hasPrefix l [43] = true
  · have ho : Hid (out = zmR (Lib.trimPrefix l [43]) br) := by unfold Hid; rw [← hout', if_pos q1]
    rw [q1] at hC43
    have hs := hset (Lib.trimPrefix l [43])
    have hZ' := fun W h => hZ W (Lib.trimPrefix l [43]) h (trimP_len _ _)
    have hzb := zmR_bnd (Lib.trimPrefix l [43]) br
    obtain ⟨⟨z, zl, zb⟩, hz⟩ : ∃ x, zmR (Lib.trimPrefix l [43]) br = x := ⟨_, rfl⟩
    rw [hz] at ho hzb
    simp only [hz] at hZ'
    have ho : Hid (out = (z, zl, zb)) := ho
    obtain ⟨z0, z1⟩ := hzb
    have z0 : 0 ≤ z := z0
    have z1 : z ≤ 10000 := z1
    have hng : wrap64 (-z) = -z := by unfold wrap64; omega
    obtain ⟨M, hM⟩ : ∃ M, S (Lib.trimPrefix l [43]) = M := ⟨_, rfl⟩
    rw [hM] at hC43 hs
    obtain ⟨pm, hpm⟩ : ∃ pm, Lib.trimPrefix l [43] = pm := ⟨_, rfl⟩
    rw [hpm] at hs
    simp only [hpm] at hZ'
    clear hout' q1 hset hZ hM hR hz z0 z1 hpm
    go_enter Tryz.func280, Tryz.ntmps280
    go_wp2_with fail
    refine hC90.out.mono ?_
    rintro e w1 ⟨rfl, hww⟩
    obtain rfl := hww.symm
    clear hww
    go_wp2_with fail
    refine hC43.out.mono ?_
    rintro e w1 ⟨rfl, hww⟩
    obtain rfl := hww.symm
    clear hww
    go_upto_region 8 with fail
    obtain ⟨W2, hW2⟩ : ∃ X, w.setCell ⟨b, 0, none⟩ (.string M) = X := ⟨_, rfl⟩
    rw [hW2] at hs ⊢
    have hZ2 := hZ' W2 hs.out.1
    clear hW2 hZ' c0 c1 f0 f1
    go_wp2_with fail
    refine hZ2.out.mono ?_
    rintro e w3 ⟨rfl, hR3, hT3⟩
    have h3 : Hid (Tr w3 b zl zb ∧ Tb b w w3) := ⟨hR3, hs.out.2.trans hT3⟩
    clear hZ2 hR3 hT3
    go_wp2_with fail
    go_ret
    rw [ho.out]
    exact ⟨rfl, h3.out.1, h3.out.2⟩
  have q1' : Lib.hasPrefix l [43] = false := by simpa using q1
  rw [q1'] at hC43
  rw [if_neg q1] at hout'
  obtain ⟨P43, hP43⟩ : ∃ M, S (Lib.trimPrefix l [43]) = M := ⟨_, rfl⟩
  rw [hP43] at hC43
  clear q1 q1' hP43
  by_cases q1 : Lib.hasPrefix l [45] = true
  · have ho : Hid (out = (-(zmR (Lib.trimPrefix l [45]) br).1, (zmR (Lib.trimPrefix l [45]) br).2)) := by unfold Hid; rw [← hout', if_pos q1]
    rw [q1] at hC45
    have hs := hset (Lib.trimPrefix l [45])
    have hZ' := fun W h => hZ W (Lib.trimPrefix l [45]) h (trimP_len _ _)
    have hzb := zmR_bnd (Lib.trimPrefix l [45]) br
    obtain ⟨⟨z, zl, zb⟩, hz⟩ : ∃ x, zmR (Lib.trimPrefix l [45]) br = x := ⟨_, rfl⟩
    rw [hz] at ho hzb
    simp only [hz] at hZ'
    have ho : Hid (out = (-z, zl, zb)) := ho
    obtain ⟨z0, z1⟩ := hzb
    have z0 : 0 ≤ z := z0
    have z1 : z ≤ 10000 := z1
    have hng : wrap64 (-z) = -z := by unfold wrap64; omega
    obtain ⟨M, hM⟩ : ∃ M, S (Lib.trimPrefix l [45]) = M := ⟨_, rfl⟩
    rw [hM] at hC45 hs
    obtain ⟨pm, hpm⟩ : ∃ pm, Lib.trimPrefix l [45] = pm := ⟨_, rfl⟩
    rw [hpm] at hs
    simp only [hpm] at hZ'
    clear hout' q1 hset hZ hM hR hz z0 z1 hpm
    go_enter Tryz.func280, Tryz.ntmps280
    go_wp2_with fail
    refine hC90.out.mono ?_
    rintro e w1 ⟨rfl, hww⟩
    obtain rfl := hww.symm
    clear hww
    go_wp2_with fail
    refine hC43.out.mono ?_
    rintro e w1 ⟨rfl, hww⟩
    obtain rfl := hww.symm
    clear hww
    go_wp2_with fail
    refine hC45.out.mono ?_
    rintro e w1 ⟨rfl, hww⟩
    obtain rfl := hww.symm
    clear hww
    go_upto_region 12 with fail
    obtain ⟨W2, hW2⟩ : ∃ X, w.setCell ⟨b, 0, none⟩ (.string M) = X := ⟨_, rfl⟩
    rw [hW2] at hs ⊢
    have hZ2 := hZ' W2 hs.out.1
    clear hW2 hZ' c0 c1 f0 f1
    go_wp2_with fail
    refine hZ2.out.mono ?_
    rintro e w3 ⟨rfl, hR3, hT3⟩
    have h3 : Hid (Tr w3 b zl zb ∧ Tb b w w3) := ⟨hR3, hs.out.2.trans hT3⟩
    clear hZ2 hR3 hT3
    go_wp2_with fail
    go_ret
    rw [ho.out]
    exact ⟨rfl, h3.out.1, h3.out.2⟩
  have q1' : Lib.hasPrefix l [45] = false := by simpa using q1
  rw [q1'] at hC45
  rw [if_neg q1] at hout'
  obtain ⟨P45, hP45⟩ : ∃ M, S (Lib.trimPrefix l [45]) = M := ⟨_, rfl⟩
  rw [hP45] at hC45
  clear q1 q1' hP45
  have ho : Hid (out = (0, l, true)) := hout'.symm
  have hs : Hid (Tr (w.setCell ⟨b, 1, none⟩ (.bool true)) b l true ∧ Tb b w (w.setCell ⟨b, 1, none⟩ (.bool true))) := ⟨hR'.out.brk, (Tb.refl b w).set _ _⟩
  clear hout' hset hZ hR
  go_enter Tryz.func280, Tryz.ntmps280
  go_wp2_with fail
  refine hC90.out.mono ?_
  rintro e w1 ⟨rfl, hww⟩
  obtain rfl := hww.symm
  clear hww
  go_wp2_with fail
  refine hC43.out.mono ?_
  rintro e w1 ⟨rfl, hww⟩
  obtain rfl := hww.symm
  clear hww
  go_wp2_with fail
  refine hC45.out.mono ?_
  rintro e w1 ⟨rfl, hww⟩
  obtain rfl := hww.symm
  clear hww
  go_wp2_with fail
  go_ret
  rw [ho.out]
  exact ⟨rfl, hs.out.1, hs.out.2⟩
end Mt
end Go.Proofs.YtnjodplnbfmjeaaGreatDoor
