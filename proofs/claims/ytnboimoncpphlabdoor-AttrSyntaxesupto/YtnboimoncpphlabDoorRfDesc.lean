import Derived.Test.YtnboimoncpphlabDoorRfType
namespace Go.Proofs.YtnboimoncpphlabDoor
open Go.RowKit
open TextMath (fold lo)
set_option linter.unusedVariables false

def kfB (z : List UInt8) : Bool := keysB (fold z)
theorem dsc_sp (l : List UInt8) : dscB (fold l) = ((sp 59 l).tail.all kfB && typB (fold ((sp 59 l).headD []))) := by
  unfold dscB
  rw [fold_sp 59 (Or.inl rfl), ← List.map_tail, List.all_map]
  congr 2
  cases h : sp 59 l with
  | nil => exact absurd h (sp_ne 59 l)
  | cons a t => rfl
theorem headD_get : ∀ (Z : List (List UInt8)) (h : 0 < Z.length), Z.headD [] = Z[0]'h
  | [], h => absurd h (Nat.lt_irrefl 0)
  | a :: t, _ => rfl
set_option maxRecDepth 100000 in
set_option maxHeartbeats 2000000 in
theorem isDesc_any (s : ByteArray) (w : World) (hs : s.size ≤ 4194304) :
    Calls Tryd.prog 53 #[.string s] w fun e w' => e = .returned (.bool (dscB (fold s.data.toList))) ∧ Below w.heap.size w w' := by
  have hd : Hid (dscB (fold s.data.toList) = ((sp 59 s.data.toList).tail.all kfB && typB (fold ((sp 59 s.data.toList).headD [])))) := dsc_sp _
  have hP := parts_any s 59 w hs
  rw [show ((59 : UInt8).toNat : Int) = 59 from rfl] at hP
  have hlen : Hid ((sp 59 s.data.toList).length ≤ 4194305 ∧ (∀ z ∈ sp 59 s.data.toList, z.length ≤ 4194304) ∧ sp 59 s.data.toList ≠ []) := by
    refine ⟨?_, fun z hz => ?_, sp_ne _ _⟩
    · have := sp_count 59 s.data.toList; rw [size_l] at this; omega
    · have := sp_len 59 _ z hz; rw [size_l] at this; omega
  generalize sp 59 s.data.toList = Z at *
  have hz0 : Hid (0 < Z.length) := List.length_pos_iff.2 hlen.out.2.2
  go_enter Tryd.func53, Tryd.ntmps53
  go_wp2_with fail
  refine hP.mono ?_
  rintro e W1 ⟨⟨v, rfl, hO⟩, hb1⟩
  obtain ⟨va, vc, rfl, hrow⟩ := ownS_trow hO
  have hrow' : Hid (TRow W1 va Z) := hrow
  have o1 : Hid (Below w.heap.size w W1) := hb1
  have hl4 : Z.length ≤ 4194305 := hlen.out.1
  clear hO hrow hb1 hP
  go_wp2_with fail
  go_loopw [4] (fun iv wr => ∃ k : Nat, k + 1 ≤ Z.length ∧ iv = .int .i64 ((k : Int) + 1) ∧ Hid ((Z.tail.take k).all kfB = true) ∧ W1 = wr) (fun iv _ => Z.length + 1 - (intOf iv).toNat)
  case atStart => exact ⟨0, hz0.out, rfl, rfl, rfl⟩
  case round =>
    obtain ⟨k, hk, rfl, hall, rfl⟩ := hrel
    by_cases hlt : k + 1 < Z.length
    · obtain ⟨g, rfl, hc⟩ := hrow'.out (k + 1) hlt
      have hN := keysR_any (S Z[k + 1]) W1 (by rw [S_sizeR]; have := hlen.out.2.1 _ (List.getElem_mem hlt); omega)
      rw [S_l] at hN
      have htl : k < Z.tail.length := by rw [List.length_tail]; omega
      have hst : Hid ((Z.tail.take (k + 1)).all kfB = kfB Z[k + 1]) := by
        unfold Hid
        rw [List.take_succ_eq_append_getElem htl, List.all_append, hall.out, Bool.true_and, List.all_cons, List.all_nil, Bool.and_true, List.getElem_tail]
      have k0 : (0 : Int) ≤ (k : Int) + 1 := by omega
      have k1 : (k : Int) + 1 < (Z.length : Int) := by omega
      obtain ⟨x, hx⟩ : ∃ x, kfB Z[k + 1] = x := ⟨_, rfl⟩
      rw [show keysB (fold Z[k + 1]) = kfB Z[k + 1] from rfl, hx] at hN
      rw [hx] at hst
      have hlt' : Hid (k + 1 < Z.length) := hlt
      clear hx htl
      cases x with
      | true =>
        go_wp2_with fail
        refine hN.mono ?_
        rintro e w1 ⟨rfl, hw1⟩
        subst hw1
        clear hN
        go_wp2_with fail
        go_roundw
        case rel => exact ⟨k + 1, hlt'.out, by simp, hst, by trivial⟩
        case measure => have := hlt'.out; simp [intOf]; omega
      | false =>
        have hf : Hid (dscB (fold s.data.toList) = false) := by
          unfold Hid
          rw [hd.out, ← List.take_append_drop (k + 1) Z.tail, List.all_append, hst.out, Bool.false_and, Bool.false_and]
        go_wp2_with fail
        refine hN.mono ?_
        rintro e w1 ⟨rfl, hw1⟩
        subst hw1
        clear hN
        go_wp2_with fail
        go_ret
        exact ⟨by rw [hf.out]; rfl, o1.out⟩
    · have hke : k + 1 = Z.length := by omega
      have hall' : Hid (Z.tail.all kfB = true) := by
        have h := hall.out
        rw [List.take_of_length_le (by rw [List.length_tail]; omega)] at h
        exact h
      have k1 : ¬ (k : Int) + 1 < (Z.length : Int) := by omega
      obtain ⟨g, rfl, hc⟩ := hrow'.out 0 hz0.out
      have hf : Hid (dscB (fold s.data.toList) = typB (fold (S (Z[0]'hz0.out)).data.toList)) := by
        unfold Hid
        rw [hd.out, hall'.out, Bool.true_and, S_l]
        rw [headD_get Z hz0.out]
      have hT := isType_any (S (Z[0]'hz0.out)) W1 (by rw [S_sizeR]; exact hlen.out.2.1 _ (List.getElem_mem hz0.out))
      have z0 : (0 : Int) < (Z.length : Int) := by have := hz0.out; omega
      generalize S (Z[0]'hz0.out) = X at *
      clear hall hall' hk hke
      go_wp2_with fail
      refine hT.mono ?_
      rintro e w1 ⟨rfl, hb⟩
      have o2 : Hid (Below w.heap.size w w1) := o1.out.trans (hb.mono o1.out.size)
      clear hT hb
      go_wp2_with fail
      go_ret
      exact ⟨by rw [hf.out]; rfl, o2.out⟩
end Go.Proofs.YtnboimoncpphlabDoor
