import Derived.Test.YtnboimoncpphlabDoorRfPart
namespace Go.Proofs.YtnboimoncpphlabDoor
open Go.RowKit
open TextMath (fold lo)
set_option linter.unusedVariables false

theorem lo_dig (b : UInt8) (h : isD b = true) : lo b = b := by
  have : ∀ n : Fin 256, isD (UInt8.ofNat n.val) = true → lo (UInt8.ofNat n.val) = UInt8.ofNat n.val := by decide +kernel
  have h' := this ⟨b.toNat, b.toNat_lt⟩
  rw [UInt8.ofNat_toNat] at h'
  exact h' h
theorem num_fold (l : List UInt8) : numB (fold l) = numB l := by
  have ha : (fold l).all isD = l.all isD := by
    unfold fold
    rw [List.all_map]
    congr 1
    funext b
    exact lo_isD b
  cases hd : l.all isD with
  | true =>
    have : fold l = l := by
      unfold fold
      have h := List.all_eq_true.1 hd
      exact (List.map_congr_left (fun b hb => lo_dig b (h b hb))).trans (List.map_id l)
    rw [this]
  | false =>
    unfold numB
    rw [ha, hd]
    rfl
theorem isD_int (b : UInt8) : isD b = (!decide ((b.toNat : Int) < 48) && !decide (57 < (b.toNat : Int))) := by
  unfold isD
  by_cases h1 : (b.toNat : Int) < 48 <;> by_cases h2 : 57 < (b.toNat : Int) <;> simp [h1, h2] <;> omega
set_option maxHeartbeats 1000000 in
theorem numberR_any (s : ByteArray) (w : World) (hs : s.size ≤ 4194310) : Calls Tryd.prog 84 #[.string s] w fun e w' => e = .returned (.bool (numB s.data.toList)) ∧ w' = w := by
  go_enter Tryd.func84, Tryd.ntmps84
  go_wp2_with fail
  go_loopw [3] (fun iv wr => ∃ k : Nat, k ≤ s.size ∧ iv = .int .i64 (k : Int) ∧ Hid ((s.data.toList.take k).all isD = true) ∧ w = wr) (fun iv _ => s.size - (intOf iv).toNat)
  case atStart => exact ⟨0, Nat.zero_le _, rfl, rfl, rfl⟩
  case round =>
    obtain ⟨k, hk, rfl, hall, rfl⟩ := hrel
    by_cases hlt : k < s.size
    · have hl : k < s.data.toList.length := by rw [size_l]; exact hlt
      have hst : Hid ((s.data.toList.take (k + 1)).all isD = isD s[k]) := by
        unfold Hid
        rw [List.take_succ_eq_append_getElem hl, getB s k hlt, List.all_append, hall.out, Bool.true_and, List.all_cons, List.all_nil, Bool.and_true]
      have hfl : isD s[k] = false → Hid (numB s.data.toList = false) := fun q => by
        unfold Hid numB
        have h1 : s.data.toList.all isD = false := by
          rw [← List.take_append_drop (k + 1) s.data.toList, List.all_append, hst.out, q, Bool.false_and]
        rw [h1]; rfl
      have k0 : (0 : Int) ≤ (k : Int) := Int.natCast_nonneg _
      have k1 : (k : Int) < (s.size : Int) := Int.ofNat_lt.2 hlt
      have hd := isD_int s[k]
      by_cases h1 : (s[k].toNat : Int) < 48
      · have hf := hfl (by rw [hd, decide_eq_true h1]; rfl)
        clear hfl hst hd
        go_wp2_with fail
        go_ret
        exact ⟨by rw [hf.out]; rfl, rfl⟩
      · by_cases h2 : (s[k].toNat : Int) > 57
        · have hf := hfl (by rw [hd, decide_eq_true (show 57 < (s[k].toNat : Int) from h2), Bool.not_true, Bool.and_false])
          clear hfl hst hd
          go_wp2_with fail
          go_ret
          exact ⟨by rw [hf.out]; rfl, rfl⟩
        · have hst' : Hid ((s.data.toList.take (k + 1)).all isD = true) := by
            unfold Hid
            rw [hst.out, hd, decide_eq_false h1, decide_eq_false (show ¬ 57 < (s[k].toNat : Int) from h2)]
            rfl
          have hlt' : Hid (k < s.size) := hlt
          clear hfl hst hd
          go_wp2_with fail
          go_roundw
          case rel => exact ⟨k + 1, hlt'.out, by simp, hst', by trivial⟩
          case measure => have := hlt'.out; simp [intOf]; omega
    · have hke : k = s.size := by omega
      subst hke
      have hall' : Hid (s.data.toList.all isD = true) := by
        have h := hall.out
        rw [List.take_of_length_le (by rw [size_l]; omega)] at h
        exact h
      have k1 : ¬ (s.size : Int) < (s.size : Int) := by omega
      by_cases h0 : s.data.toList = []
      · have e0 : s.toList.isEmpty = true := by rw [Lib.toList_data, h0]; rfl
        have e1 : (s.toList == [48]) = false := by rw [Lib.toList_data, h0]; rfl
        have hf : Hid (numB s.data.toList = false) := by unfold Hid; rw [h0]; rfl
        clear h0
        go_wp2_with fail
        go_ret
        exact ⟨by rw [hf.out]; rfl, rfl⟩
      · have hz : 0 < s.size := by
          rw [← size_l]
          exact List.length_pos_iff.2 h0
        have e0 : s.toList.isEmpty = false := by rw [Lib.toList_data]; simpa using h0
        by_cases h48 : s.data.toList = [48]
        · have e1 : (s.toList == [48]) = true := by rw [Lib.toList_data, h48]; rfl
          have hf : Hid (numB s.data.toList = true) := by unfold Hid; rw [h48]; rfl
          clear h0 h48
          go_wp2_with fail
          go_ret
          exact ⟨by rw [hf.out]; rfl, rfl⟩
        · have e1 : (s.toList == [48]) = false := by rw [Lib.toList_data]; simpa using h48
          have hf : Hid (numB s.data.toList = ((s[0].toNat : Int) != 48)) := by
            unfold Hid numB
            rw [hall'.out, Bool.true_and, show (s.data.toList == [48]) = false by simpa using h48, Bool.false_or]
            have hg : s.data.toList.getD 0 0 = s[0] := by rw [getB s 0 hz, List.getD, List.getElem?_eq_getElem (by rw [size_l]; exact hz)]; rfl
            rw [hg, show s.data.toList.isEmpty = false by simpa using h0, Bool.not_false, Bool.true_and]
            by_cases q : s[0].toNat = 48
            · rw [q]; rfl
            · have q1 : (s[0].toNat != 48) = true := by simpa using q
              have q2 : ((s[0].toNat : Int) != 48) = true := by rw [bne_iff_ne]; omega
              rw [q1, q2]
          have z1 : (0 : Int) < (s.size : Int) := by omega
          clear h0 h48
          go_wp2_with fail
          go_ret
          exact ⟨by rw [hf.out]; rfl, rfl⟩
theorem sp_len (c : UInt8) : ∀ (l z : List UInt8), z ∈ sp c l → z.length ≤ l.length
  | [], z, h => by
    simp [sp] at h
    subst h
    simp
  | b :: l, z, h => by
    by_cases hb : b = c
    · subst hb
      rw [sp_at] at h
      rcases List.mem_cons.1 h with rfl | h
      · simp
      · have := sp_len b l z h
        simp
        omega
    · rw [sp_on c b l hb] at h
      rcases List.mem_cons.1 h with rfl | h
      · have := sp_len c l _ (sp_head c l)
        rw [List.length_cons, List.length_cons]
        omega
      · have := sp_len c l z (by rw [sp_cons]; exact List.mem_cons_of_mem _ h)
        rw [List.length_cons]
        omega
theorem sp_count (c : UInt8) : ∀ l : List UInt8, (sp c l).length ≤ l.length + 1
  | [] => by simp [sp]
  | b :: l => by
    have ih := sp_count c l
    by_cases hb : b = c
    · subst hb
      rw [sp_at, List.length_cons, List.length_cons]
      omega
    · rw [sp_on c b l hb, List.length_cons, List.length_cons]
      have := congrArg List.length (sp_cons c l)
      rw [List.length_cons] at this
      omega
theorem S_sizeR (x : List UInt8) : (S x).size = x.length := by rw [← size_l, S_l]
set_option maxRecDepth 100000 in
set_option maxHeartbeats 2000000 in
theorem isType_any (s : ByteArray) (w : World) (hs : s.size ≤ 4194304) :
    Calls Tryd.prog 69 #[.string s] w fun e w' => e = .returned (.bool (typB (fold s.data.toList))) ∧ Below w.heap.size w w' := by
  by_cases h0 : s.data.toList = []
  · have e0 : s.toList.isEmpty = true := by rw [Lib.toList_data, h0]; rfl
    have hf : Hid (typB (fold s.data.toList) = false) := by unfold Hid; rw [h0]; rfl
    clear h0
    go_enter Tryd.func69, Tryd.ntmps69
    go_wp2_with fail
    go_ret
    exact ⟨by rw [hf.out]; rfl, Below.refl _ _⟩
  · have hz : 0 < s.size := by rw [← size_l]; exact List.length_pos_iff.2 h0
    have e0 : s.toList.isEmpty = false := by rw [Lib.toList_data]; simpa using h0
    have z1 : (0 : Int) < (s.size : Int) := by omega
    have hfn : fold s.data.toList ≠ [] := fun q => h0 (List.map_eq_nil_iff.1 q)
    have hg : (fold s.data.toList).getD 0 0 = lo s[0] := by
      rw [getB s 0 hz]
      have hp : 0 < s.data.toList.length := by rw [size_l]; exact hz
      unfold fold
      rw [List.getD, List.getElem?_map, List.getElem?_eq_getElem hp]
      rfl
    have hL := lo_isL s[0]
    have hty : Hid (typB (fold s.data.toList) = if isL (lo s[0]) = true then keysB (fold s.data.toList) else (sp 46 (fold s.data.toList)).all numB && decide (1 < (sp 46 (fold s.data.toList)).length)) := by
      unfold Hid typB
      rw [if_neg hfn, hg]
    have hK : Hid (∀ W, Calls Tryd.prog 68 #[.string s] W fun e w' => e = .returned (.bool (keysB (fold s.data.toList))) ∧ w' = W) := fun W => keysR_any s W (by omega)
    clear h0 hfn hg
    by_cases hlet : isL (lo s[0]) = true
    · have hty' : Hid (typB (fold s.data.toList) = keysB (fold s.data.toList)) := by unfold Hid; rw [hty.out, if_pos hlet]
      rw [hlet] at hL
      have hcase : ((97 : Int) ≤ s[0].toNat ∧ (s[0].toNat : Int) ≤ 122) ∨ (¬ (97 : Int) ≤ s[0].toNat ∧ (65 : Int) ≤ s[0].toNat ∧ (s[0].toNat : Int) ≤ 90) := by
        have h := hL.symm
        rw [Bool.or_eq_true, decide_eq_true_iff, decide_eq_true_iff] at h
        omega
      clear hty hL hlet
      rcases hcase with ⟨c1, c2⟩ | ⟨c1, c2, c3⟩
      · go_enter Tryd.func69, Tryd.ntmps69
        go_wp2_with fail
        refine (hK.out w).mono ?_
        rintro e w1 ⟨rfl, hw1⟩
        subst hw1
        go_wp2_with fail
        go_ret
        exact ⟨by rw [hty'.out]; rfl, Below.refl _ _⟩
      · go_enter Tryd.func69, Tryd.ntmps69
        go_wp2_with fail
        refine (hK.out w).mono ?_
        rintro e w1 ⟨rfl, hw1⟩
        subst hw1
        go_wp2_with fail
        go_ret
        exact ⟨by rw [hty'.out]; rfl, Below.refl _ _⟩
    · have hty' : Hid (typB (fold s.data.toList) = ((sp 46 s.data.toList).all numB && decide (1 < (sp 46 s.data.toList).length))) := by
        unfold Hid
        rw [hty.out, if_neg hlet, fold_sp 46 (Or.inr rfl), List.length_map, List.all_map]
        congr 2
        funext z
        exact num_fold z
      have hP := parts_any s 46 w hs
      rw [show ((46 : UInt8).toNat : Int) = 46 from rfl] at hP
      have hlen : Hid ((sp 46 s.data.toList).length ≤ 4194305 ∧ ∀ z ∈ sp 46 s.data.toList, z.length ≤ 4194304) := by
        refine ⟨?_, fun z hz => ?_⟩
        · have := sp_count 46 s.data.toList; rw [size_l] at this; omega
        · have := sp_len 46 _ z hz; rw [size_l] at this; omega
      have hcase : ((97 : Int) ≤ s[0].toNat ∧ ¬ (s[0].toNat : Int) ≤ 122 ∧ (65 : Int) ≤ s[0].toNat ∧ ¬ (s[0].toNat : Int) ≤ 90) ∨ (¬ (97 : Int) ≤ s[0].toNat ∧ (65 : Int) ≤ s[0].toNat ∧ ¬ (s[0].toNat : Int) ≤ 90) ∨ (¬ (97 : Int) ≤ s[0].toNat ∧ ¬ (65 : Int) ≤ s[0].toNat) := by
        rw [hL] at hlet
        rw [Bool.or_eq_true, decide_eq_true_iff, decide_eq_true_iff] at hlet
        omega
      clear hty hL hlet hK
      generalize sp 46 s.data.toList = Z at *
      rcases hcase with ⟨c1, c2, c3, c4⟩ | ⟨c1, c2, c3⟩ | ⟨c1, c2⟩
      · go_enter Tryd.func69, Tryd.ntmps69
        go_wp2_with fail
        refine hP.mono ?_
        rintro e W1 ⟨⟨v, rfl, hO⟩, hb1⟩
        obtain ⟨va, vc, rfl, hrow⟩ := ownS_trow hO
        have hrow' : Hid (TRow W1 va Z) := hrow
        have o1 : Hid (Below w.heap.size w W1) := hb1
        have hl4 : Z.length ≤ 4194305 := hlen.out.1
        clear hO hrow hb1 hP
        go_wp2_with fail
        go_loopw [4] (fun iv wr => ∃ k : Nat, k ≤ Z.length ∧ iv = .int .i64 (k : Int) ∧ Hid ((Z.take k).all numB = true) ∧ W1 = wr) (fun iv _ => Z.length - (intOf iv).toNat)
        case atStart => exact ⟨0, Nat.zero_le _, rfl, rfl, rfl⟩
        case round =>
          obtain ⟨k, hk, rfl, hall, rfl⟩ := hrel
          by_cases hlt : k < Z.length
          · obtain ⟨g, rfl, hc⟩ := hrow'.out k hlt
            have hN := numberR_any (S Z[k]) W1 (by rw [S_sizeR]; have := hlen.out.2 _ (List.getElem_mem hlt); omega)
            rw [S_l] at hN
            have k0 : (0 : Int) ≤ (k : Int) := Int.natCast_nonneg _
            have k1 : (k : Int) < (Z.length : Int) := Int.ofNat_lt.2 hlt
            have hst : Hid ((Z.take (k + 1)).all numB = numB Z[k]) := by
              unfold Hid
              rw [List.take_succ_eq_append_getElem hlt, List.all_append, hall.out, Bool.true_and, List.all_cons, List.all_nil, Bool.and_true]
            obtain ⟨x, hx⟩ : ∃ x, numB Z[k] = x := ⟨_, rfl⟩
            rw [hx] at hN hst
            have hlt' : Hid (k < Z.length) := hlt
            clear hx
            cases x with
            | true =>
              go_wp2_with fail
              refine hN.mono ?_
              rintro e w1 ⟨rfl, hw1⟩
              subst hw1
              clear hN
              go_wp2_with fail
              go_roundw
              case rel => exact ⟨k + 1, hlt'.out, by simp, hst, by trivial⟩
              case measure => have := hlt'.out; simp [intOf]; omega
            | false =>
              have hf : Hid (typB (fold s.data.toList) = false) := by
                unfold Hid
                rw [hty'.out, ← List.take_append_drop (k + 1) Z, List.all_append, hst.out, Bool.false_and, Bool.false_and]
              go_wp2_with fail
              refine hN.mono ?_
              rintro e w1 ⟨rfl, hw1⟩
              subst hw1
              clear hN
              go_wp2_with fail
              go_ret
              exact ⟨by rw [hf.out]; rfl, o1.out⟩
          · have hke : k = Z.length := by omega
            subst hke
            have hall' : Hid (Z.all numB = true) := by have h := hall.out; rw [List.take_length] at h; exact h
            have k1 : ¬ (Z.length : Int) < (Z.length : Int) := by omega
            by_cases h1 : 1 < Z.length
            · have h2 : (1 : Int) < (Z.length : Int) := by omega
              have hf : Hid (typB (fold s.data.toList) = true) := by unfold Hid; rw [hty'.out, hall'.out, decide_eq_true h1]; rfl
              go_wp2_with fail
              go_ret
              exact ⟨by rw [hf.out]; rfl, o1.out⟩
            · have h2 : ¬ (1 : Int) < (Z.length : Int) := by omega
              have hf : Hid (typB (fold s.data.toList) = false) := by unfold Hid; rw [hty'.out, decide_eq_false h1, Bool.and_false]
              go_wp2_with fail
              go_ret
              exact ⟨by rw [hf.out]; rfl, o1.out⟩
      · go_enter Tryd.func69, Tryd.ntmps69
        go_wp2_with fail
        refine hP.mono ?_
        rintro e W1 ⟨⟨v, rfl, hO⟩, hb1⟩
        obtain ⟨va, vc, rfl, hrow⟩ := ownS_trow hO
        have hrow' : Hid (TRow W1 va Z) := hrow
        have o1 : Hid (Below w.heap.size w W1) := hb1
        have hl4 : Z.length ≤ 4194305 := hlen.out.1
        clear hO hrow hb1 hP
        go_wp2_with fail
        go_loopw [4] (fun iv wr => ∃ k : Nat, k ≤ Z.length ∧ iv = .int .i64 (k : Int) ∧ Hid ((Z.take k).all numB = true) ∧ W1 = wr) (fun iv _ => Z.length - (intOf iv).toNat)
        case atStart => exact ⟨0, Nat.zero_le _, rfl, rfl, rfl⟩
        case round =>
          obtain ⟨k, hk, rfl, hall, rfl⟩ := hrel
          by_cases hlt : k < Z.length
          · obtain ⟨g, rfl, hc⟩ := hrow'.out k hlt
            have hN := numberR_any (S Z[k]) W1 (by rw [S_sizeR]; have := hlen.out.2 _ (List.getElem_mem hlt); omega)
            rw [S_l] at hN
            have k0 : (0 : Int) ≤ (k : Int) := Int.natCast_nonneg _
            have k1 : (k : Int) < (Z.length : Int) := Int.ofNat_lt.2 hlt
            have hst : Hid ((Z.take (k + 1)).all numB = numB Z[k]) := by
              unfold Hid
              rw [List.take_succ_eq_append_getElem hlt, List.all_append, hall.out, Bool.true_and, List.all_cons, List.all_nil, Bool.and_true]
            obtain ⟨x, hx⟩ : ∃ x, numB Z[k] = x := ⟨_, rfl⟩
            rw [hx] at hN hst
            have hlt' : Hid (k < Z.length) := hlt
            clear hx
            cases x with
            | true =>
              go_wp2_with fail
              refine hN.mono ?_
              rintro e w1 ⟨rfl, hw1⟩
              subst hw1
              clear hN
              go_wp2_with fail
              go_roundw
              case rel => exact ⟨k + 1, hlt'.out, by simp, hst, by trivial⟩
              case measure => have := hlt'.out; simp [intOf]; omega
            | false =>
              have hf : Hid (typB (fold s.data.toList) = false) := by
                unfold Hid
                rw [hty'.out, ← List.take_append_drop (k + 1) Z, List.all_append, hst.out, Bool.false_and, Bool.false_and]
              go_wp2_with fail
              refine hN.mono ?_
              rintro e w1 ⟨rfl, hw1⟩
              subst hw1
              clear hN
              go_wp2_with fail
              go_ret
              exact ⟨by rw [hf.out]; rfl, o1.out⟩
          · have hke : k = Z.length := by omega
            subst hke
            have hall' : Hid (Z.all numB = true) := by have h := hall.out; rw [List.take_length] at h; exact h
            have k1 : ¬ (Z.length : Int) < (Z.length : Int) := by omega
            by_cases h1 : 1 < Z.length
            · have h2 : (1 : Int) < (Z.length : Int) := by omega
              have hf : Hid (typB (fold s.data.toList) = true) := by unfold Hid; rw [hty'.out, hall'.out, decide_eq_true h1]; rfl
              go_wp2_with fail
              go_ret
              exact ⟨by rw [hf.out]; rfl, o1.out⟩
            · have h2 : ¬ (1 : Int) < (Z.length : Int) := by omega
              have hf : Hid (typB (fold s.data.toList) = false) := by unfold Hid; rw [hty'.out, decide_eq_false h1, Bool.and_false]
              go_wp2_with fail
              go_ret
              exact ⟨by rw [hf.out]; rfl, o1.out⟩
      · go_enter Tryd.func69, Tryd.ntmps69
        go_wp2_with fail
        refine hP.mono ?_
        rintro e W1 ⟨⟨v, rfl, hO⟩, hb1⟩
        obtain ⟨va, vc, rfl, hrow⟩ := ownS_trow hO
        have hrow' : Hid (TRow W1 va Z) := hrow
        have o1 : Hid (Below w.heap.size w W1) := hb1
        have hl4 : Z.length ≤ 4194305 := hlen.out.1
        clear hO hrow hb1 hP
        go_wp2_with fail
        go_loopw [4] (fun iv wr => ∃ k : Nat, k ≤ Z.length ∧ iv = .int .i64 (k : Int) ∧ Hid ((Z.take k).all numB = true) ∧ W1 = wr) (fun iv _ => Z.length - (intOf iv).toNat)
        case atStart => exact ⟨0, Nat.zero_le _, rfl, rfl, rfl⟩
        case round =>
          obtain ⟨k, hk, rfl, hall, rfl⟩ := hrel
          by_cases hlt : k < Z.length
          · obtain ⟨g, rfl, hc⟩ := hrow'.out k hlt
            have hN := numberR_any (S Z[k]) W1 (by rw [S_sizeR]; have := hlen.out.2 _ (List.getElem_mem hlt); omega)
            rw [S_l] at hN
            have k0 : (0 : Int) ≤ (k : Int) := Int.natCast_nonneg _
            have k1 : (k : Int) < (Z.length : Int) := Int.ofNat_lt.2 hlt
            have hst : Hid ((Z.take (k + 1)).all numB = numB Z[k]) := by
              unfold Hid
              rw [List.take_succ_eq_append_getElem hlt, List.all_append, hall.out, Bool.true_and, List.all_cons, List.all_nil, Bool.and_true]
            obtain ⟨x, hx⟩ : ∃ x, numB Z[k] = x := ⟨_, rfl⟩
            rw [hx] at hN hst
            have hlt' : Hid (k < Z.length) := hlt
            clear hx
            cases x with
            | true =>
              go_wp2_with fail
              refine hN.mono ?_
              rintro e w1 ⟨rfl, hw1⟩
              subst hw1
              clear hN
              go_wp2_with fail
              go_roundw
              case rel => exact ⟨k + 1, hlt'.out, by simp, hst, by trivial⟩
              case measure => have := hlt'.out; simp [intOf]; omega
            | false =>
              have hf : Hid (typB (fold s.data.toList) = false) := by
                unfold Hid
                rw [hty'.out, ← List.take_append_drop (k + 1) Z, List.all_append, hst.out, Bool.false_and, Bool.false_and]
              go_wp2_with fail
              refine hN.mono ?_
              rintro e w1 ⟨rfl, hw1⟩
              subst hw1
              clear hN
              go_wp2_with fail
              go_ret
              exact ⟨by rw [hf.out]; rfl, o1.out⟩
          · have hke : k = Z.length := by omega
            subst hke
            have hall' : Hid (Z.all numB = true) := by have h := hall.out; rw [List.take_length] at h; exact h
            have k1 : ¬ (Z.length : Int) < (Z.length : Int) := by omega
            by_cases h1 : 1 < Z.length
            · have h2 : (1 : Int) < (Z.length : Int) := by omega
              have hf : Hid (typB (fold s.data.toList) = true) := by unfold Hid; rw [hty'.out, hall'.out, decide_eq_true h1]; rfl
              go_wp2_with fail
              go_ret
              exact ⟨by rw [hf.out]; rfl, o1.out⟩
            · have h2 : ¬ (1 : Int) < (Z.length : Int) := by omega
              have hf : Hid (typB (fold s.data.toList) = false) := by unfold Hid; rw [hty'.out, decide_eq_false h1, Bool.and_false]
              go_wp2_with fail
              go_ret
              exact ⟨by rw [hf.out]; rfl, o1.out⟩
end Go.Proofs.YtnboimoncpphlabDoor
