import Derived.Test.YteiikipldejeeaaDoorAtMoreM
namespace Go.Proofs.YteiikipldejeeaaDoor
open Go.RowKit
open TextMath (fold lo)
set_option linter.unusedVariables false

/-- What an option keeps of a text. -/
def isO (b : UInt8) : Bool := decide ((97 ≤ b.toNat ∧ b.toNat ≤ 122) ∨ (65 ≤ b.toNat ∧ b.toNat ≤ 90) ∨ (48 ≤ b.toNat ∧ b.toNat ≤ 57) ∨ b.toNat = 45)
def opt (l : List UInt8) : List UInt8 := if l.filter isO = [] then [120] else l.filter isO
theorem opt_ok (l : List UInt8) : fold (opt l) ≠ [] ∧ ∀ b ∈ fold (opt l), isK b = true := by
  have key0 : (List.range 256).all (fun n => !isO (UInt8.ofNat n) || isK (lo (UInt8.ofNat n))) = true := by decide +kernel
  have key : ∀ b : UInt8, isO b = true → isK (lo b) = true := by
    intro b hb
    have h := List.all_eq_true.1 key0 b.toNat (List.mem_range.2 (UInt8.toNat_lt b))
    rw [UInt8.ofNat_toNat, hb] at h
    simpa using h
  have hall : ∀ b ∈ opt l, isO b = true := by
    unfold opt
    intro b hb
    split at hb
    · simp at hb; subst hb; decide
    · exact (List.mem_filter.1 hb).2
  constructor
  · unfold fold opt
    split
    · simp
    · intro h
      exact ‹¬ _› (List.map_eq_nil_iff.1 h)
  · intro b hb
    unfold fold at hb
    obtain ⟨a, ha, rfl⟩ := List.mem_map.1 hb
    exact key a (hall a ha)
theorem opt_len (l : List UInt8) : (opt l).length ≤ l.length + 1 := by
  unfold opt
  split
  · simp
  · have := List.length_filter_le isO l; omega
theorem keep_on (s : ByteArray) (k : Nat) (hk : k < s.size) : (s.data.toList.take (k + 1)).filter isO = (s.data.toList.take k).filter isO ++ (if isO s[k] = true then [s[k]] else []) := by
  have hk' : k < s.data.toList.length := by rw [size_l]; exact hk
  rw [List.take_succ_eq_append_getElem hk', List.filter_append]
  congr 1
  have e : s.data.toList[k] = s[k] := by rw [Array.getElem_toList]; rfl
  rw [e]
  simp [List.filter_cons]
set_option maxRecDepth 100000 in
set_option maxHeartbeats 2000000 in
theorem option_any (s : ByteArray) (w : World) (hs : s.size ≤ 4194304) :
    Calls Tryd.prog 4 #[.string s] w fun e w' => e = .returned (.string (S (opt s.data.toList))) ∧ Below w.heap.size w w' := by
  go_enter Tryd.func4, Tryd.ntmps4
  go_wp2_with fail
  go_loopw [3, 4] (fun bv iv wr => ∃ (k : Nat) (l : List UInt8), k ≤ s.size ∧ iv = .int .i64 (k : Int) ∧ Hid (l = (s.data.toList.take k).filter isO) ∧ Hid (Own wr w.heap.size bv l) ∧ Hid (Below w.heap.size w wr)) (fun _ iv _ => s.size - (intOf iv).toNat)
  case atStart => exact ⟨0, [], Nat.zero_le _, rfl, by simp [Hid], ⟨rfl, Or.inl ⟨rfl, rfl⟩⟩, Below.refl _ _⟩
  case round =>
    obtain ⟨k, l, hk, rfl, hl, hO, hB⟩ := hrel
    by_cases hlt : k < s.size
    · have k0 : (0 : Int) ≤ (k : Int) := Int.natCast_nonneg _
      have k1 : (k : Int) < (s.size : Int) := Int.ofNat_lt.2 hlt
      have hll : Hid (l.length ≤ 1099511627776) := by
        rw [hl.out]
        have := List.length_filter_le isO (s.data.toList.take k)
        rw [List.length_take] at this
        show _ ≤ _
        omega
      have hon := keep_on s k hlt
      have hsz : Hid (w.heap.size ≤ wr.heap.size) := hB.out.size
      have hc := show ((97 : Int) ≤ (s[k].toNat : Int) ∧ (s[k].toNat : Int) ≤ 122) ∨ ((65 : Int) ≤ (s[k].toNat : Int) ∧ (s[k].toNat : Int) ≤ 90) ∨ ((48 : Int) ≤ (s[k].toNat : Int) ∧ (s[k].toNat : Int) ≤ 57) ∨ (s[k].toNat : Int) = 45 ∨ (122 : Int) < (s[k].toNat : Int) ∨ ((91 : Int) ≤ (s[k].toNat : Int) ∧ (s[k].toNat : Int) ≤ 96) ∨ ((58 : Int) ≤ (s[k].toNat : Int) ∧ (s[k].toNat : Int) ≤ 64) ∨ ((s[k].toNat : Int) < 48 ∧ ¬ (s[k].toNat : Int) = 45) by omega
      rcases hc with hc | hc | hc | hc | hc | hc | hc | hc
      · have ho : isO s[k] = true := by unfold isO; exact decide_eq_true (by omega)
        have b1 : (97 : Int) ≤ (s[k].toNat : Int) := by omega
        have b2 : (s[k].toNat : Int) ≤ 122 := by omega
        rw [if_pos ho] at hon
        have hon' : Hid ((s.data.toList.take (k + 1)).filter isO = (s.data.toList.take k).filter isO ++ [s[k]]) := hon
        clear hc ho hon
        go_wp2_with (at_builtin; refine push_byte_at _ rfl _ _ rfl w.heap.size _ l (s[k]'hlt) _ rfl rfl ?_ ?_ ?_ ?_ ?_; (first | rfl | simp); (exact hO.out); (exact hsz.out); (exact hll.out); intro v' w' hO' hb')
        go_roundw
        case rel => exact ⟨k + 1, l ++ [s[k]], hlt, by simp, by rw [hl.out]; exact hon'.out.symm, hO', hB.out.trans hb'⟩
        case measure => simp [intOf]; omega
      · have ho : isO s[k] = true := by unfold isO; exact decide_eq_true (by omega)
        have b1 : ¬ (97 : Int) ≤ (s[k].toNat : Int) := by omega
        have b3 : (65 : Int) ≤ (s[k].toNat : Int) := by omega
        have b4 : (s[k].toNat : Int) ≤ 90 := by omega
        rw [if_pos ho] at hon
        have hon' : Hid ((s.data.toList.take (k + 1)).filter isO = (s.data.toList.take k).filter isO ++ [s[k]]) := hon
        clear hc ho hon
        go_wp2_with (at_builtin; refine push_byte_at _ rfl _ _ rfl w.heap.size _ l (s[k]'hlt) _ rfl rfl ?_ ?_ ?_ ?_ ?_; (first | rfl | simp); (exact hO.out); (exact hsz.out); (exact hll.out); intro v' w' hO' hb')
        go_roundw
        case rel => exact ⟨k + 1, l ++ [s[k]], hlt, by simp, by rw [hl.out]; exact hon'.out.symm, hO', hB.out.trans hb'⟩
        case measure => simp [intOf]; omega
      · have ho : isO s[k] = true := by unfold isO; exact decide_eq_true (by omega)
        have b1 : ¬ (97 : Int) ≤ (s[k].toNat : Int) := by omega
        have b3 : ¬ (65 : Int) ≤ (s[k].toNat : Int) := by omega
        have b5 : (48 : Int) ≤ (s[k].toNat : Int) := by omega
        have b6 : (s[k].toNat : Int) ≤ 57 := by omega
        rw [if_pos ho] at hon
        have hon' : Hid ((s.data.toList.take (k + 1)).filter isO = (s.data.toList.take k).filter isO ++ [s[k]]) := hon
        clear hc ho hon
        go_wp2_with (at_builtin; refine push_byte_at _ rfl _ _ rfl w.heap.size _ l (s[k]'hlt) _ rfl rfl ?_ ?_ ?_ ?_ ?_; (first | rfl | simp); (exact hO.out); (exact hsz.out); (exact hll.out); intro v' w' hO' hb')
        go_roundw
        case rel => exact ⟨k + 1, l ++ [s[k]], hlt, by simp, by rw [hl.out]; exact hon'.out.symm, hO', hB.out.trans hb'⟩
        case measure => simp [intOf]; omega
      · have ho : isO s[k] = true := by unfold isO; exact decide_eq_true (by omega)
        have b1 : ¬ (97 : Int) ≤ (s[k].toNat : Int) := by omega
        have b3 : ¬ (65 : Int) ≤ (s[k].toNat : Int) := by omega
        have b5 : ¬ (48 : Int) ≤ (s[k].toNat : Int) := by omega
        have b7 : ((s[k].toNat : Int) == 45) = true := by rw [beq_iff_eq]; omega
        rw [if_pos ho] at hon
        have hon' : Hid ((s.data.toList.take (k + 1)).filter isO = (s.data.toList.take k).filter isO ++ [s[k]]) := hon
        clear hc ho hon
        go_wp2_with (at_builtin; refine push_byte_at _ rfl _ _ rfl w.heap.size _ l (s[k]'hlt) _ rfl rfl ?_ ?_ ?_ ?_ ?_; (first | rfl | simp); (exact hO.out); (exact hsz.out); (exact hll.out); intro v' w' hO' hb')
        go_roundw
        case rel => exact ⟨k + 1, l ++ [s[k]], hlt, by simp, by rw [hl.out]; exact hon'.out.symm, hO', hB.out.trans hb'⟩
        case measure => simp [intOf]; omega
      · have ho : isO s[k] = false := by unfold isO; exact decide_eq_false (by omega)
        have b1 : (97 : Int) ≤ (s[k].toNat : Int) := by omega
        have b2 : ¬ (s[k].toNat : Int) ≤ 122 := by omega
        have b3 : (65 : Int) ≤ (s[k].toNat : Int) := by omega
        have b4 : ¬ (s[k].toNat : Int) ≤ 90 := by omega
        have b5 : (48 : Int) ≤ (s[k].toNat : Int) := by omega
        have b6 : ¬ (s[k].toNat : Int) ≤ 57 := by omega
        have b7 : ((s[k].toNat : Int) == 45) = false := by rw [beq_eq_false_iff_ne]; omega
        rw [if_neg (by rw [ho]; decide), List.append_nil] at hon
        have hon' : Hid ((s.data.toList.take (k + 1)).filter isO = (s.data.toList.take k).filter isO) := hon
        clear hc ho hon
        go_wp2_with fail
        go_roundw
        case rel => exact ⟨k + 1, l, hlt, by simp, by rw [hl.out]; exact hon'.out.symm, hO.out, hB.out⟩
        case measure => simp [intOf]; omega
      · have ho : isO s[k] = false := by unfold isO; exact decide_eq_false (by omega)
        have b1 : ¬ (97 : Int) ≤ (s[k].toNat : Int) := by omega
        have b3 : (65 : Int) ≤ (s[k].toNat : Int) := by omega
        have b4 : ¬ (s[k].toNat : Int) ≤ 90 := by omega
        have b5 : (48 : Int) ≤ (s[k].toNat : Int) := by omega
        have b6 : ¬ (s[k].toNat : Int) ≤ 57 := by omega
        have b7 : ((s[k].toNat : Int) == 45) = false := by rw [beq_eq_false_iff_ne]; omega
        rw [if_neg (by rw [ho]; decide), List.append_nil] at hon
        have hon' : Hid ((s.data.toList.take (k + 1)).filter isO = (s.data.toList.take k).filter isO) := hon
        clear hc ho hon
        go_wp2_with fail
        go_roundw
        case rel => exact ⟨k + 1, l, hlt, by simp, by rw [hl.out]; exact hon'.out.symm, hO.out, hB.out⟩
        case measure => simp [intOf]; omega
      · have ho : isO s[k] = false := by unfold isO; exact decide_eq_false (by omega)
        have b1 : ¬ (97 : Int) ≤ (s[k].toNat : Int) := by omega
        have b3 : ¬ (65 : Int) ≤ (s[k].toNat : Int) := by omega
        have b5 : (48 : Int) ≤ (s[k].toNat : Int) := by omega
        have b6 : ¬ (s[k].toNat : Int) ≤ 57 := by omega
        have b7 : ((s[k].toNat : Int) == 45) = false := by rw [beq_eq_false_iff_ne]; omega
        rw [if_neg (by rw [ho]; decide), List.append_nil] at hon
        have hon' : Hid ((s.data.toList.take (k + 1)).filter isO = (s.data.toList.take k).filter isO) := hon
        clear hc ho hon
        go_wp2_with fail
        go_roundw
        case rel => exact ⟨k + 1, l, hlt, by simp, by rw [hl.out]; exact hon'.out.symm, hO.out, hB.out⟩
        case measure => simp [intOf]; omega
      · have ho : isO s[k] = false := by unfold isO; exact decide_eq_false (by omega)
        have b1 : ¬ (97 : Int) ≤ (s[k].toNat : Int) := by omega
        have b3 : ¬ (65 : Int) ≤ (s[k].toNat : Int) := by omega
        have b5 : ¬ (48 : Int) ≤ (s[k].toNat : Int) := by omega
        have b7 : ((s[k].toNat : Int) == 45) = false := by rw [beq_eq_false_iff_ne]; omega
        rw [if_neg (by rw [ho]; decide), List.append_nil] at hon
        have hon' : Hid ((s.data.toList.take (k + 1)).filter isO = (s.data.toList.take k).filter isO) := hon
        clear hc ho hon
        go_wp2_with fail
        go_roundw
        case rel => exact ⟨k + 1, l, hlt, by simp, by rw [hl.out]; exact hon'.out.symm, hO.out, hB.out⟩
        case measure => simp [intOf]; omega
    · have hke : k = s.size := by omega
      have k1 : ¬ (k : Int) < (s.size : Int) := by omega
      have hl' : Hid (l = s.data.toList.filter isO) := by
        have h := hl.out
        rw [hke, ← size_l, List.take_length] at h
        exact h
      have hcv := own_conv hO.out
      have hO' := hO.out
      clear hl hke
      rcases hO'.2 with ⟨rfl, hn⟩ | ⟨g, cap, cur, rfl, hrest⟩
      · have e0 : l = [] := List.eq_nil_of_length_eq_zero hn
        subst e0
        clear hcv hO' hn hO
        go_wp2_with fail
        go_ret
        refine ⟨?_, hB.out⟩
        unfold opt
        rw [← hl'.out, if_pos rfl]
        rfl
      · by_cases h0 : l = []
        · subst h0
          clear hcv hO' hrest hO
          go_wp2_with fail
          go_ret
          refine ⟨?_, hB.out⟩
          unfold opt
          rw [← hl'.out, if_pos rfl]
          rfl
        · have h1 : ((l.length : Int) == 0) = false := by
            rw [beq_eq_false_iff_ne]
            have := List.length_pos_iff.2 h0
            omega
          clear hO' hrest hO
          go_wp2_with fail
          go_ret
          refine ⟨?_, hB.out⟩
          unfold opt
          rw [← hl'.out, if_neg h0]
          rfl
end Go.Proofs.YteiikipldejeeaaDoor
