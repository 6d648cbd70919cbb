import Derived.Test.YtilglidhlcmfbaaDoorRefCol
namespace Go.Proofs.YtilglidhlcmfbaaDoor
open Go.RowKit
open TextMath (fold lo col bl trimP trimS squeeze normal)

theorem trimP_if (l : List UInt8) : trimP l = l.drop (if l.getD 0 0 = 32 then 1 else 0) := by
  cases l with
  | nil => simp [trimP]
  | cons a t =>
    unfold trimP
    by_cases h : a = 32 <;> simp [h]
theorem trimS_drop (c : List UInt8) (p : Nat) : trimS (c.drop p) = (c.drop p).take ((if p < c.length ∧ c.getD (c.length - 1) 0 = 32 then c.length - 1 else c.length) - p) := by
  unfold trimS
  by_cases hp : p < c.length
  · have hl : (c.drop p).getLast? = some (c.getD (c.length - 1) 0) := by
      rw [List.getLast?_eq_getElem?, List.getElem?_drop, List.length_drop]
      have e : p + (c.length - p - 1) = c.length - 1 := by omega
      rw [e, List.getElem?_eq_getElem (by omega)]
      simp [List.getD, List.getElem?_eq_getElem (show c.length - 1 < c.length by omega)]
    rw [hl]
    by_cases h : c.getD (c.length - 1) 0 = 32
    · rw [if_pos (by rw [h]), if_pos ⟨hp, h⟩, List.dropLast_eq_take, List.length_drop]
      congr 1; omega
    · rw [if_neg (by intro hh; injection hh with hh; exact h hh), if_neg (fun hh => h hh.2), List.take_of_length_le (by simp)]
  · rw [List.drop_eq_nil_of_le (by omega)]
    simp
theorem sq_ext (T : ByteArray) (p q : Nat) (hp : p = if T.data.toList.getD 0 0 = 32 then 1 else 0) (hq : q = if p < T.data.toList.length ∧ T.data.toList.getD (T.data.toList.length - 1) 0 = 32 then T.data.toList.length - 1 else T.data.toList.length) :
    T.extract p q = S (trimS (trimP T.data.toList)) := by
  apply S_eq
  rw [Lib.extract_data, trimP_if, trimS_drop, ← hp, ← hq]
theorem ext_all (T : ByteArray) : T.extract 0 T.size = T := by
  rw [← S_of (T.extract 0 T.size), take_l, List.take_of_length_le (by rw [size_l]; exact Nat.le_refl _), S_of]
theorem u32 (c : UInt8) : ((c.toNat : Int) == 32) = true ↔ c = 32 := by
  rw [beq_iff_eq]
  constructor
  · intro h; apply UInt8.toNat_inj.1; have : (32 : UInt8).toNat = 32 := rfl; omega
  · rintro rfl; rfl

set_option maxHeartbeats 1000000 in
theorem rSqueeze_any (s : ByteArray) (w : World) (hm : s.size ≤ 140737488355328) :
    Calls Tryd.prog 20 #[.string s] w fun e w' => e = .returned (.string (S (squeeze s.data.toList))) ∧ Below w.heap.size w w' := by
  have hcl := TextMath.col_length s.data.toList false
  rw [size_l] at hcl
  have hsq : Hid (squeeze s.data.toList = trimS (trimP (S (col false s.data.toList)).data.toList)) := by unfold Hid; rw [S_l]; rfl
  have hts : (S (col false s.data.toList)).size ≤ s.size := by rw [S_size]; exact hcl
  have hcall := rCollapse_any s w hm
  have HC := hcall
  clear hcl
  generalize hT : S (col false s.data.toList) = T at *
  have HLN : Hid (T.data.toList.length = T.size) := size_l T
  have hcall2 : Hid (Calls Tryd.prog 18 #[.string s] w fun e w' => e = .returned (.string T) ∧ Below w.heap.size w w') := hcall
  clear hcall HC hT
  by_cases h0 : 0 < T.size
  · have g0 := getD_s T 0 h0
    have g1 := getD_s T (T.size - 1) (by omega)
    by_cases hf : ((T[0].toNat : Int) == 32) = true
    · have hf' := (u32 _).1 hf
      have p1 : (1 : Nat) = if T.data.toList.getD 0 0 = 32 then 1 else 0 := by rw [g0, if_pos hf']
      have P1 : Hid ((1 : Nat) = if T.data.toList.getD 0 0 = 32 then 1 else 0) := p1
      by_cases h1 : T.size = 1
      · have Q : Hid ((1 : Nat) = if 1 < T.data.toList.length ∧ T.data.toList.getD (T.data.toList.length - 1) 0 = 32 then T.data.toList.length - 1 else T.data.toList.length) := by
          have hlen := HLN.out; unfold Hid; rw [if_neg (by omega), hlen, h1]
        have h1' : Hid (T.size = 1) := h1
        have l1 : T.size ≤ 1 := by omega
        have l2 : 1 ≤ T.size := by omega
        clear h1 g0 g1 p1 hf'
        go_enter Tryd.func20, Tryd.ntmps20
        go_wp2_with (go_at_call 18; refine hcall2.out.mono ?_; rintro e w1 ⟨rfl, hb⟩)
        go_ret
        exact ⟨ret_str (by rw [hsq.out]; have h := sq_ext T 1 1 P1.out Q.out; rw [← h, h1'.out]), by assumption⟩
      · have l1 : 1 < T.size := by omega
        by_cases hlast : ((T[T.size - 1].toNat : Int) == 32) = true
        · have Q : Hid (T.size - 1 = if 1 < T.data.toList.length ∧ T.data.toList.getD (T.data.toList.length - 1) 0 = 32 then T.data.toList.length - 1 else T.data.toList.length) := by
            have hlen := HLN.out; unfold Hid; rw [hlen, g1, if_pos ⟨l1, (u32 _).1 hlast⟩]
          clear h1 g0 g1 p1 hf'
          go_enter Tryd.func20, Tryd.ntmps20
          go_wp2_with (go_at_call 18; refine hcall2.out.mono ?_; rintro e w1 ⟨rfl, hb⟩)
          go_ret
          exact ⟨ret_str (by rw [hsq.out]; exact sq_ext T 1 _ P1.out Q.out), by assumption⟩
        · have hlast' : ((T[T.size - 1].toNat : Int) == 32) = false := by simpa using hlast
          have Q : Hid (T.size = if 1 < T.data.toList.length ∧ T.data.toList.getD (T.data.toList.length - 1) 0 = 32 then T.data.toList.length - 1 else T.data.toList.length) := by
            have hlen := HLN.out; unfold Hid; rw [hlen, g1, if_neg (fun h => hlast ((u32 _).2 h.2))]
          clear h1 g0 g1 p1 hf' hlast
          go_enter Tryd.func20, Tryd.ntmps20
          go_wp2_with (go_at_call 18; refine hcall2.out.mono ?_; rintro e w1 ⟨rfl, hb⟩)
          go_ret
          exact ⟨ret_str (by rw [hsq.out]; exact sq_ext T 1 _ P1.out Q.out), by assumption⟩
    · have hf' : ((T[0].toNat : Int) == 32) = false := by simpa using hf
      have P1 : Hid ((0 : Nat) = if T.data.toList.getD 0 0 = 32 then 1 else 0) := by unfold Hid; rw [g0, if_neg (fun h => hf ((u32 _).2 h))]
      by_cases hlast : ((T[T.size - 1].toNat : Int) == 32) = true
      · have Q : Hid (T.size - 1 = if 0 < T.data.toList.length ∧ T.data.toList.getD (T.data.toList.length - 1) 0 = 32 then T.data.toList.length - 1 else T.data.toList.length) := by
          have hlen := HLN.out; unfold Hid; rw [hlen, g1, if_pos ⟨h0, (u32 _).1 hlast⟩]
        clear g0 g1 hf
        go_enter Tryd.func20, Tryd.ntmps20
        go_wp2_with (go_at_call 18; refine hcall2.out.mono ?_; rintro e w1 ⟨rfl, hb⟩)
        go_ret
        exact ⟨ret_str (by rw [hsq.out]; exact sq_ext T 0 _ P1.out Q.out), by assumption⟩
      · have hlast' : ((T[T.size - 1].toNat : Int) == 32) = false := by simpa using hlast
        have Q : Hid (T.size = if 0 < T.data.toList.length ∧ T.data.toList.getD (T.data.toList.length - 1) 0 = 32 then T.data.toList.length - 1 else T.data.toList.length) := by
          have hlen := HLN.out; unfold Hid; rw [hlen, g1, if_neg (fun h => hlast ((u32 _).2 h.2))]
        clear g0 g1 hf hlast
        go_enter Tryd.func20, Tryd.ntmps20
        go_wp2_with (go_at_call 18; refine hcall2.out.mono ?_; rintro e w1 ⟨rfl, hb⟩)
        go_ret
        exact ⟨ret_str (by rw [hsq.out, ← sq_ext T 0 _ P1.out Q.out, ext_all]), by assumption⟩
  · have hz : T.data.toList = [] := List.eq_nil_of_length_eq_zero (by rw [HLN.out]; omega)
    have hTe : Hid (T.extract 0 T.size = S (squeeze s.data.toList)) := by
      unfold Hid; rw [hsq.out, hz]
      apply S_eq; rw [Lib.extract_data, hz]; simp [trimS, trimP]
    clear hz
    go_enter Tryd.func20, Tryd.ntmps20
    go_wp2_with (go_at_call 18; refine hcall2.out.mono ?_; rintro e w1 ⟨rfl, hb⟩)
    go_ret
    exact ⟨ret_str (by rw [← hTe.out, ext_all]), by assumption⟩

set_option maxHeartbeats 400000 in
theorem rNormal_any (s : ByteArray) (w : World) (hm : s.size ≤ 140737488355328) :
    Calls Tryd.prog 22 #[.string s] w fun e w' => e = .returned (.string (S (normal s.data.toList))) ∧ Below w.heap.size w w' := by
  have h1 : (S (fold s.data.toList)).size ≤ 140737488355328 := by rw [S_size, fold_len, size_l]; exact hm
  go_enter Tryd.func22, Tryd.ntmps22
  go_wp2_with fail
  refine (rFold_any s _ hm).mono ?_
  rintro e w1 ⟨rfl, hb⟩
  go_wp2_with fail
  refine (rSqueeze_any _ _ h1).mono ?_
  rintro e w2 ⟨rfl, hb2⟩
  rw [S_l]
  go_wp2_with fail
  go_ret
  exact ⟨rfl, hb.trans (hb2.mono hb.size)⟩
end Go.Proofs.YtilglidhlcmfbaaDoor
