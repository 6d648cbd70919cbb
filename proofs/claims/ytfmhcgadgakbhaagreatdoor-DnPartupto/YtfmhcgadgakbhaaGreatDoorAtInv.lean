import Derived.Test.YtfmhcgadgakbhaaGreatDoorFxI
namespace Go.Proofs.YtfmhcgadgakbhaaGreatDoor
open TextMath (fold lo)
set_option linter.unusedVariables false

theorem while_drop (K : List UInt8) : K = K.takeWhile isK ++ K.drop (K.takeWhile isK).length := by
  have h := List.take_append_drop (K.takeWhile isK).length K
  rw [take_while] at h
  exact h.symm
/-- What a whole description looks like from a place on. -/
theorem dscE_inv (s : ByteArray) : ∀ (n e : Nat) (acc r : List (List UInt8)) (m : Nat), e ≤ s.size → dscE s n e acc = (r, m, true) → m = s.size ∧ ∃ zs, r = acc ++ zs ∧ s.data.toList.drop e = semis zs ∧ ∀ z ∈ zs, z ≠ [] ∧ ∀ b ∈ z, isK b = true
  | 0, e, acc, r, m, he, h => by
    unfold dscE at h
    injection h with _ h
    injection h with _ h
    cases h
  | n + 1, e, acc, r, m, he, h => by
    unfold dscE at h
    by_cases hlt : e < s.size
    · rw [if_pos hlt] at h
      by_cases h59 : (s.data.toList.getD e 0).toNat = 59
      · rw [if_pos h59] at h
        by_cases h0 : runE isK s.data.toList (e + 1) = e + 1
        · rw [if_pos h0] at h
          injection h with _ h
          injection h with _ h
          cases h
        · rw [if_neg h0] at h
          have h1 := runE_le isK s.data.toList (e + 1) (by rw [size_l]; omega)
          rw [size_l] at h1
          obtain ⟨hm, zs, hr, hd, hz⟩ := dscE_inv s n _ _ r m h1.2 h
          have hlt' : e < s.data.toList.length := by rw [size_l]; exact hlt
          have hx : (s.extract (e + 1) (runE isK s.data.toList (e + 1))).data.toList = (s.data.toList.drop (e + 1)).takeWhile isK := by
            rw [ByteArray.data_extract, Array.toList_extract, List.extract_eq_take_drop]
            unfold runE
            rw [show e + 1 + ((s.data.toList.drop (e + 1)).takeWhile isK).length - (e + 1) = ((s.data.toList.drop (e + 1)).takeWhile isK).length by omega, take_while]
          rw [hx] at hr
          refine ⟨hm, (s.data.toList.drop (e + 1)).takeWhile isK :: zs, by rw [hr]; simp, ?_, ?_⟩
          · rw [semis_cons, ← hd, List.drop_eq_getElem_cons hlt']
            have e59 : s.data.toList[e] = 59 := by
              rw [List.getD, List.getElem?_eq_getElem hlt', Option.getD_some] at h59
              exact UInt8.toNat_inj.1 (by rw [h59]; rfl)
            rw [e59]
            congr 1
            have hk := while_drop (s.data.toList.drop (e + 1))
            rw [List.drop_drop] at hk
            unfold runE
            exact hk
          · intro z hz'
            rcases List.mem_cons.1 hz' with rfl | hz'
            · refine ⟨fun q => h0 ?_, fun b hb => mem_while isK _ b hb⟩
              unfold runE
              rw [q]
              rfl
            · exact hz z hz'
      · rw [if_neg h59] at h
        injection h with _ h
        injection h with _ h
        cases h
    · rw [if_neg hlt] at h
      injection h with h1 h
      injection h with h2 _
      refine ⟨by omega, [], by rw [← h1]; simp, ?_, by simp⟩
      rw [List.drop_of_length_le (by rw [size_l]; omega)]
      rfl
/-- A whole description is its type and its options; its type is whole. -/
theorem desc_inv (f : ByteArray) (h : (desc f).2.2 = true) : f.data.toList = (typD f).data.toList ++ semis (desc f).1 ∧ typE (typD f).data.toList = ((typD f).data.toList.length, true) ∧ (desc f).2.1 = f.size ∧ ∀ z ∈ (desc f).1, z ≠ [] ∧ ∀ b ∈ z, isK b = true := by
  have hT : (typE f.data.toList).2 = true := by
    unfold desc at h
    by_cases q : (typE f.data.toList).2 = true
    · exact q
    · rw [if_neg q] at h; cases h
  have hle := typE_le f.data.toList
  obtain ⟨r, m, b, hd⟩ : ∃ r m b, desc f = (r, m, b) := ⟨_, _, _, rfl⟩
  rw [hd] at h ⊢
  have hb : b = true := h
  subst hb
  unfold desc at hd
  rw [if_pos hT] at hd
  obtain ⟨hm, zs, hr, hdr, hz⟩ := dscE_inv f _ _ [] r m (by rw [size_l] at hle; exact hle) hd
  rw [List.nil_append] at hr
  subst hr
  have hty : (typD f).data.toList = f.data.toList.take (typE f.data.toList).1 := by
    unfold typD
    rw [ByteArray.data_extract, Array.toList_extract, List.extract_eq_take_drop]
    simp
  have hsp : f.data.toList = (typD f).data.toList ++ semis r := by
    rw [hty, ← hdr, List.take_append_drop]
  refine ⟨hsp, ?_, hm, hz⟩
  have he : typE f.data.toList = typE (typD f).data.toList := by
    conv => lhs; rw [hsp]
    exact typE_semis _ _
  rw [← he]
  refine Prod.ext ?_ hT
  show (typE f.data.toList).1 = _
  rw [hty, List.length_take]
  omega
end Go.Proofs.YtfmhcgadgakbhaaGreatDoor
