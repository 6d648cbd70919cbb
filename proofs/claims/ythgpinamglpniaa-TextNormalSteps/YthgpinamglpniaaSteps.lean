import Derived.Test.YthgpinamglpniaaTrim
namespace Go.Proofs.Ythgpinamglpniaa
open Go.RowKit
open TextMath (fold col squeeze normal join)

theorem str_l (l : List UInt8) : ((⟨l.toArray⟩ : ByteArray)).data.toList = l := by simp
theorem empty_iff (n : ByteArray) : n.toList.isEmpty = true ↔ n.data.toList = [] := by rw [Lib.toList_data]; simp

/-- What TextNormalSteps asks of the two texts, as equations between strings. -/
structure Steps (a b n f c q m x y : ByteArray) : Prop where
  e1 : S (normal a.data.toList) = n
  e2 : S (normal (⟨#[32, 65, 9, 98, 32]⟩ : ByteArray).data.toList) = ⟨#[97, 32, 98]⟩
  e3 : S (normal n.data.toList) = n
  e4 : S (fold n.data.toList) = n
  e5 : S (col false n.data.toList) = n
  e6 : S (squeeze n.data.toList) = n
  e7 : S (fold a.data.toList) = f
  e8 : S (normal f.data.toList) = n
  e9 : S (col false a.data.toList) = c
  e10 : S (normal c.data.toList) = n
  e11 : S (squeeze a.data.toList) = q
  e12 : S (normal q.data.toList) = n
  e13 : S (fold q.data.toList) = n
  e14 : S (normal b.data.toList) = m
  e15 : S (normal (a ++ ⟨#[9]⟩ ++ b).data.toList) = x
  e16 : S (normal (a ++ ⟨#[32, 32]⟩ ++ b).data.toList) = y
  z1 : n.size ≤ a.size
  z2 : f.size ≤ a.size
  z3 : c.size ≤ a.size
  z4 : q.size ≤ a.size
  z5 : m.size ≤ b.size

theorem steps (a b : ByteArray) : ∃ n f c q m x y, Steps a b n f c q m x y ∧ (n.data.toList = [] ∨ m.data.toList = [] → x = n ++ m ∧ y = n ++ m) ∧ (¬ n.data.toList = [] → ¬ m.data.toList = [] → x = n ++ ⟨#[32]⟩ ++ m ∧ y = n ++ ⟨#[32]⟩ ++ m) := by
  have hx : (a ++ (⟨#[9]⟩ : ByteArray) ++ b).data.toList = a.data.toList ++ [9] ++ b.data.toList := by rw [app_l, app_l]
  have hy : (a ++ (⟨#[32, 32]⟩ : ByteArray) ++ b).data.toList = a.data.toList ++ [32, 32] ++ b.data.toList := by rw [app_l, app_l]
  refine ⟨S (normal a.data.toList), S (fold a.data.toList), S (col false a.data.toList), S (squeeze a.data.toList), S (normal b.data.toList), S (join (normal a.data.toList) (normal b.data.toList)), S (join (normal a.data.toList) (normal b.data.toList)), ?_, ?_, ?_⟩
  · constructor
    · rfl
    · show S (normal [32, 65, 9, 98, 32]) = _
      rw [TextMath.normal_word]; rfl
    · rw [S_l, TextMath.normal_normal]
    · rw [S_l, TextMath.fold_normal]
    · rw [S_l, TextMath.col_normal]
    · rw [S_l, TextMath.squeeze_normal]
    · rfl
    · rw [S_l, TextMath.normal_fold]
    · rfl
    · rw [S_l, TextMath.normal_col]
    · rfl
    · rw [S_l, TextMath.normal_squeeze]
    · rw [S_l, TextMath.fold_squeeze]
    · rfl
    · rw [hx, TextMath.normal_tab]
    · rw [hy, TextMath.normal_two]
    · rw [S_size, ← size_l]; exact normal_len _
    · rw [S_size, fold_len, size_l]; exact Nat.le_refl _
    · rw [S_size, ← size_l]; exact TextMath.col_length _ _
    · rw [S_size, ← size_l]; exact squeeze_len _
    · rw [S_size, ← size_l]; exact normal_len _
  · intro h
    rw [S_l, S_l] at h
    have e : S (join (normal a.data.toList) (normal b.data.toList)) = S (normal a.data.toList) ++ S (normal b.data.toList) := by
      symm; apply S_eq; rw [app_l, S_l, S_l]; unfold join; rw [if_pos h]
    exact ⟨e, e⟩
  · intro h1 h2
    rw [S_l] at h1 h2
    have e : S (join (normal a.data.toList) (normal b.data.toList)) = S (normal a.data.toList) ++ ⟨#[32]⟩ ++ S (normal b.data.toList) := by
      symm; apply S_eq; rw [app_l, app_l, S_l, S_l]; unfold join; rw [if_neg (by simp [h1, h2])]
    exact ⟨e, e⟩

set_option maxHeartbeats 2000000 in
theorem steps_walk (a b : ByteArray) (w : World) (ha : a.size ≤ 140737488351232) (hb : b.size ≤ 140737488351232) :
    Calls Try.prog 4 #[.string a, .string b] w fun e w' => e = .returned (.bool true) ∧ Below w.heap.size w w' := by
  obtain ⟨n, f, c, q, m, x, y, st, hx, hy⟩ := steps a b
  have z1 := st.z1
  have z2 := st.z2
  have z3 := st.z3
  have z4 := st.z4
  have z5 := st.z5
  have HB := Below.refl w.heap.size w
  have zx : Hid ((a ++ (⟨#[9]⟩ : ByteArray) ++ b).size ≤ 281474976710656) := by
    unfold Hid; rw [ByteArray.size_append, ByteArray.size_append]; show a.size + 1 + b.size ≤ _; omega
  have zy : Hid ((a ++ (⟨#[32, 32]⟩ : ByteArray) ++ b).size ≤ 281474976710656) := by
    unfold Hid; rw [ByteArray.size_append, ByteArray.size_append]; show a.size + 2 + b.size ≤ _; omega
  by_cases hn : n.toList.isEmpty = true
  · obtain ⟨rfl, rfl⟩ := hx (Or.inl ((empty_iff n).1 hn))
    clear hx hy
    go_enter Try.func4, Try.ntmps4
    go_wp2_with (first
      | (go_at_call 7; refine (normal_any _ _ ?_).mono ?_; (first | omega | decide | exact zx.out | exact zy.out); rintro e w1 ⟨rfl, hb1⟩; replace HB := HB.trans (hb1.mono HB.size); clear hb1; first | rw [st.e1] | rw [st.e2] | rw [st.e3] | rw [st.e8] | rw [st.e10] | rw [st.e12] | rw [st.e14] | rw [st.e15] | rw [st.e16])
      | (go_at_call 8; refine (fold_any _ _ ?_).mono ?_; (unfold maxLen; omega); rintro e w1 ⟨rfl, hb1⟩; replace HB := HB.trans (hb1.mono HB.size); clear hb1; first | rw [st.e4] | rw [st.e7] | rw [st.e13])
      | (go_at_call 9; refine (collapse_any _ _ ?_).mono ?_; (omega); rintro e w1 ⟨rfl, hb1⟩; replace HB := HB.trans (hb1.mono HB.size); clear hb1; first | rw [st.e5] | rw [st.e9])
      | (go_at_call 10; refine (squeeze_any _ _ ?_).mono ?_; (omega); rintro e w1 ⟨rfl, hb1⟩; replace HB := HB.trans (hb1.mono HB.size); clear hb1; first | rw [st.e6] | rw [st.e11]))
    go_ret
    exact ⟨rfl, HB⟩
  · have hn' : n.toList.isEmpty = false := by simpa using hn
    by_cases hm : m.toList.isEmpty = true
    · obtain ⟨rfl, rfl⟩ := hx (Or.inr ((empty_iff m).1 hm))
      clear hx hy hn
      go_enter Try.func4, Try.ntmps4
      go_wp2_with (first
        | (go_at_call 7; refine (normal_any _ _ ?_).mono ?_; (first | omega | decide | exact zx.out | exact zy.out); rintro e w1 ⟨rfl, hb1⟩; replace HB := HB.trans (hb1.mono HB.size); clear hb1; first | rw [st.e1] | rw [st.e2] | rw [st.e3] | rw [st.e8] | rw [st.e10] | rw [st.e12] | rw [st.e14] | rw [st.e15] | rw [st.e16])
        | (go_at_call 8; refine (fold_any _ _ ?_).mono ?_; (unfold maxLen; omega); rintro e w1 ⟨rfl, hb1⟩; replace HB := HB.trans (hb1.mono HB.size); clear hb1; first | rw [st.e4] | rw [st.e7] | rw [st.e13])
        | (go_at_call 9; refine (collapse_any _ _ ?_).mono ?_; (omega); rintro e w1 ⟨rfl, hb1⟩; replace HB := HB.trans (hb1.mono HB.size); clear hb1; first | rw [st.e5] | rw [st.e9])
        | (go_at_call 10; refine (squeeze_any _ _ ?_).mono ?_; (omega); rintro e w1 ⟨rfl, hb1⟩; replace HB := HB.trans (hb1.mono HB.size); clear hb1; first | rw [st.e6] | rw [st.e11]))
      go_ret
      exact ⟨rfl, HB⟩
    · have hm' : m.toList.isEmpty = false := by simpa using hm
      obtain ⟨rfl, rfl⟩ := hy (fun h => hn ((empty_iff n).2 h)) (fun h => hm ((empty_iff m).2 h))
      clear hx hy hn hm
      go_enter Try.func4, Try.ntmps4
      go_wp2_with (first
        | (go_at_call 7; refine (normal_any _ _ ?_).mono ?_; (first | omega | decide | exact zx.out | exact zy.out); rintro e w1 ⟨rfl, hb1⟩; replace HB := HB.trans (hb1.mono HB.size); clear hb1; first | rw [st.e1] | rw [st.e2] | rw [st.e3] | rw [st.e8] | rw [st.e10] | rw [st.e12] | rw [st.e14] | rw [st.e15] | rw [st.e16])
        | (go_at_call 8; refine (fold_any _ _ ?_).mono ?_; (unfold maxLen; omega); rintro e w1 ⟨rfl, hb1⟩; replace HB := HB.trans (hb1.mono HB.size); clear hb1; first | rw [st.e4] | rw [st.e7] | rw [st.e13])
        | (go_at_call 9; refine (collapse_any _ _ ?_).mono ?_; (omega); rintro e w1 ⟨rfl, hb1⟩; replace HB := HB.trans (hb1.mono HB.size); clear hb1; first | rw [st.e5] | rw [st.e9])
        | (go_at_call 10; refine (squeeze_any _ _ ?_).mono ?_; (omega); rintro e w1 ⟨rfl, hb1⟩; replace HB := HB.trans (hb1.mono HB.size); clear hb1; first | rw [st.e6] | rw [st.e11]))
      go_ret
      exact ⟨rfl, HB⟩
end Go.Proofs.Ythgpinamglpniaa
