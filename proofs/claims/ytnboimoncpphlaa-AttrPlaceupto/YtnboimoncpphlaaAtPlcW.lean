import Derived.Test.YtnboimoncpphlaaAtPlc
namespace Go.Proofs.Ytnboimoncpphlaa
open Go.RowKit
open TextMath (fold lo)
set_option linter.unusedVariables false

theorem fold_take (l : List UInt8) (n : Nat) : fold (l.take n) = (fold l).take n := by simp [fold]
theorem cut_l (s : ByteArray) (n : Nat) : (s.extract 0 n).data.toList = s.data.toList.take n := by
  rw [ByteArray.data_extract, Array.toList_extract, List.extract_eq_take_drop]
  simp
theorem atP_le (s : ByteArray) : atP s ≤ s.size := by
  unfold atP
  have h := plc_le (fold s.data.toList) 0
  rw [fold_len, size_l] at h
  exact h
theorem atP_ok (s : ByteArray) (h : okP s = true) : atP s = s.size := by
  unfold atP
  rw [plc_end _ 0 h, fold_len, size_l]
theorem goes_ahead (s : ByteArray) : goesL (fold (s.extract 0 (atP s)).data.toList) = true := by
  rw [goes_iff, cut_l, fold_take]
  exact decide_eq_true (plc_ahead _ 0 (by decide))
theorem goes_with (s : ByteArray) (h : atP s < s.size) : goesL (fold (s.extract 0 (atP s + 1)).data.toList) = false := by
  rw [goes_iff, cut_l, fold_take]
  exact decide_eq_false (fun q => q (plc_with _ 0 (by rw [fold_len, size_l]; exact h)))
set_option maxRecDepth 100000 in
set_option maxHeartbeats 400000 in
theorem attrPlace_walk (s : ByteArray) (w : World) (hs : s.size ≤ 1048576) :
    Calls Try.prog 4 #[.string s] w fun e w' => e = .returned (.bool true) ∧ Below w.heap.size w w' := by
  have hG : ∀ (t : ByteArray) (r : Bool) (W : World), t.size ≤ 1048577 → goesL (fold t.data.toList) = r → Hid (Calls Try.prog 8 #[.string t] W fun e w' => e = .returned (.bool r) ∧ Below W.heap.size W w') := fun t r W ht hr => by
    have h := goes_any t W (by omega)
    rw [hr] at h
    exact h
  have hP : ∀ W, Hid (Calls Try.prog 9 #[.string s] W fun e w' => (∃ X a n c, e = .returned (.tuple #[.agg #[.string X, .slice a n c], .int .i64 (if okP s = true then 0 else 40), .int .i64 (atP s : Int)])) ∧ Below W.heap.size W w') := fun W => parse_flat s W (by omega)
  have h1 := hG ⟨#[99, 110, 59]⟩ true w (by decide) (by decide)
  have hA := goes_ahead s
  have hW' := goes_with s
  have hle := atP_le s
  have hok := atP_ok s
  go_enter Try.func4, Try.ntmps4
  have hst : Hid (s.size ≤ 1048576 ∧ atP s ≤ s.size) := ⟨hs, hle⟩
  have hA' : Hid (goesL (fold (s.extract 0 (atP s)).data.toList) = true ∧ (atP s < s.size → goesL (fold (s.extract 0 (atP s + 1)).data.toList) = false) ∧ (okP s = true → atP s = s.size)) := ⟨hA, hW', hok⟩
  clear hA hW' hok hs hle
  go_wp2_with fail
  refine h1.out.mono ?_
  rintro e W1 ⟨rfl, hb1⟩
  have o1 : Hid (Below w.heap.size w W1) := hb1
  have h2 := hG ⟨#[49]⟩ true W1 (by decide) (by decide)
  clear h1 hb1
  go_wp2_with fail
  refine h2.out.mono ?_
  rintro e W2 ⟨rfl, hb2⟩
  have o2 : Hid (Below w.heap.size w W2) := o1.out.trans (hb2.mono o1.out.size)
  have h3 := hP W2
  clear h2 hb2 o1 hP
  obtain ⟨r, hr⟩ : ∃ r, okP s = r := ⟨_, rfl⟩
  rw [hr] at h3 hA'
  clear hr
  go_wp2_with fail
  refine h3.out.mono ?_
  rintro e W3 ⟨⟨X, a, n, c, rfl⟩, hb3⟩
  have hB4 : Below W3.heap.size W3 (W3.alloc (.cells #[.string X, .slice a n c] 25)) := (Below.refl _ _).alloc (Nat.le_refl _) _
  have o3 : Hid (Below w.heap.size w W3) := o2.out.trans (hb3.mono o2.out.size)
  have o4 : Hid (Below w.heap.size w (W3.alloc (.cells #[.string X, .slice a n c] 25))) := o3.out.trans (hB4.mono o3.out.size)
  clear h3 hb3 o2 o3 hB4
  cases r with
  | true =>
    rw [if_pos rfl]
    have hp : (atP s : Int) = (s.size : Int) := by rw [hA'.out.2.2 rfl]
    rw [hp]
    clear hp
    go_wp2_with fail
    refine (numP_any 0 _).mono ?_
    rintro e w2 ⟨rfl, hw2⟩
    subst hw2
    go_wp2_with fail
    go_ret
    exact ⟨rfl, o4.out⟩
  | false =>
    rw [if_neg (by decide)]
    obtain ⟨p, hp⟩ : ∃ p, atP s = p := ⟨_, rfl⟩
    rw [hp] at hA' hst ⊢
    clear hp
    have p0 : (0 : Int) ≤ (p : Int) := Int.natCast_nonneg _
    have p1 : (p : Int) ≤ (s.size : Int) := by have := hst.out.2; omega
    have p2 : ¬ (p : Int) > (s.size : Int) := by omega
    have p3 : ¬ (p : Int) < 0 := by omega
    go_wp2_with fail
    refine (numP_any 40 _).mono ?_
    rintro e w2 ⟨rfl, hw2⟩
    subst hw2
    go_wp2_with fail
    refine (numP_any 40 _).mono ?_
    rintro e w2 ⟨rfl, hw2⟩
    subst hw2
    have h5 := hG (s.extract 0 p) true (W3.alloc (.cells #[.string X, .slice a n c] 25)) (by rw [ByteArray.size_extract]; have := hst.out; omega) hA'.out.1
    go_wp2_with fail
    refine h5.out.mono ?_
    rintro e W5 ⟨rfl, hb5⟩
    have o5 : Hid (Below w.heap.size w W5) := o4.out.trans (hb5.mono o4.out.size)
    clear h5 hb5 o4
    by_cases hlt : p < s.size
    · have q1 : ¬ (p : Int) = (s.size : Int) := by omega
      have q2 : (p : Int) + 1 ≤ (s.size : Int) := by omega
      have q3 : (0 : Int) ≤ (p : Int) + 1 := by omega
      have q4 : s.size ≤ 1048576 := hst.out.1
      have h6 := hG (s.extract 0 (p + 1)) false W5 (by rw [ByteArray.size_extract]; have := hst.out; omega) (hA'.out.2.1 hlt)
      go_wp2_with fail
      refine h6.out.mono ?_
      rintro e W6 ⟨rfl, hb6⟩
      have o6 : Hid (Below w.heap.size w W6) := o5.out.trans (hb6.mono o5.out.size)
      clear h6 hb6 o5
      go_wp2_with fail
      go_ret
      exact ⟨rfl, o6.out⟩
    · have q1 : (p : Int) = (s.size : Int) := by have := hst.out.2; omega
      go_wp2_with fail
      go_ret
      exact ⟨rfl, o5.out⟩
end Go.Proofs.Ytnboimoncpphlaa
