import Derived.Test.YtjokpcggdaoleaaGreatDoorMtLngM
namespace Go.Proofs.YtjokpcggdaoleaaGreatDoor
open Go.RowKit
set_option linter.unusedVariables false

abbrev z18 : List UInt8 := [48, 48, 48, 48, 48, 48, 48, 48, 48, 48, 48, 48, 48, 48, 48, 48, 48, 48]
/-- What AtLeast and AtMost say of two whole numbers. -/
theorem ordT_of (p : Int → Bool) (a b : List UInt8) (ha : intOk a = true) (hb : intOk b = true) : ordT p (S a) (S b) = (if p (cmpI a b) then .int .i64 2 else .int .i64 0) := by
  unfold ordT
  rw [S_l, S_l, ha, hb]
  unfold nrm
  simp only [if_true, Bool.true_and]
  rw [S_l, S_l]
  unfold cmpV
  rw [ha, hb]
  rfl
theorem cmpI_pp (c d : UInt8) (a b : List UInt8) (hc : ¬ c = 45) (hd : ¬ d = 45) : cmpI (c :: a) (d :: b) = cmpN (c :: a) (d :: b) := by
  unfold cmpI
  rw [(pre_no c a hc).1, (pre_no c a hc).2, (pre_no d b hd).1, (pre_no d b hd).2]
  rfl
theorem cmpI_nn (a b : List UInt8) : cmpI (45 :: a) (45 :: b) = cmpN b a := by
  unfold cmpI
  rw [(pre_yes a).1, (pre_yes a).2, (pre_yes b).1, (pre_yes b).2]
  rfl
theorem cmpI_pn (c : UInt8) (a b : List UInt8) (hc : ¬ c = 45) : cmpI (c :: a) (45 :: b) = 1 := by
  unfold cmpI
  rw [(pre_no c a hc).1, (pre_yes b).1]
  rfl
theorem long_pack (p : List UInt8) (z : Nat) (hp : dig p) (hpl : p.length ≤ 200) (hz1 : 1 ≤ z) (hz2 : z ≤ 50) (ev : Value) (hev : IsI ev) : ∃ (D E ND NE ZD L9 L : ByteArray), S (49 :: p) = D ∧ S (49 :: (p ++ List.replicate z 48)) = E ∧ (⟨#[45]⟩ : ByteArray) ++ D = ND ∧ (⟨#[45]⟩ : ByteArray) ++ E = NE ∧ (⟨#[48]⟩ : ByteArray) ++ D = ZD ∧ (⟨#[57]⟩ : ByteArray) ++ E = L9 ∧ L9 ++ (⟨#[48, 48, 48, 48, 48, 48, 48, 48, 48, 48, 48, 48, 48, 48, 48, 48, 48, 48]⟩ : ByteArray) = L ∧ D.size ≤ 201 ∧ E.size ≤ 251 ∧ L9.size ≤ 252 ∧
    (∀ W, Hid (Calls Tryz.prog 9 #[.int .i64 7, .string E, .string D] W fun e w' => e = .returned (.int .i64 2) ∧ Below W.heap.size W w')) ∧
    (∀ W, Hid (Calls Tryz.prog 9 #[.int .i64 7, .string D, .string E] W fun e w' => e = .returned (.int .i64 0) ∧ Below W.heap.size W w')) ∧
    (∀ W, Hid (Calls Tryz.prog 10 #[.int .i64 7, .string NE, .string ND] W fun e w' => e = .returned (.int .i64 2) ∧ Below W.heap.size W w')) ∧
    (∀ W, Hid (Calls Tryz.prog 10 #[.int .i64 7, .string ND, .string NE] W fun e w' => e = .returned (.int .i64 0) ∧ Below W.heap.size W w')) ∧
    (∀ W, Hid (Calls Tryz.prog 6 #[.int .i64 7, .string ZD, .string D] W fun e w' => e = .returned (.int .i64 0) ∧ Below W.heap.size W w')) ∧
    (∀ W, Hid (Calls Tryz.prog 6 #[.int .i64 7, .string D, .string ZD] W fun e w' => e = .returned (.int .i64 1) ∧ Below W.heap.size W w')) ∧
    (∀ W, Hid (Calls Tryz.prog 9 #[.int .i64 7, .string D, .string NE] W fun e w' => e = .returned (.int .i64 2) ∧ Below W.heap.size W w')) ∧
    (∀ W, ErrV ev W → Hid (Calls Tryz.prog 8 #[.int .i64 20, .int .i64 7, .string ⟨#[49]⟩, .string L] W fun e w' => e = .returned (.int .i64 1) ∧ Below W.heap.size W w')) ∧
    (∀ W, ErrV ev W → Hid (Calls Tryz.prog 8 #[.int .i64 20, .int .i64 7, .string L, .string ⟨#[49]⟩] W fun e w' => e = .returned (.int .i64 0) ∧ Below W.heap.size W w')) ∧
    (∀ W, Hid (Calls Tryz.prog 8 #[.int .i64 7, .int .i64 7, .string L, .string L] W fun e w' => e = .returned (.int .i64 2) ∧ Below W.heap.size W w')) := by
  have n1 : ¬ (49 : UInt8) = 48 := by decide
  have n5 : ¬ (49 : UInt8) = 45 := by decide
  have hd1 : dig (49 :: p) := dig_cons (by decide) hp
  have hd2 : dig (49 :: (p ++ List.replicate z 48)) := dig_cons (by decide) (dig_app hp (dig_zeros z))
  have hd3 : dig (49 :: (p ++ List.replicate z 48) ++ z18) := dig_app hd2 (dig_zeros 18)
  have o1 := int_ok 49 p n1 hd1
  have o2 := int_ok 49 _ n1 hd2
  have o3 := int_neg 49 p n1 hd1
  have o4 := int_neg 49 _ n1 hd2
  have o5 := int_zero 49 p
  have o6 := int_ok 57 _ (by decide) (dig_cons (c := 57) (by decide) hd3)
  have hll : (49 :: p).length < (49 :: (p ++ List.replicate z 48)).length := by simp; omega
  have far := far_nine _ hd3 (by simp; omega)
  have hsL : (S (57 :: (49 :: (p ++ List.replicate z 48) ++ z18))).size ≤ 1099511627776 := by rw [S_size]; simp; omega
  have wL : WordIs ev (S (57 :: (49 :: (p ++ List.replicate z 48) ++ z18))) 0 false := word_far ev hev _ hsL (by rw [S_l]; exact o6) (by rw [S_l]; exact far)
  have w1 : WordIs ev ⟨#[49]⟩ 1 true := word_ok ev ⟨#[49]⟩ 1 (by decide) rfl rfl
  have c1 : (⟨#[45]⟩ : ByteArray) ++ S (49 :: p) = S (45 :: 49 :: p) := S_app [45] _
  have c2 : (⟨#[45]⟩ : ByteArray) ++ S (49 :: (p ++ List.replicate z 48)) = S (45 :: 49 :: (p ++ List.replicate z 48)) := S_app [45] _
  have c3 : (⟨#[48]⟩ : ByteArray) ++ S (49 :: p) = S (48 :: 49 :: p) := S_app [48] _
  have c4 : (⟨#[57]⟩ : ByteArray) ++ S (49 :: (p ++ List.replicate z 48)) = S (57 :: 49 :: (p ++ List.replicate z 48)) := S_app [57] _
  have c5 : S (57 :: 49 :: (p ++ List.replicate z 48)) ++ (⟨#[48, 48, 48, 48, 48, 48, 48, 48, 48, 48, 48, 48, 48, 48, 48, 48, 48, 48]⟩ : ByteArray) = S (57 :: (49 :: (p ++ List.replicate z 48) ++ z18)) := S_app _ z18
  refine ⟨_, _, _, _, _, _, _, rfl, rfl, c1, c2, c3, c4, c5, ?_, ?_, ?_, fun W => ?_, fun W => ?_, fun W => ?_, fun W => ?_, fun W => ?_, fun W => ?_, fun W => ?_, fun W hE => ?_, fun W hE => ?_, fun W => ?_⟩
  · rw [S_size]; simp; omega
  · rw [S_size]; simp; omega
  · rw [S_size]; simp; omega
  · have := least_any (S (49 :: (p ++ List.replicate z 48))) (S (49 :: p)) W
    rw [ordT_of _ _ _ o2 o1, cmpI_pp _ _ _ _ n5 n5, cmpN_up _ _ hll] at this
    exact this
  · have := least_any (S (49 :: p)) (S (49 :: (p ++ List.replicate z 48))) W
    rw [ordT_of _ _ _ o1 o2, cmpI_pp _ _ _ _ n5 n5, cmpN_down _ _ hll] at this
    exact this
  · have := most_any (S (45 :: 49 :: (p ++ List.replicate z 48))) (S (45 :: 49 :: p)) W
    rw [ordT_of _ _ _ o4 o3, cmpI_nn, cmpN_down _ _ hll] at this
    exact this
  · have := most_any (S (45 :: 49 :: p)) (S (45 :: 49 :: (p ++ List.replicate z 48))) W
    rw [ordT_of _ _ _ o3 o4, cmpI_nn, cmpN_up _ _ hll] at this
    exact this
  · have := intEq_any (S (48 :: 49 :: p)) (S (49 :: p)) W
    rw [S_l, S_l, o5, o1] at this
    exact this
  · have := intEq_any (S (49 :: p)) (S (48 :: 49 :: p)) W
    rw [S_l, S_l, o5, o1] at this
    exact this
  · have := least_any (S (49 :: p)) (S (45 :: 49 :: (p ++ List.replicate z 48))) W
    rw [ordT_of _ _ _ o1 o4, cmpI_pn _ _ _ n5] at this
    exact this
  · exact byRuleOne_any ev ⟨#[49]⟩ _ 0 1 false true wL w1 W hE
  · exact byRuleOne_any ev _ ⟨#[49]⟩ 1 0 true false w1 wL W hE
  · have := intRule_any (S (57 :: (49 :: (p ++ List.replicate z 48) ++ z18))) (S (57 :: (49 :: (p ++ List.replicate z 48) ++ z18))) W
    rw [S_l, o6] at this
    unfold nrm at this
    simp only [if_true, Bool.true_and, beq_self_eq_true] at this
    exact this
end Go.Proofs.YtjokpcggdaoleaaGreatDoor
