import Derived.Test.YtjokpcggdaoleaaGreatDoorMtBitN
import Derived.Test.YtjokpcggdaoleaaGreatDoorMtRul3
namespace Go.Proofs.YtjokpcggdaoleaaGreatDoor
open Go.RowKit
set_option linter.unusedVariables false

theorem S_app (l m : List UInt8) : S l ++ S m = S (l ++ m) := by refine S_eq _ _ ?_; rw [app_l, S_l, S_l]
theorem truth_any (b : Bool) (w : World) : Calls Tryz.prog 7 #[.bool b] w fun e w' => e = .returned (.int .i64 (if b then 2 else 0)) ∧ w' = w := by
  cases b
  · go_enter Tryz.func7, Tryz.ntmps7
    go_wp2_with fail
    go_ret
    exact ⟨rfl, rfl⟩
  · go_enter Tryz.func7, Tryz.ntmps7
    go_wp2_with fail
    go_ret
    exact ⟨rfl, rfl⟩
theorem bitsEq_any (v a : ByteArray) (hv : v.size ≤ 1099511627776) (ha : a.size ≤ 1099511627776) (w : World) : Calls Tryz.prog 6 #[.int .i64 14, .string v, .string a] w fun e w' => e = .returned (tvE (MtBitM.ok a.data.toList) (MtBitM.ok v.data.toList && ((nrm (MtBitM.ok v.data.toList) v).toList == (nrm (MtBitM.ok a.data.toList) a).toList))) ∧ Below w.heap.size w w' :=
  equalG_any 14 _ _ _ synBits bitsAt bitsWalked v _ a _ _ _ (bitsN_any v hv) (bitsN_any a ha) w
theorem bitsRule_any (v a : ByteArray) (hv : v.size ≤ 1099511627776) (ha : a.size ≤ 1099511627776) (w : World) : Calls Tryz.prog 8 #[.int .i64 23, .int .i64 14, .string v, .string a] w fun e w' => e = .returned (tvE (MtBitM.ok a.data.toList) (MtBitM.ok v.data.toList && ((nrm (MtBitM.ok v.data.toList) v).toList == (nrm (MtBitM.ok a.data.toList) a).toList))) ∧ Below w.heap.size w w' :=
  byRuleEq_any 23 14 _ _ _ (by omega) (by omega) (fun cs h => h.2.2.2.2.2) (by omega) (by omega) synBits bitsAt bitsWalked v _ a _ _ _ (bitsN_any v hv) (bitsN_any a ha) w
/-- The digits of a text's first bytes. -/
def bx (l : List UInt8) (i : Nat) : List UInt8 := 39 :: (l.take i).map MtBitM.dg
theorem bx_snoc (s : ByteArray) (i : Nat) (h : i < s.size) : S (bx s.data.toList i) ++ S [MtBitM.dg s[i]] = S (bx s.data.toList (i + 1)) := by
  rw [S_app]
  unfold bx
  rw [take_snoc s i h]
  simp
theorem bx_size (l : List UInt8) (i : Nat) (h : i ≤ 100) : (S (bx l i)).size ≤ 101 := by
  rw [S_size]
  unfold bx
  simp
  omega
theorem dg_val (c : UInt8) : ((MtBitM.dg c).toNat : Int) = 48 + ((c.toNat % 2 : Nat) : Int) := by
  unfold MtBitM.dg
  by_cases h : c.toNat % 2 = 0
  · rw [if_pos h, h]; rfl
  · rw [if_neg h]
    have : c.toNat % 2 = 1 := by omega
    rw [this]; rfl
theorem dg_int (c : UInt8) : (48 + (c.toNat : Int) % 2) = ((MtBitM.dg c).toNat : Int) := by rw [dg_val]; omega
theorem one_back (w : World) (c : UInt8) : (convert 22 9 (.slice (some ⟨w.heap.size, 0, none⟩) 1 1)).run Tryz.prog (w.alloc (.cells #[.int .u8 (48 + (c.toNat : Int) % 2)] 5)) = .ok (.string (S [MtBitM.dg c])) (w.alloc (.cells #[.int .u8 (48 + (c.toNat : Int) % 2)] 5)) := by
  rw [dg_int]
  refine conv_back (P := Tryz.prog) _ _ _ _ w.heap.size 1 1 [MtBitM.dg c] Tryz.underlying22 Tryz.underlying5 Tryz.underlying9 rfl ?_
  intro j hj
  have : j = 0 := by simp at hj; omega
  subst this
  simp [go_sem]
theorem toL_S (x : List UInt8) : (S x).toList = x := by rw [Lib.toList_data, S_l]
theorem bits_pack (p q : List UInt8) (hp : MtBitM.d01 p) (hq : MtBitM.d01 q) (hpl : p.length ≤ 100) (hql : q.length ≤ 100) : ∃ (X Y XB YB Xb X2 Xs : ByteArray) (bq : Bool) (t : Int), S (39 :: p) = X ∧ S (39 :: q) = Y ∧ X ++ (⟨#[39, 66]⟩ : ByteArray) = XB ∧ Y ++ (⟨#[39, 66]⟩ : ByteArray) = YB ∧ X ++ (⟨#[39, 98]⟩ : ByteArray) = Xb ∧ X ++ (⟨#[50, 39, 66]⟩ : ByteArray) = X2 ∧ X ++ (⟨#[39]⟩ : ByteArray) = Xs ∧ X.size ≤ 101 ∧ Y.size ≤ 101 ∧ (X.toList == Y.toList) = bq ∧
    (∀ W, Hid (Calls Tryz.prog 7 #[.bool bq] W fun e w' => e = .returned (.int .i64 t) ∧ w' = W)) ∧
    (∀ W, Hid (Calls Tryz.prog 6 #[.int .i64 14, .string XB, .string YB] W fun e w' => e = .returned (.int .i64 t) ∧ Below W.heap.size W w')) ∧
    (∀ W, Hid (Calls Tryz.prog 8 #[.int .i64 23, .int .i64 14, .string XB, .string XB] W fun e w' => e = .returned (.int .i64 2) ∧ Below W.heap.size W w')) ∧
    (∀ W, Hid (Calls Tryz.prog 6 #[.int .i64 14, .string Xb, .string YB] W fun e w' => e = .returned (.int .i64 0) ∧ Below W.heap.size W w')) ∧
    (∀ W, Hid (Calls Tryz.prog 6 #[.int .i64 14, .string YB, .string X2] W fun e w' => e = .returned (.int .i64 1) ∧ Below W.heap.size W w')) ∧
    (∀ W, Hid (Calls Tryz.prog 6 #[.int .i64 14, .string Xs, .string XB] W fun e w' => e = .returned (.int .i64 0) ∧ Below W.heap.size W w')) := by
  have o1 := MtBitM.ok_good p hp
  have o2 := MtBitM.ok_good q hq
  have o3 := MtBitM.ok_small p
  have o4 := MtBitM.ok_two p hp
  have o5 := MtBitM.ok_short p
  have z : ∀ r : List UInt8, r.length ≤ 120 → (S r).size ≤ 1099511627776 := fun r hr => by rw [S_size]; omega
  have c1 : S (39 :: p) ++ (⟨#[39, 66]⟩ : ByteArray) = S (39 :: (p ++ [39, 66])) := S_app (39 :: p) [39, 66]
  have c2 : S (39 :: q) ++ (⟨#[39, 66]⟩ : ByteArray) = S (39 :: (q ++ [39, 66])) := S_app (39 :: q) [39, 66]
  have c3 : S (39 :: p) ++ (⟨#[39, 98]⟩ : ByteArray) = S (39 :: (p ++ [39, 98])) := S_app (39 :: p) [39, 98]
  have c4 : S (39 :: p) ++ (⟨#[50, 39, 66]⟩ : ByteArray) = S (39 :: (p ++ [50, 39, 66])) := S_app (39 :: p) [50, 39, 66]
  have c5 : S (39 :: p) ++ (⟨#[39]⟩ : ByteArray) = S (39 :: (p ++ [39])) := S_app (39 :: p) [39]
  have hb : ((S (39 :: (p ++ [39, 66]))).toList == (S (39 :: (q ++ [39, 66]))).toList) = ((S (39 :: p)).toList == (S (39 :: q)).toList) := by
    rw [toL_S, toL_S, toL_S, toL_S, Bool.eq_iff_iff]
    simp
  refine ⟨_, _, _, _, _, _, _, _, _, rfl, rfl, c1, c2, c3, c4, c5, ?_, ?_, rfl, fun W => truth_any _ W, fun W => ?_, fun W => ?_, fun W => ?_, fun W => ?_, fun W => ?_⟩
  · rw [S_size]; simp; omega
  · rw [S_size]; simp; omega
  · have := bitsEq_any (S (39 :: (p ++ [39, 66]))) (S (39 :: (q ++ [39, 66]))) (z _ (by simp; omega)) (z _ (by simp; omega)) W
    rw [S_l, S_l, o1, o2] at this
    unfold nrm at this
    simp only [if_true, Bool.true_and] at this
    rw [hb] at this
    generalize ((S (39 :: p)).toList == (S (39 :: q)).toList) = bq at this ⊢
    cases bq <;> exact this
  · have := bitsRule_any (S (39 :: (p ++ [39, 66]))) (S (39 :: (p ++ [39, 66]))) (z _ (by simp; omega)) (z _ (by simp; omega)) W
    rw [S_l, o1] at this
    unfold nrm at this
    simp only [if_true, Bool.true_and, beq_self_eq_true] at this
    exact this
  · have := bitsEq_any (S (39 :: (p ++ [39, 98]))) (S (39 :: (q ++ [39, 66]))) (z _ (by simp; omega)) (z _ (by simp; omega)) W
    rw [S_l, S_l, o3, o2] at this
    exact this
  · have := bitsEq_any (S (39 :: (q ++ [39, 66]))) (S (39 :: (p ++ [50, 39, 66]))) (z _ (by simp; omega)) (z _ (by simp; omega)) W
    rw [S_l, S_l, o4, o2] at this
    exact this
  · have := bitsEq_any (S (39 :: (p ++ [39]))) (S (39 :: (p ++ [39, 66]))) (z _ (by simp; omega)) (z _ (by simp; omega)) W
    rw [S_l, S_l, o5, o1] at this
    exact this
end Go.Proofs.YtjokpcggdaoleaaGreatDoor
