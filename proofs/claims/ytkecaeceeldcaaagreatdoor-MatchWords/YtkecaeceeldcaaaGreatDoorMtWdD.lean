import Derived.Test.YtkecaeceeldcaaaGreatDoorMtWdC
import Derived.Test.YtkecaeceeldcaaaGreatDoorMtFldM
namespace Go.Proofs.YtkecaeceeldcaaaGreatDoor
open Go.RowKit
open TextMath (fold squeeze sqA sqB squeeze_eq bl lo check check_app_good sqA_app join fold_app bl_32 ne32)
open MtFldM (swp fold_swp)
set_option linter.unusedVariables false
set_option linter.unusedSimpArgs false
namespace Wd

theorem chk_low (c : UInt8) (h : c.toNat < 128) : (check [c]).1 = true := by
  have key : ∀ n : Fin 128, (check [UInt8.ofNat n.val]).1 = true := by decide +kernel
  have := key ⟨c.toNat, h⟩
  rw [UInt8.ofNat_toNat] at this
  exact this
theorem chk_asc : ∀ (l : List UInt8), (∀ c ∈ l, c.toNat < 128) → (check l).1 = true
  | [], _ => rfl
  | c :: l, h => by
    have h1 := chk_low c (h c (List.mem_cons_self ..))
    have h2 := chk_asc l (fun x hx => h x (List.mem_cons_of_mem _ hx))
    have h3 := check_app_good [c] l h1
    show (check ([c] ++ l)).1 = true
    rw [h3]
    exact h2
theorem exOk_asc {l : List UInt8} (hn : l ≠ []) (h : ∀ c ∈ l, c.toNat < 128) : exOk l = true := by
  unfold exOk
  rw [chk_asc l h]
  cases l
  · exact absurd rfl hn
  · rfl
/-- A word of small letters. -/
def Wt (l : List UInt8) : Prop := l ≠ [] ∧ ∀ c ∈ l, 97 ≤ c.toNat ∧ c.toNat ≤ 122
theorem bl_wt {c : UInt8} (h : 97 ≤ c.toNat ∧ c.toNat ≤ 122) : bl c = false := by
  unfold bl
  rw [Bool.or_eq_false_iff, Bool.and_eq_false_iff]
  refine ⟨decide_eq_false (by omega), Or.inr (decide_eq_false (by omega))⟩
theorem lo_wt {c : UInt8} (h : 97 ≤ c.toNat ∧ c.toNat ≤ 122) : lo c = c := by
  unfold lo
  rw [if_neg (by omega)]
theorem fold_all {l : List UInt8} (h : ∀ c ∈ l, lo c = c) : fold l = l := by
  unfold fold
  induction l with
  | nil => rfl
  | cons d l ih => rw [List.map_cons, h d (List.mem_cons_self ..), ih fun c hc => h c (List.mem_cons_of_mem _ hc)]
theorem Wt.fold {l : List UInt8} (h : Wt l) : fold l = l := fold_all fun c hc => lo_wt (h.2 c hc)
theorem sqB_no : ∀ l : List UInt8, (∀ c ∈ l, bl c = false) → sqB false l = l
  | [], _ => rfl
  | c :: l, h => by
    have hc := h c (List.mem_cons_self ..)
    have ih := sqB_no l fun x hx => h x (List.mem_cons_of_mem _ hx)
    simp [sqB, hc, ih]
theorem sqA_no : ∀ l : List UInt8, (∀ c ∈ l, bl c = false) → sqA l = l
  | [], _ => rfl
  | c :: l, h => by
    have hc := h c (List.mem_cons_self ..)
    have ih := sqB_no l fun x hx => h x (List.mem_cons_of_mem _ hx)
    simp [sqA, hc, ih]
theorem Wt.sq {l : List UInt8} (h : Wt l) : sqA l = l := sqA_no l fun c hc => bl_wt (h.2 c hc)
theorem Wt.no32 {l : List UInt8} (h : Wt l) : (32 : UInt8) ∉ l := fun q => absurd (h.2 32 q) (by decide)
theorem Wt.asc {l : List UInt8} (h : Wt l) : ∀ c ∈ l, c.toNat < 128 := fun c hc => by have := h.2 c hc; omega
theorem Wt.app {l k : List UInt8} (h : Wt l) (g : Wt k) : Wt (l ++ k) := ⟨by cases l with | nil => exact absurd rfl h.1 | cons c t => simp, fun c hc => (List.mem_append.1 hc).elim (h.2 c) (g.2 c)⟩
theorem sqA_sp (l : List UInt8) : sqA (32 :: l) = sqA l := by rw [sqA, bl_32]; rfl
theorem join_ne {n m : List UInt8} (hn : n ≠ []) (hm : m ≠ []) : join n m = n ++ 32 :: m := by
  unfold join
  rw [if_neg (by simp [hn, hm]), List.append_assoc]
  rfl
theorem sq_row {x y z : List UInt8} (hx : Wt x) (hy : Wt y) (hz : Wt z) : sqA (32 :: (x ++ 9 :: (y ++ 32 :: 32 :: z))) = x ++ 32 :: (y ++ 32 :: z) := by
  rw [sqA_sp, sqA_app _ _ 9 (by decide), sqA_app _ _ 32 (by decide), sqA_sp, hx.sq, hy.sq, hz.sq, join_ne hy.1 hz.1, join_ne hx.1 (by simp)]
theorem idx_no {x : List UInt8} {c : UInt8} (h : c ∉ x) : Lib.index x [c] = -1 := by
  induction x with
  | nil => simp [Lib.index, List.isPrefixOf]
  | cons d x ih =>
    have hp : [c].isPrefixOf (d :: x) = false := by simp [List.isPrefixOf]; exact fun e => h (by rw [e]; simp)
    rw [Lib.index, hp, if_neg (by simp), ih (fun q => h (List.mem_cons_of_mem _ q))]
    rfl
theorem idx_at {x : List UInt8} {c : UInt8} (y : List UInt8) (h : c ∉ x) : Lib.index (x ++ c :: y) [c] = (x.length : Int) := by
  induction x with
  | nil => simp [Lib.index, List.isPrefixOf]
  | cons d x ih =>
    have hp : [c].isPrefixOf (d :: (x ++ c :: y)) = false := by simp [List.isPrefixOf]; exact fun e => h (by rw [e]; simp)
    have ih := ih (fun q => h (List.mem_cons_of_mem _ q))
    have hm : ¬ (Lib.index (x ++ c :: y) [c] == -1) = true := fun e => by have := beq_iff_eq.1 e; omega
    rw [List.cons_append, Lib.index, hp, if_neg (by simp), if_neg hm, ih]
    simp
theorem sp_hit {x r : List UInt8} (k : Nat) (h : (32 : UInt8) ∉ x) : Lib.splitB spS 0 (k + 1) (S (x ++ 32 :: r)) = S x :: Lib.splitB spS 0 k (S r) := by
  have hi : Lib.indexB (S (x ++ 32 :: r)) spS = (x.length : Nat) := by
    show Lib.index (S (x ++ 32 :: r)).data.toList [32] = _
    rw [S_l]
    exact idx_at r h
  rw [Lib.splitB_hit _ _ _ _ _ hi]
  have e1 : (S (x ++ 32 :: r)).extract 0 (x.length + 0) = S x := S_eq _ _ (by rw [take_l, S_l]; simp)
  have e2 : (S (x ++ 32 :: r)).extract (x.length + spS.size) (S (x ++ 32 :: r)).size = S r := S_eq _ _ (by
    rw [drop_l, S_l]
    show List.drop (x.length + 1) (x ++ 32 :: r) = r
    simp [List.drop_append])
  rw [e1, e2]
theorem sp_row {x y z : List UInt8} (hx : Wt x) (hy : Wt y) (hz : Wt z) : spL (S (x ++ 32 :: (y ++ 32 :: z))) = [x, y, z] := by
  have hc : Lib.countB (S (x ++ 32 :: (y ++ 32 :: z))) spS = 2 := by
    show Lib.count (S (x ++ 32 :: (y ++ 32 :: z))).data.toList [32] = 2
    rw [S_l, Lib.count_one, List.count_append, List.count_cons_self, List.count_append, List.count_cons_self, List.count_eq_zero_of_not_mem hx.no32, List.count_eq_zero_of_not_mem hy.no32, List.count_eq_zero_of_not_mem hz.no32]
  unfold spL spP
  rw [hc, sp_hit 1 hx.no32, sp_hit 0 hy.no32, Lib.splitB_zero]
  simp [S_l]
theorem wdOk_wt {n : List UInt8} (h : Wt n) : wdOk n = true := by
  unfold wdOk Lib.contains
  rw [idx_no h.no32]
  cases n
  · exact absurd rfl h.1
  · rfl
theorem wdOk_sp {x y : List UInt8} (h : Wt x) : wdOk (x ++ 32 :: y) = false := by
  unfold wdOk Lib.contains
  rw [idx_at y h.no32, decide_eq_true (Int.natCast_nonneg _)]
  simp
/-- The values that the law makes of three words. -/
def rowV (x y z : List UInt8) : List UInt8 := 32 :: (x.map swp ++ 9 :: (y ++ 32 :: 32 :: z))
theorem fold_cons (c : UInt8) (l : List UInt8) : fold (c :: l) = lo c :: fold l := rfl
theorem fold_rowV {x y z : List UInt8} (hx : Wt x) (hy : Wt y) (hz : Wt z) : fold (rowV x y z) = 32 :: (x ++ 9 :: (y ++ 32 :: 32 :: z)) := by
  unfold rowV
  rw [fold_cons, fold_app, fold_swp, fold_cons, fold_app, fold_cons, fold_cons, hx.fold, hy.fold, hz.fold]
  rfl
theorem rowV_ok {x y z : List UInt8} (hx : Wt x) (hy : Wt y) (hz : Wt z) : exOk (fold (rowV x y z)) = true := by
  rw [fold_rowV hx hy hz]
  refine exOk_asc (by simp) fun c hc => ?_
  simp only [List.mem_cons, List.mem_append] at hc
  rcases hc with rfl | hc | rfl | hc | rfl | rfl | hc
  · decide
  · exact hx.asc c hc
  · decide
  · exact hy.asc c hc
  · decide
  · decide
  · exact hz.asc c hc
theorem tv_row {x y z a n : List UInt8} (hx : Wt x) (hy : Wt y) (hz : Wt z) (ha : exOk (fold a) = true) (hn : sqA (fold a) = n) : wdTv (rowV x y z) a = tvE (wdOk n) (decide (n ∈ [x, y, z])) := by
  unfold wdTv wdIn
  rw [ha, hn, rowV_ok hx hy hz, fold_rowV hx hy hz, sq_row hx hy hz, sp_row hx hy hz]
  simp only [Bool.true_and]
theorem Wt.exOk {l : List UInt8} (h : Wt l) : exOk (TextMath.fold l) = true := by rw [h.fold]; exact exOk_asc h.1 h.asc
theorem ans_x {x y z : List UInt8} (hx : Wt x) (hy : Wt y) (hz : Wt z) : wdTv (rowV x y z) (x ++ [32]) = .int .i64 2 := by
  have hf : fold (x ++ [32]) = x ++ [32] := by rw [fold_app, hx.fold]; rfl
  rw [tv_row hx hy hz (n := x) (by
    rw [hf]
    refine exOk_asc (by simp) fun c hc => ?_
    rcases List.mem_append.1 hc with hc | hc
    · exact hx.asc c hc
    · rw [List.mem_singleton.1 hc]; decide) (by
    rw [hf, sqA_app x [] 32 (by decide), hx.sq]
    unfold join
    simp [sqA]), wdOk_wt hx]
  simp [tvE]
theorem ans_y {x y z : List UInt8} (hx : Wt x) (hy : Wt y) (hz : Wt z) : wdTv (rowV x y z) (y.map swp) = .int .i64 2 := by
  rw [tv_row hx hy hz (n := y) (by rw [fold_swp]; exact hy.exOk) (by rw [fold_swp, hy.fold, hy.sq]), wdOk_wt hy]
  simp [tvE]
theorem ans_z {x y z : List UInt8} (hx : Wt x) (hy : Wt y) (hz : Wt z) : wdTv (rowV x y z) z = .int .i64 2 := by
  rw [tv_row hx hy hz (n := z) hz.exOk (by rw [hz.fold, hz.sq]), wdOk_wt hz]
  simp [tvE]
theorem ans_w {x y z : List UInt8} (hx : Wt x) (hy : Wt y) (hz : Wt z) : wdTv (rowV x y z) (x ++ y) = .int .i64 (if decide (x ++ y = x) || (decide (x ++ y = y) || decide (x ++ y = z)) then 2 else 0) := by
  have hw := hx.app hy
  rw [tv_row hx hy hz (n := x ++ y) hw.exOk (by rw [hw.fold, hw.sq]), wdOk_wt hw]
  have e : decide (x ++ y ∈ [x, y, z]) = (decide (x ++ y = x) || (decide (x ++ y = y) || decide (x ++ y = z))) := by
    rw [Bool.eq_iff_iff]; simp only [List.mem_cons, List.not_mem_nil, or_false, decide_eq_true_eq, Bool.or_eq_true]
  rw [e]
  unfold tvE
  rw [if_pos rfl]
  split <;> rfl
theorem ans_xy {x y z : List UInt8} (hx : Wt x) (hy : Wt y) (hz : Wt z) : wdTv (rowV x y z) (x ++ 32 :: y) = .int .i64 1 := by
  have hf : fold (x ++ 32 :: y) = x ++ 32 :: y := by rw [fold_app, fold_cons, hx.fold, hy.fold]; rfl
  rw [tv_row hx hy hz (n := x ++ 32 :: y) (by
    rw [hf]
    refine exOk_asc (by simp) fun c hc => ?_
    rcases List.mem_append.1 hc with hc | hc
    · exact hx.asc c hc
    · rcases List.mem_cons.1 hc with rfl | hc
      · decide
      · exact hy.asc c hc) (by rw [hf, sqA_app x y 32 (by decide), hx.sq, hy.sq, join_ne hx.1 hy.1]), wdOk_sp hx]
  rfl
theorem ans_sp {x y z : List UInt8} (hx : Wt x) (hy : Wt y) (hz : Wt z) : wdTv (rowV x y z) [32, 32] = .int .i64 1 := by
  rw [tv_row hx hy hz (n := []) (by decide +kernel) (by decide +kernel)]
  rfl
theorem ans_no {x : List UInt8} (hx : Wt x) : wdTv [] x = .int .i64 0 := by
  unfold wdTv
  rw [hx.exOk, hx.fold, hx.sq, wdOk_wt hx, show exOk (fold []) = false from rfl]
  rfl
end Wd
end Go.Proofs.YtkecaeceeldcaaaGreatDoor
