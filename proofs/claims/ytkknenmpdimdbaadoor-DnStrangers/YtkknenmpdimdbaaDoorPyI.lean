import Derived.Test.YtkknenmpdimdbaaDoorDnRow
import Derived.Lib.AppendZeros
namespace Go.Proofs.YtkknenmpdimdbaaDoor
open Go.RowKit
open DnMath (Tot lx tb tt ck tb_tot tt_tot ck_tot less_tt lx_front lx_between)
set_option linter.unusedVariables false

theorem toList_S (x : List UInt8) : (S x).toList = x := by rw [Lib.toList_data, S_l]
theorem ck_step (l k : List (List UInt8)) (i : Nat) (h1 : i < l.length) (h2 : i < k.length) : ck (l.drop i) (k.drop i) = if tt l[i] k[i] = 0 then ck (l.drop (i + 1)) (k.drop (i + 1)) else tt l[i] k[i] := by
  rw [List.drop_eq_getElem_cons h1, List.drop_eq_getElem_cons h2]
  rfl

end Go.Proofs.YtkknenmpdimdbaaDoor

namespace Go.Proofs.YtkknenmpdimdbaaDoor
open Go.RowKit
open DnMath (Tot lx tb tt ck tb_tot tt_tot ck_tot less_tt lx_front lx_between)
set_option linter.unusedVariables false

theorem take_step {l k : List (List UInt8)} {i : Nat} (h : l.take i = k.take i) (h1 : i < l.length) (h2 : i < k.length) (e : l[i] = k[i]) : l.take (i + 1) = k.take (i + 1) := by
  rw [List.take_succ_eq_append_getElem h1, List.take_succ_eq_append_getElem h2, h, e]
theorem ne_at {l k : List (List UInt8)} {i : Nat} (h1 : i < l.length) (h2 : i < k.length) (e : ¬ l[i] = k[i]) : ¬ l = k := by
  intro q; subst q; exact e rfl
theorem not_front {l k : List (List UInt8)} {i : Nat} (h1 : i < l.length) (h2 : i < k.length) (e : ¬ l[i] = k[i]) : ¬ l <+: k := by
  rintro ⟨r, rfl⟩
  exact e (by rw [List.getElem_append_left h1])
theorem whole_eq {l k : List (List UInt8)} (h : l.take l.length = k.take l.length) (e : l.length = k.length) : l = k := by
  rw [List.take_length, e, List.take_length] at h
  exact h
theorem whole_front {l k : List (List UInt8)} (h : l.take l.length = k.take l.length) : l <+: k := by
  rw [List.take_length] at h
  rw [h]
  exact List.take_prefix _ _
theorem str_ne {x y : List UInt8} (h : ¬ x = y) : ((S x).toList == (S y).toList) = false := by
  rw [toList_S, toList_S]
  simp [h]

end Go.Proofs.YtkknenmpdimdbaaDoor

namespace Go.Proofs.YtkknenmpdimdbaaDoor
open Go.RowKit
open DnMath (Tot lx tb tt ck tb_tot tt_tot ck_tot less_tt lx_front lx_between)
set_option linter.unusedVariables false

/-- The mark behind a copy. -/
def spr : List UInt8 := [115, 112, 97, 114, 101, 32, 114, 111, 111, 109]
/-- A list that has just been laid, without a text in it. -/
theorem own_empty (w : World) : OwnS (w.alloc (.cells #[] 9)) w.heap.size (.slice (some ⟨w.heap.size, 0, none⟩) 0 0) [] :=
  ⟨rfl, Or.inr ⟨w.heap.size, 0, #[], rfl, Nat.le_refl _, heap_alloc_new w _, Nat.le_refl _, by unfold maxLen; omega, rfl, rfl⟩⟩

end Go.Proofs.YtkknenmpdimdbaaDoor
