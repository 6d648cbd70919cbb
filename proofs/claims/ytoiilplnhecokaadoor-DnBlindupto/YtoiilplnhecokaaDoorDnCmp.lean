import Derived.Test.YtoiilplnhecokaaDoorDnRow
namespace Go.Proofs.YtoiilplnhecokaaDoor
open Go.RowKit
open DnMath (Tot lx tb tt ck tb_tot tt_tot ck_tot less_tt lx_front lx_between)
set_option linter.unusedVariables false

theorem toList_S (x : List UInt8) : (S x).toList = x := by rw [Lib.toList_data, S_l]
theorem ck_step (l k : List (List UInt8)) (i : Nat) (h1 : i < l.length) (h2 : i < k.length) : ck (l.drop i) (k.drop i) = if tt l[i] k[i] = 0 then ck (l.drop (i + 1)) (k.drop (i + 1)) else tt l[i] k[i] := by
  rw [List.drop_eq_getElem_cons h1, List.drop_eq_getElem_cons h2]
  rfl

end Go.Proofs.YtoiilplnhecokaaDoor
