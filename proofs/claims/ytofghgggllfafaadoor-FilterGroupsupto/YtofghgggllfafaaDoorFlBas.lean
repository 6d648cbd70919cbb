import Derived.Test.YtofghgggllfafaaDoorFlOwn
namespace Go.Proofs.YtofghgggllfafaaDoor
open Go.RowKit
set_option linter.unusedVariables false

theorem box_nine {W : World} {g : Nat} {t : TypeId} {x : Nod} (h : Box W g t (nA x)) : W.cell? ⟨g, 0, none⟩ = some (.int .i64 x.dep) ∧ W.cell? ⟨g, 1, none⟩ = some (.int .i64 x.op) ∧ W.cell? ⟨g, 2, none⟩ = some (.string (S x.desc)) ∧ W.cell? ⟨g, 3, none⟩ = some (.string (S x.val)) ∧ W.cell? ⟨g, 4, none⟩ = some (.string (S x.ini)) ∧ W.cell? ⟨g, 5, none⟩ = some (.slice x.a x.l.length x.n) ∧ W.cell? ⟨g, 6, none⟩ = some (.string (S x.fin)) ∧ W.cell? ⟨g, 7, none⟩ = some (.string (S x.rule)) ∧ W.cell? ⟨g, 8, none⟩ = some (.bool x.dn) :=
  ⟨(h.cell 0 (by simp)).1, (h.cell 1 (by simp)).1, (h.cell 2 (by simp)).1, (h.cell 3 (by simp)).1, (h.cell 4 (by simp)).1, (h.cell 5 (by simp)).1, (h.cell 6 (by simp)).1, (h.cell 7 (by simp)).1, (h.cell 8 (by simp)).1⟩
theorem drewN_below (W : World) (B q : Nat) : Below B W (W.drewN q) := ⟨rfl, rfl, rfl, Nat.le_refl _, fun _ _ => rfl⟩
theorem toList_S (x : List UInt8) : (S x).toList = x := by rw [Lib.toList_data, S_l]
theorem take_step {l k : List (List UInt8)} {i : Nat} (h : l.take i = k.take i) (h1 : i < l.length) (h2 : i < k.length) (e : l[i] = k[i]) : l.take (i + 1) = k.take (i + 1) := by
  rw [List.take_succ_eq_append_getElem h1, List.take_succ_eq_append_getElem h2, h, e]
theorem ne_at {l k : List (List UInt8)} {i : Nat} (h1 : i < l.length) (h2 : i < k.length) (e : ¬ l[i] = k[i]) : ¬ l = k := by
  intro q; subst q; exact e rfl
theorem whole_eq {l k : List (List UInt8)} (h : l.take l.length = k.take l.length) (e : l.length = k.length) : l = k := by
  rw [List.take_length, e, List.take_length] at h
  exact h
theorem str_ne {x y : List UInt8} (h : ¬ x = y) : ((S x).toList == (S y).toList) = false := by
  rw [toList_S, toList_S]
  simp [h]

end Go.Proofs.YtofghgggllfafaaDoor
