import Derived.Test.YtkecaeceeldcaaaGreatDoorNormMath
namespace Go.Proofs.YtkecaeceeldcaaaGreatDoor
open TextMath (fold lo)

theorem setTo (l : List UInt8) (k : Nat) (h : k < l.length) : ((l.take k).map lo ++ l.drop k).set k (lo l[k]) = (l.take (k + 1)).map lo ++ l.drop (k + 1) := by
  rw [List.take_succ_eq_append_getElem h, List.set_append, if_neg (by simp; omega)]
  have e : k - (List.map lo (l.take k)).length = 0 := by simp; omega
  rw [e, List.drop_eq_getElem_cons h]
  simp only [List.set_cons_zero, List.map_append, List.map_cons, List.map_nil, List.append_assoc, List.cons_append, List.nil_append]
theorem keepTo (l : List UInt8) (k : Nat) (h : k < l.length) (e : lo l[k] = l[k]) : (l.take (k + 1)).map lo ++ l.drop (k + 1) = (l.take k).map lo ++ l.drop k := by
  rw [List.take_succ_eq_append_getElem h, List.drop_eq_getElem_cons h]
  simp only [List.map_append, List.map_cons, List.map_nil, List.append_assoc, List.cons_append, List.nil_append, e]
theorem getTo (l : List UInt8) (k : Nat) (h : k < l.length) (hh : k < ((l.take k).map lo ++ l.drop k).length) : ((l.take k).map lo ++ l.drop k)[k] = l[k] := by
  have e : (List.map lo (l.take k)).length = k := by simp; omega
  rw [List.getElem_append_right (by omega)]
  simp only [e, Nat.sub_self, List.getElem_drop, Nat.add_zero]
theorem lenTo (l : List UInt8) (k : Nat) (h : k ≤ l.length) : ((l.take k).map lo ++ l.drop k).length = l.length := by simp; omega
theorem lo_big (c : UInt8) (h1 : (65 : Int) ≤ c.toNat) (h2 : (c.toNat : Int) ≤ 90) : ((lo c).toNat : Int) = c.toNat + 32 := by
  rw [TextMath.lo_toNat, if_pos (by omega)]; omega
theorem lo_small (c : UInt8) (h : ¬ ((65 : Int) ≤ c.toNat ∧ (c.toNat : Int) ≤ 90)) : lo c = c := by
  unfold lo; rw [if_neg (by omega)]

theorem fold_snoc (l : List UInt8) (k : Nat) (h : k < l.length) : fold (l.take (k + 1)) = fold (l.take k) ++ [lo l[k]] := by
  rw [List.take_succ_eq_append_getElem h]; simp only [fold, List.map_append, List.map_cons, List.map_nil]
theorem fold_len (l : List UInt8) : (fold l).length = l.length := by simp [fold]
end Go.Proofs.YtkecaeceeldcaaaGreatDoor
