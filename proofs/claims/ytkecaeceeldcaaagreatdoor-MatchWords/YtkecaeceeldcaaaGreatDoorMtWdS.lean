import Derived.Test.YtkecaeceeldcaaaGreatDoorMtFldM
namespace Go.Proofs.YtkecaeceeldcaaaGreatDoor
open MtFldM (swp)

theorem setF (f : UInt8 → UInt8) (l : List UInt8) (k : Nat) (h : k < l.length) : ((l.take k).map f ++ l.drop k).set k (f l[k]) = (l.take (k + 1)).map f ++ l.drop (k + 1) := by
  rw [List.take_succ_eq_append_getElem h, List.set_append, if_neg (by simp; omega)]
  have e : k - (List.map f (l.take k)).length = 0 := by simp; omega
  rw [e, List.drop_eq_getElem_cons h]
  simp only [List.set_cons_zero, List.map_append, List.map_cons, List.map_nil, List.append_assoc, List.cons_append, List.nil_append]
theorem keepF (f : UInt8 → UInt8) (l : List UInt8) (k : Nat) (h : k < l.length) (e : f l[k] = l[k]) : (l.take (k + 1)).map f ++ l.drop (k + 1) = (l.take k).map f ++ l.drop k := by
  rw [List.take_succ_eq_append_getElem h, List.drop_eq_getElem_cons h]
  simp only [List.map_append, List.map_cons, List.map_nil, List.append_assoc, List.cons_append, List.nil_append, e]
theorem getF (f : UInt8 → UInt8) (l : List UInt8) (k : Nat) (h : k < l.length) (hh : k < ((l.take k).map f ++ l.drop k).length) : ((l.take k).map f ++ l.drop k)[k] = l[k] := by
  have e : (List.map f (l.take k)).length = k := by simp; omega
  rw [List.getElem_append_right (by omega)]
  simp only [e, Nat.sub_self, List.getElem_drop, Nat.add_zero]
theorem lenF (f : UInt8 → UInt8) (l : List UInt8) (k : Nat) (h : k ≤ l.length) : ((l.take k).map f ++ l.drop k).length = l.length := by simp; omega
theorem swp_small (c : UInt8) (h : (97 : Int) ≤ c.toNat ∧ (c.toNat : Int) ≤ 122) : ((swp c).toNat : Int) = c.toNat - 32 := by
  have : ∀ n : Fin 256, 97 ≤ (UInt8.ofNat n.val).toNat ∧ (UInt8.ofNat n.val).toNat ≤ 122 → (swp (UInt8.ofNat n.val)).toNat = (UInt8.ofNat n.val).toNat - 32 := by decide +kernel
  have := this ⟨c.toNat, c.toNat_lt⟩
  have e : UInt8.ofNat c.toNat = c := by simp
  rw [e] at this
  have := this (by omega)
  omega
theorem swp_big (c : UInt8) (h : (65 : Int) ≤ c.toNat ∧ (c.toNat : Int) ≤ 90) : ((swp c).toNat : Int) = c.toNat + 32 := by
  have : ∀ n : Fin 256, 65 ≤ (UInt8.ofNat n.val).toNat ∧ (UInt8.ofNat n.val).toNat ≤ 90 → (swp (UInt8.ofNat n.val)).toNat = (UInt8.ofNat n.val).toNat + 32 := by decide +kernel
  have := this ⟨c.toNat, c.toNat_lt⟩
  have e : UInt8.ofNat c.toNat = c := by simp
  rw [e] at this
  have := this (by omega)
  omega
theorem swp_keep (c : UInt8) (h1 : ¬ ((97 : Int) ≤ c.toNat ∧ (c.toNat : Int) ≤ 122)) (h2 : ¬ ((65 : Int) ≤ c.toNat ∧ (c.toNat : Int) ≤ 90)) : swp c = c := by
  unfold swp
  rw [if_neg (by omega), if_neg (by omega)]
end Go.Proofs.YtkecaeceeldcaaaGreatDoor
