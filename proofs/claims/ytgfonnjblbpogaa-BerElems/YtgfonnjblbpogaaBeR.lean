import Derived.Test.YtgfonnjblbpogaaBrW
namespace Go.Proofs.Ytgfonnjblbpogaa
open Go.RowKit BnI
open BerMath (Hd HR num hAt wAt El TR elEnd endE one andThen kids)
set_option linter.unusedVariables false
namespace BrM
theorem pv_at (l : List El) (i : Nat) (hi : i < l.length) (j : Nat) (hj : j < 6) : (pv l)[i * 6 + j]? = (plV l[i])[j]? := by
  induction l generalizing i with
  | nil => simp at hi
  | cons x l ih =>
    cases i with
    | zero =>
      show (plV x ++ pv l)[0 * 6 + j]? = _
      rw [List.getElem?_append_left (by simp [plV]; omega)]
      simp
    | succ i =>
      show (plV x ++ pv l)[(i + 1) * 6 + j]? = _
      have e : (i + 1) * 6 + j = (plV x).length + (i * 6 + j) := by simp [plV]; omega
      rw [e, List.getElem?_append_right (by omega), Nat.add_sub_cancel_left, ih i (by simpa using hi)]
      rfl
theorem w_up1 (i : Nat) (h : i ≤ 281474976710656) : wrap64 ((i : Int) + 1) = (i : Int) + 1 := by unfold wrap64; omega
theorem meas_up (k i : Nat) (h : i < k) : k - (intOf (.int .i64 ((i : Int) + 1))).toNat < k - (intOf (.int .i64 (i : Int))).toNat := by
  simp [intOf]
  omega
def PRow (w : World) (a : Option Addr) (l : List El) : Prop := ∀ i (hi : i < l.length), ∃ b, a = some ⟨b, 0, none⟩ ∧ ∀ j v, (plV l[i])[j]? = some v → w.cell? ⟨b, i * 6 + j, none⟩ = some v
theorem ownP_any {w : World} {B : Nat} {v : Value} {l : List El} (h : OwnP w B v l) : ∃ a c, v = .slice a l.length c ∧ PRow w a l := by
  have h0 := h
  rcases h.2 with ⟨rfl, hn⟩ | ⟨g, cap, cur, rfl, _⟩
  · have hl : l = [] := List.eq_nil_of_length_eq_zero hn
    subst hl
    exact ⟨none, 0, rfl, fun i hi => by simp at hi⟩
  · refine ⟨_, _, rfl, fun i hi => ⟨g, rfl, fun j u hj => ?_⟩⟩
    have hj6 : j < 6 := by
      rcases Nat.lt_or_ge j 6 with q | q
      · exact q
      · rw [List.getElem?_eq_none (by simp [plV]; omega)] at hj; cases hj
    have hc := World.ownsRow.cellAt (show w.ownsRow B 31 6 _ l.length (pv l) from h0) (i * 6 + j) (by omega)
    rw [hc, pv_at l i hi j hj6]
    exact hj
theorem PRow.below {w w' : World} {a : Option Addr} {l : List El} (h : PRow w a l) (hb : Below w.heap.size w w') : PRow w' a l := fun i hi => by
  obtain ⟨b, e, hc⟩ := h i hi
  refine ⟨b, e, fun j v hv => ?_⟩
  have h1 := hc j v hv
  rw [hb.cell (World.block_lt_of_cell? w _ h1)]
  exact h1
theorem relems_any (s : ByteArray) (w : World) (hm : s.size ≤ 140737488355328) :
    Calls Try.prog 8 #[.string s] w fun r w' => ∃ lv, r = .returned lv ∧ OwnP w' w.heap.size lv (tr s).1 ∧ Below w.heap.size w w' := by
  have HW : Hid (Calls Try.prog 28 #[.string s] w fun r w' => WkQ s w.heap.size r w' ∧ Below w.heap.size w w') := rwalk_any s w hm
  go_enter Try.func8, Try.ntmps8
  go_wp2_with fail
  refine HW.out.mono ?_
  rintro r w1 ⟨⟨lv, dv, c, q, rfl, ho, _, _⟩, hb⟩
  clear HW
  go_wp2_with fail
  go_ret
  exact ⟨lv, rfl, ho, hb⟩
end BrM
end Go.Proofs.Ytgfonnjblbpogaa
