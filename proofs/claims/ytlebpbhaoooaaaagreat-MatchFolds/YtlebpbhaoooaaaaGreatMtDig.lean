import Derived.Test.YtlebpbhaoooaaaaGreatMtEqO
import Derived.Test.YtlebpbhaoooaaaaGreatBytes
import Derived.Test.YtlebpbhaoooaaaaGreatAtShelf
namespace Go.Proofs.YtlebpbhaoooaaaaGreat
open Go.RowKit
set_option linter.unusedVariables false

/-- Digits alone. -/
def dig (l : List UInt8) : Prop := ∀ c ∈ l, 48 ≤ c.toNat ∧ c.toNat ≤ 57
/-- A text's bytes as digits. -/
def dgT (c : UInt8) : UInt8 := 48 + c % 10
theorem dgT_val (c : UInt8) : (dgT c).toNat = 48 + c.toNat % 10 := by
  unfold dgT
  rw [UInt8.toNat_add, UInt8.toNat_mod]
  show (48 + c.toNat % 10) % 256 = _
  omega
theorem dgT_dig (l : List UInt8) : dig (l.map dgT) := by
  intro c hc
  obtain ⟨x, _, rfl⟩ := List.mem_map.1 hc
  rw [dgT_val]
  omega
theorem dig_app {a b : List UInt8} (ha : dig a) (hb : dig b) : dig (a ++ b) := fun c hc => by
  rcases List.mem_append.1 hc with h | h
  · exact ha c h
  · exact hb c h
theorem dig_cons {c : UInt8} {l : List UInt8} (h : 48 ≤ c.toNat ∧ c.toNat ≤ 57) (hl : dig l) : dig (c :: l) := fun x hx => by
  rcases List.mem_cons.1 hx with rfl | hx
  · exact h
  · exact hl x hx
theorem S_app (l m : List UInt8) : S l ++ S m = S (l ++ m) := by refine S_eq _ _ ?_; rw [app_l, S_l, S_l]
theorem truth_any (b : Bool) (w : World) : Calls Tryz.prog 6 #[.bool b] w fun e w' => e = .returned (.int .i64 (if b then 2 else 0)) ∧ w' = w := by
  cases b
  · go_enter Tryz.func6, Tryz.ntmps6
    go_wp2_with fail
    go_ret
    exact ⟨rfl, rfl⟩
  · go_enter Tryz.func6, Tryz.ntmps6
    go_wp2_with fail
    go_ret
    exact ⟨rfl, rfl⟩
theorem toL_S (x : List UInt8) : (S x).toList = x := by rw [Lib.toList_data, S_l]
theorem dgT_int (c : UInt8) : (48 + (c.toNat : Int) % 10) = ((dgT c).toNat : Int) := by rw [dgT_val]; omega
theorem one_backT (w : World) (c : UInt8) : (convert 35 9 (.slice (some ⟨w.heap.size, 0, none⟩) 1 1)).run Tryz.prog (w.alloc (.cells #[.int .u8 (48 + (c.toNat : Int) % 10)] 5)) = .ok (.string (S [dgT c])) (w.alloc (.cells #[.int .u8 (48 + (c.toNat : Int) % 10)] 5)) := by
  rw [dgT_int]
  refine conv_back (P := Tryz.prog) _ _ _ _ w.heap.size 1 1 [dgT c] Tryz.underlying35 Tryz.underlying5 Tryz.underlying9 rfl ?_
  intro j hj
  have : j = 0 := by simp at hj; omega
  subst this
  simp [go_sem]
end Go.Proofs.YtlebpbhaoooaaaaGreat
