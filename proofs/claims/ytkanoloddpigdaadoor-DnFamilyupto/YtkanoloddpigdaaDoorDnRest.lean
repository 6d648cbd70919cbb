import Derived.Test.YtkanoloddpigdaaDoorDnSame
import Derived.Lib.AppendZeros
namespace Go.Proofs.YtkanoloddpigdaaDoor
open Go.RowKit
open DnMath (Tot lx tb tt ck tb_tot tt_tot ck_tot less_tt lx_front lx_between)
set_option linter.unusedVariables false

set_option maxHeartbeats 400000 in
theorem dnWithin_any (l k : List (List UInt8)) (a b : Option Addr) (c d : Nat) (w : World) (hl : l.length ≤ 9223372036854775807) (hk : k.length ≤ 9223372036854775807) (hd : k.length ≤ d) (h1 : Row w a l) (h2 : Row w b k) :
    Calls Tryd.prog 10 #[.slice a l.length c, .slice b k.length d] w fun e w' => e = .returned (.bool (decide (l <+: k))) ∧ ∃ q, w' = w.drewN q := by
  by_cases hlen : l.length ≤ k.length
  · have hp : decide (l = k.take l.length) = decide (l <+: k) := decide_eq_decide.2 List.prefix_iff_eq_take.symm
    have hkl : (k.take l.length).length = l.length := by rw [List.length_take]; omega
    have hr : Row w b (k.take l.length) := Row.front (k := k.drop l.length) (by rw [List.take_append_drop]; exact h2)
    have hc := slicesEqual_any l (k.take l.length) a b c d w hl (by omega) h1 hr
    rw [hkl, hp] at hc
    have hb0 : (l.length : Int) ≤ (k.length : Int) := Int.ofNat_le.2 hlen
    have n0 : (0 : Int) ≤ (l.length : Int) := Int.natCast_nonneg _
    have n1 : l.length ≤ d := by omega
    clear hp hkl hr
    go_enter Tryd.func10, Tryd.ntmps10
    go_wp2_with (refine hc.mono ?_; rintro e w' ⟨rfl, q, rfl⟩)
    go_ret
    exact ⟨rfl, q, rfl⟩
  · have hno : Hid (¬ l <+: k) := fun q => hlen q.length_le
    have hb0 : ¬ (l.length : Int) ≤ (k.length : Int) := by omega
    clear hlen h1 h2
    go_enter Tryd.func10, Tryd.ntmps10
    go_wp2_with fail
    go_ret
    exact ⟨by rw [decide_eq_false hno.out]; rfl, 0, rfl⟩

/-- The mark behind a copy. -/
def spr : List UInt8 := [115, 112, 97, 114, 101, 32, 114, 111, 111, 109]
/-- A list that has just been laid, without a text in it. -/
theorem own_empty (w : World) : OwnS (w.alloc (.cells #[] 9)) w.heap.size (.slice (some ⟨w.heap.size, 0, none⟩) 0 0) [] :=
  ⟨rfl, Or.inr ⟨w.heap.size, 0, #[], rfl, Nat.le_refl _, heap_alloc_new w _, Nat.le_refl _, by unfold maxLen; omega, rfl, rfl⟩⟩

end Go.Proofs.YtkanoloddpigdaaDoor
