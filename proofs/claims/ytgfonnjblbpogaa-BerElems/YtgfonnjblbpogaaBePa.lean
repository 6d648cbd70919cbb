import Derived.Test.YtgfonnjblbpogaaBeE
namespace Go.Proofs.Ytgfonnjblbpogaa
open Go.RowKit Go.Shelf
open BerMath (Hd HR num hAt wAt El TR elEnd endE one andThen kids)
set_option linter.unusedVariables false

theorem elems_any (s : ByteArray) (w : World) : Calls Try.prog 9 #[.string s] w fun r w' => r = .returned (.func (.func 29) #[] #[.pointer (some ⟨w.heap.size, 0, none⟩)]) ∧ w' = w.alloc (.cells #[.string s] 9) := by
  have hmf : ∀ (fn : Fn) (first cap : Array Value) (w : World), (Instr.makeFunc fn first cap).run Try.prog w = .ok (.func fn first cap) w := fun _ _ _ _ => rfl
  go_enter Try.func9, Try.ntmps9
  go_wp2_with fail
  go_ret
  exact ⟨rfl, rfl⟩
theorem nilq_at (d : Nat) (v : Array Value) (W : World) : (Op.equalIn (d + 1) 25 (.func (.func 29) #[] v) .nilFunc).run Try.prog W = .ok false W := by
  simp [Op.equalIn, run_underlying Try.underlying25]
theorem nilq_eq (v : Array Value) (W : World) : (Op.equal 25 (.func (.func 29) #[] v) .nilFunc).run Try.prog W = .ok false W := nilq_at 9999 v W
theorem nil_seq (v : Array Value) (W : World) : (binOp .eql 25 (.func (.func 29) #[] v) .nilFunc).run Try.prog W = .ok (.bool false) W := by
  simp only [binOp]
  simp [nilq_eq v W]
theorem wp_one (m : Nat) (h : m ≤ 4294967296) : wrap64 ((m : Int) + 1) = ((m + 1 : Nat) : Int) := by unfold wrap64; omega
theorem wp_sum (a b : Nat) (h : a + b ≤ 4294967296) : wrap64 ((a : Int) + (b : Int)) = ((a + b : Nat) : Int) := by unfold wrap64; omega
theorem kv_set {W : World} {b : Nat} {v u : Value} (hb : Boxed W b 3 v) : KV W (W.setCell ⟨b, 0, none⟩ u) :=
  ⟨by rw [World.size_setCell]; exact Nat.le_refl _, fun k cs t ht hk => by
    refine (Below.heap_setCell _ _ _ _ (fun e => ?_)).trans hk
    have e' : k = b := e
    subst e'
    rw [show W.heap[k]? = _ from hb] at hk
    injection hk with hk
    injection hk with _ hk
    exact ht hk.symm⟩
end Go.Proofs.Ytgfonnjblbpogaa
