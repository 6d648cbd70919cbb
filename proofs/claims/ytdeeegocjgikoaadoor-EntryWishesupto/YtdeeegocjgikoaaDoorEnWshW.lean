import Derived.Test.YtdeeegocjgikoaaDoorEnWsh
namespace Go.Proofs.YtdeeegocjgikoaaDoor
open Go.RowKit
set_option linter.unusedVariables false

set_option maxRecDepth 100000 in
set_option maxHeartbeats 2000000 in
theorem entryWishes_walk (A B : List (List UInt8)) (aa ba : Option Addr) (ac bc : Nat) (ln : Int) (nm : ByteArray) (kl : List (List UInt8)) (ka : Option Addr) (kc : Nat) (xs : List Atr) (a : Option Addr) (c : Nat) (w : World) (hAl : A.length ≤ 1048576) (hBl : B.length ≤ 1048576) (hAz : ∀ t ∈ A, t.length ≤ 1048576) (hBz : ∀ t ∈ B, t.length ≤ 1048576) (hc : xs.length ≤ c) (hkl : kl.length ≤ 1048576) (hn : xs.length ≤ 1048576) (hl : ∀ x ∈ xs, x.l.length ≤ 1048576) (hx : ∀ x ∈ xs, x.c.length ≤ 1048576) (hrA : Row w aa A) (hrB : Row w ba B) (hk : Row w ka kl) (h : ARow w a xs) (hS : SupTab w) (hT : NumT3 w) :
    Calls Tryd.prog 3 #[.agg #[.int .i64 ln, .string nm, .slice ka kl.length kc, .slice a xs.length c], .slice aa A.length ac, .slice ba B.length bc] w fun e w' => e = .returned (.bool true) ∧ Below w.heap.size w w' := by
  by_cases hA : A = []
  · subst hA
    clear hAl hBl hAz hBz hrA hrB hk h hS hT hl hx hn hkl hc
    go_enter Tryd.func3, Tryd.ntmps3
    go_wp2_with fail
    go_ret
    exact ⟨rfl, (Below.refl _ _).alloc (Nat.le_refl _) _⟩
  · by_cases hB : B = []
    · subst hB
      have hlA := len_ne hA
      clear hAl hBl hAz hBz hrA hrB hk h hS hT hl hx hn hkl hc hA
      go_enter Tryd.func3, Tryd.ntmps3
      go_wp2_with fail
      go_ret
      exact ⟨rfl, (Below.refl _ _).alloc (Nat.le_refl _) _⟩
    · exact entryWishes_core A B aa ba ac bc ln nm kl ka kc xs a c w hA hB hAl hBl hAz hBz hc hkl hn hl hx hrA hrB hk h hS hT
end Go.Proofs.YtdeeegocjgikoaaDoor
