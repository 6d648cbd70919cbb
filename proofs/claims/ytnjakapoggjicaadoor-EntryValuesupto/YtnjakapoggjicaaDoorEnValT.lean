import Derived.Test.YtnjakapoggjicaaDoorEnB
import Derived.Test.YtnjakapoggjicaaDoorRfCovs
namespace Go.Proofs.YtnjakapoggjicaaDoor
open Go.RowKit
set_option linter.unusedVariables false

theorem covH_attr (D : ByteArray) (w : World) (hD : D.size ≤ 1048576) (hS : SupTab w) : CovH 13 D (fun c => covB (S (TextMath.fold D.data.toList)) (S (TextMath.fold c))) w := fun W hW c hc => by
  have hz : (S c).size = c.length := by rw [← size_l, S_l]
  have h := covers_any D (S c) _ _ rfl rfl W (by omega) (by omega) (hS.below hW)
  rw [S_l] at h
  exact h
theorem covH_ref (D : ByteArray) (w : World) (hD : D.size ≤ 1048576) (hK : KndTab w) : CovH 16 D (fun c => covB (S (TextMath.fold D.data.toList)) (S (TextMath.fold c))) w := fun W hW c hc => by
  have hz : (S c).size = c.length := by rw [← size_l, S_l]
  have h := coversR_any D (S c) _ _ rfl rfl W (by omega) (by omega) (hK.below hW)
  rw [S_l] at h
  exact h
theorem entryValues_walk (D : ByteArray) (ln : Int) (nm : ByteArray) (kl : List (List UInt8)) (ka : Option Addr) (kc : Nat) (xs : List Atr) (a : Option Addr) (c : Nat) (w : World) (hD : D.size ≤ 1048576) (hkl : kl.length ≤ 1048576) (hn : xs.length ≤ 1048576) (hl : ∀ x ∈ xs, x.l.length ≤ 1048576) (hx : ∀ x ∈ xs, x.c.length ≤ 1048576) (hp : (prs xs).length ≤ 1048576) (hk : Row w ka kl) (h : ARow w a xs) (hK : KndTab w) (hS : SupTab w) :
    Calls Tryd.prog 3 #[.agg #[.int .i64 ln, .string nm, .slice ka kl.length kc, .slice a xs.length c], .string D] w fun e w' => e = .returned (.bool true) ∧ Below w.heap.size w w' :=
  entryValues_core D _ ln nm kl ka kc xs a c w hkl hn hl hx hp hk h (covH_attr D w hD hS) (covH_ref D w hD hK)
end Go.Proofs.YtnjakapoggjicaaDoor
