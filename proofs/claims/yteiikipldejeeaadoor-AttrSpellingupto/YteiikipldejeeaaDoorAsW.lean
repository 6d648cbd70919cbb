import Derived.Test.YteiikipldejeeaaDoorAsW1
import Derived.Test.YteiikipldejeeaaDoorAsW2
import Derived.Test.YteiikipldejeeaaDoorAsW3
namespace Go.Proofs.YteiikipldejeeaaDoor
open Go.RowKit
open TextMath (fold lo)

theorem attrSpelling_walk (which : Int) (ua : Option Addr) (un uc : Nat) (U : Nat → Bool) (a : Option Addr) (n c : Nat) (X : Nat → ByteArray) (w : World) (hU : Boos w ua un U) (hX : Strs w a n X) (hsz : totM X n ≤ 1048576) (hS : SupTab w) (hY : SynTab w) (hN : NumT3 w) (hK : KnT3 w) :
    Calls Tryd.prog 3 #[.int .i64 which, .slice ua un uc, .slice a n c] w fun e w' => e = .returned (.bool true) ∧ Below w.heap.size w w' := by
  by_cases h1 : which < 0
  · exact spell_low which ua un uc U a n c X w hU hX hsz hS hY hN hK h1
  · by_cases h2 : which ≥ 10
    · exact spell_high which ua un uc U a n c X w hU hX hsz hS hY hN hK h1 h2
    · obtain ⟨K, rfl⟩ : ∃ K : Nat, which = (K : Int) := ⟨which.toNat, by omega⟩
      exact spell_in K ua un uc U a n c X w hU hX hsz hS hY hN hK (by omega)
end Go.Proofs.YteiikipldejeeaaDoor
