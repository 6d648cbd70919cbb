import Derived.Test.YtcmdmkajpbhcaaaDoorAkB
import Derived.Test.YtcmdmkajpbhcaaaDoorAtFindX
import Derived.Test.YtcmdmkajpbhcaaaDoorAtParse
import Derived.Test.YtcmdmkajpbhcaaaDoorRfSyn
import Derived.Test.YtcmdmkajpbhcaaaDoorRfParsW
import Derived.Test.YtcmdmkajpbhcaaaDoorAtFinds
namespace Go.Proofs.YtcmdmkajpbhcaaaDoor
namespace Ak
open Go.RowKit
open TextMath (fold lo)
set_option linter.unusedVariables false
set_option maxRecDepth 100000

theorem parseU (s : ByteArray) (w : World) (hs : s.size ≤ 1048576) :
    Calls Tryd.prog 4 #[.string s] w fun e w' => ∃ t v L p q, e = .returned (.tuple #[.agg #[.string t, v], .int .i64 p, .int .i64 q]) ∧ OwnS w' w.heap.size v L ∧ L.length ≤ 4194304 ∧ Below w.heap.size w w' := by
  refine (parse_any s _ rfl w (by omega)).mono ?_
  rintro e w' ⟨hI, hb⟩
  rcases hI with ⟨ok, v, L, rfl, hO, hn, hm⟩ | ⟨ok, rfl⟩
  · refine ⟨_, v, _, _, _, rfl, hO, ?_, hb⟩
    rw [srt_len]
    refine Nat.le_trans (sub_len L _ hn (fun x hx => (hm x).1 hx)) ?_
    refine Nat.le_trans (desc_len _).1 ?_
    rw [fold_size]
    omega
  · exact ⟨_, _, [], _, _, rfl, ownS_nil _ _, by simp, hb⟩
theorem findU (s : ByteArray) (w : World) (hs : s.size ≤ 1048576) (ht : NumT3 w) :
    Calls Tryd.prog 6 #[.string s] w fun e w' => ∃ n al o sp y1 y2 b L, e = .returned (.tuple #[.agg #[.string n, al, .string o, .string sp, .int .i64 y1, .int .i64 y2], .bool b]) ∧ OwnS w' w.heap.size al L ∧ L.length ≤ 4194304 ∧ Below w.heap.size w w' := by
  refine (findX_any s w (by omega) ht).mono ?_
  rintro e w' ⟨hI, hb⟩
  rcases hI with ⟨_, rfl⟩ | ⟨i, v, _, rfl, al, rfl, h4⟩
  · exact ⟨_, _, _, _, _, _, _, [], rfl, ownS_nil _ _, by simp, hb⟩
  · rcases h4 with ⟨_, rfl⟩ | ⟨_, g, c, hB, rfl, rfl, hg⟩
    · exact ⟨_, _, _, _, _, _, _, [], rfl, ownS_nil _ _, by simp, hb⟩
    · refine ⟨_, _, _, _, _, _, _, [(rowL i).2.1.data.toList], rfl, ?_, by simp, hb⟩
      exact ⟨rfl, Or.inr ⟨g, 1, _, rfl, hB, hg, Nat.le_refl _, by unfold maxLen; omega, rfl, by simp [sv, S_of]⟩⟩
theorem supersU (s : ByteArray) (w : World) (hs : s.size ≤ 1048576) (hS : SupTab w) :
    Calls Tryd.prog 5 #[.string s] w fun e w' => ∃ v L, e = .returned v ∧ OwnS w' w.heap.size v L ∧ L.length ≤ 4194304 ∧ Below w.heap.size w w' ∧ L = lin (S (fold s.data.toList)) := by
  refine (supers_any s w (by omega) hS).mono ?_
  rintro e w' ⟨v, rfl, hO, hb⟩
  exact ⟨v, _, rfl, hO, lin_small _, hb, rfl⟩
theorem two_conv (W : World) (f g : UInt8) (x y : Int) (hx : x = (f.toNat : Int)) (hy : y = (g.toNat : Int)) : (convert 37 9 (.slice (some ⟨W.heap.size, 0, none⟩) 2 2)).run Tryd.prog (W.alloc (.cells #[.int .u8 x, .int .u8 y] 5)) = .ok (.string (S [f, g])) (W.alloc (.cells #[.int .u8 x, .int .u8 y] 5)) := by
  subst hx hy
  exact own_back_any _ W.heap.size 37 9 5 _ 2 [f, g] Tryd.underlying37 Tryd.underlying5 Tryd.underlying9 ⟨rfl, Or.inr ⟨W.heap.size, 2, #[.int .u8 (f.toNat : Int), .int .u8 (g.toNat : Int)], rfl, Nat.le_refl _, hp_new W _, Nat.le_refl _, by unfold maxLen; omega, rfl, rfl⟩⟩
theorem mk_c (r : Nat) (h : r < 41) : ∃ c : UInt8, IntKind.u8.wrap ((48 : Int) + (r : Int)) = (c.toNat : Int) ∧ wrap64 ((48 : Int) + (r : Int)) = (48 : Int) + (r : Int) := by
  refine ⟨UInt8.ofNat (48 + r), ?_, by unfold wrap64; omega⟩
  rw [UInt8.toNat_ofNat']
  simp only [IntKind.wrap, IntKind.bits, IntKind.signed]
  simp
def lf (v u al : Value) (j : Nat) : Value := if j = 0 then v else if j = 1 then u else al
def Lf (v u al : List (List UInt8)) (j : Nat) : List (List UInt8) := if j = 0 then v else if j = 1 then u else al
end Ak
end Go.Proofs.YtcmdmkajpbhcaaaDoor
