import Derived.Test.YtgdinncdhjeokaaGreatDoorUbLoop
import Derived.Test.YtgdinncdhjeokaaGreatDoorCards
import Derived.ProofKit
import Derived.Lib.LaidTab
import Derived.Test.YtgdinncdhjeokaaGreatDoorLrA
import Derived.OpenShut
namespace Go.Proofs.YtgdinncdhjeokaaGreatDoor
open Go.RowKit
open TextMath (al)

theorem gAl : Tryz.prog.globalNamed "roster/text.base64Alphabet" = some 0 := by kernel_rfl
theorem gAlType : (Tryz.prog.globals[0]?).map (·.type) = some 71 := by kernel_rfl
theorem cAlType : Tryz.prog.cellsOf 71 = 64 := by kernel_rfl
theorem cU8b : Tryz.prog.cellsOf 5 = 1 := by kernel_rfl
def alZ : List Int := [65, 66, 67, 68, 69, 70, 71, 72, 73, 74, 75, 76, 77, 78, 79, 80, 81, 82, 83, 84, 85, 86, 87, 88, 89, 90, 97, 98, 99, 100, 101, 102, 103, 104, 105, 106, 107, 108, 109, 110, 111, 112, 113, 114, 115, 116, 117, 118, 119, 120, 121, 122, 48, 49, 50, 51, 52, 53, 54, 55, 56, 57, 43, 47]
theorem al_list : ∀ i : Fin 64, alZ.getD i.val 0 = ((al i.val).toNat : Int) := by decide +kernel
theorem tab_base64Alphabet {W : World} {rest : List (String × DataW Unit)} (h : laidMet Tryz.prog (("roster/text.base64Alphabet", Rows.laid_roster_text_base64Alphabet) :: rest) W) : AlTab W := by
  have t : Lib.TabIs Tryz.prog W "roster/text.base64Alphabet" .u8 alZ :=
    Lib.tabIs_of_head (rest := rest) gAl gAlType Tryz.underlying71 Tryz.underlying5 cU8b cAlType h
  intro i hi
  rw [t.cell gAl i (by exact hi), al_list ⟨i, hi⟩]
theorem gWo : Tryz.prog.globalNamed "roster/text.base64Worths" = some 3 := by kernel_rfl
theorem gWoType : (Tryz.prog.globals[3]?).map (·.type) = some 176 := by kernel_rfl
theorem cWoType : Tryz.prog.cellsOf 176 = 128 := by kernel_rfl
theorem cI8b : Tryz.prog.cellsOf 175 = 1 := by kernel_rfl
def woZ : List Int := [-1, -1, -1, -1, -1, -1, -1, -1, -1, -1, -1, -1, -1, -1, -1, -1, -1, -1, -1, -1, -1, -1, -1, -1, -1, -1, -1, -1, -1, -1, -1, -1, -1, -1, -1, -1, -1, -1, -1, -1, -1, -1, -1, 62, -1, -1, -1, 63, 52, 53, 54, 55, 56, 57, 58, 59, 60, 61, -1, -1, -1, -1, -1, -1, -1, 0, 1, 2, 3, 4, 5, 6, 7, 8, 9, 10, 11, 12, 13, 14, 15, 16, 17, 18, 19, 20, 21, 22, 23, 24, 25, -1, -1, -1, -1, -1, -1, 26, 27, 28, 29, 30, 31, 32, 33, 34, 35, 36, 37, 38, 39, 40, 41, 42, 43, 44, 45, 46, 47, 48, 49, 50, 51, -1, -1, -1, -1, -1]
theorem wo_list : ∀ i : Fin 128, woZ.getD i.val 0 = bw (UInt8.ofNat i.val) := by decide +kernel
theorem tab_base64Worths {W : World} {rest : List (String × DataW Unit)} (h : laidMet Tryz.prog (("roster/text.base64Worths", Rows.laid_roster_text_base64Worths) :: rest) W) : WTab W := by
  have t : Lib.TabIs Tryz.prog W "roster/text.base64Worths" .i8 woZ :=
    Lib.tabIs_of_head (rest := rest) gWo gWoType Tryz.underlying176 Tryz.underlying175 cI8b cWoType h
  intro i hi
  rw [t.cell gWo i (by exact hi), wo_list ⟨i, hi⟩]
end Go.Proofs.YtgdinncdhjeokaaGreatDoor

namespace Go.Proofs.YtgdinncdhjeokaaGreatDoor
open Go.RowKit
open Lr (ChgTab chB coB)

theorem gCw : Tryz.prog.globalNamed "roster/ldif.changeWords" = some 2 := by kernel_rfl
theorem gCwType : (Tryz.prog.globals[2]?).map (·.type) = some 112 := by kernel_rfl
theorem uCw : Tryz.prog.underlying 112 = some (.array 2 9) := by kernel_rfl
theorem cStr : Tryz.prog.cellsOf 9 = 1 := by kernel_rfl
set_option maxRecDepth 100000 in
theorem tab_changeWords {W : World} {rest : List (String × DataW Unit)} (h : laidMet Tryz.prog (("roster/ldif.changeWords", Rows.laid_roster_ldif_changeWords) :: rest) W) : ChgTab W := by
  obtain ⟨ps, ⟨g', t', cs, fuel, p, q, hg', ht', hvar, hd, _, _⟩, _⟩ := h
  obtain rfl := Option.some.inj (gCw.symm.trans hg')
  obtain rfl := Option.some.inj (gCwType.symm.trans ht')
  have hd' : DataW.trod _ Tryz.prog W _ _ _ fuel 112 cs.toList = some (Rows.laid_roster_ldif_changeWords, p) := hd
  obtain ⟨xs, m, rfl, hx, hlen, hxl, hall⟩ := DataW.trod_array uCw hd'
  have hxs : (Rows.laid_roster_ldif_changeWords : DataW Unit) = .agg (xs.map (·.1)) := by
    have := congrArg Prod.fst hx
    simpa using this
  have hL : xs.map (·.1) = [(.lit (.string chB) : DataW Unit), .lit (.string coB)] := by
    have h2 : (Rows.laid_roster_ldif_changeWords : DataW Unit) = .agg [.lit (.string chB), .lit (.string coB)] := rfl
    rw [h2] at hxs
    injection hxs with hxs
    exact hxs.symm
  have one : ∀ (r : Nat) (k : List UInt8), r < 2 → (xs.map (·.1))[r]? = some (.lit (.string k)) → W.cell? ⟨2, r, none⟩ = some (.string (S k)) := fun r k hr hk => by
    have hr1 := hall r hr
    rw [cStr] at hr1
    simp only [List.getElem?_map, Option.map_eq_some_iff] at hk
    obtain ⟨y, hy, hyz⟩ := hk
    rw [hy] at hr1
    obtain ⟨y1, y2⟩ := y
    simp only [] at hyz
    subst hyz
    obtain ⟨s, hs, hs2, _⟩ := DataW.trod_string Tryz.underlying9 hr1
    have hse : s.data.toList = k := by
      injection hs2 with hz
      injection hz with hz
      first | exact hz.symm | (injection hz with hz; exact hz.symm)
    have hcell : cs[r]? = some (.string s) := by
      have := congrArg (·[0]?) hs
      simp only [List.getElem?_take, List.getElem?_drop] at this
      simpa using this
    have := World.var?_cell gCw hvar r
    rw [this, hcell, ← hse, S_of]
  exact ⟨one 0 chB (by decide) (by rw [hL]; rfl), one 1 coB (by decide) (by rw [hL]; rfl)⟩
end Go.Proofs.YtgdinncdhjeokaaGreatDoor
