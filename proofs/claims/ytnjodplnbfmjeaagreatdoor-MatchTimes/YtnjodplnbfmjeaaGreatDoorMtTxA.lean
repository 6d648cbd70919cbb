import Derived.Test.YtnjodplnbfmjeaaGreatDoorMtTcR
import Derived.Test.YtnjodplnbfmjeaaGreatDoorMtTwD
namespace Go.Proofs.YtnjodplnbfmjeaaGreatDoor
open Go.RowKit
set_option linter.unusedVariables false
set_option linter.unusedSimpArgs false
namespace Tc
open Mt

theorem hdT_app (y mo d h mi : Nat) (l : List UInt8) : hdT y mo d h mi l = hdT y mo d h mi [] ++ l := by
  unfold hdT
  simp only [List.append_assoc, List.append_nil]
theorem hdT_len {y mo d h mi : Nat} (hy : y < 10000) (hmo : mo < 100) (hd : d < 100) (hh : h < 100) (hmi : mi < 100) : (hdT y mo d h mi []).length = 12 := by
  unfold hdT
  simp only [List.length_append, pad2_len hmo, pad2_len hd, pad2_len hh, pad2_len hmi, pad2_len (show y / 100 < 100 by omega), pad2_len (show y % 100 < 100 from Nat.mod_lt _ (by decide))]
  rfl
/-- A minute between its bounds. -/
def WhB (y mo d m : Nat) (z : Int) : Prop := y < 10000 ∧ (1 ≤ mo ∧ mo ≤ 12) ∧ (2 ≤ d ∧ d ≤ 27) ∧ m < 1440 ∧ (-1439 ≤ z ∧ z ≤ 1439)
/-- Its normal form. -/
def nV (y mo d m : Nat) : List UInt8 := stampL y mo d (m / 60) (m % 60) 0 []
theorem is_sec {y mo d m : Nat} {z : Int} (h : WhB y mo d m z) (s : Nat) (f l : List UInt8) (hl : l.length ≤ 100)
    (hr : ∀ Y MO D H MI : Int, rdSec Y MO D H MI l false = ((Y, MO, D, H, MI, (s : Int), f), 0, true)) : Is (hdT y mo d (m / 60) (m % 60) l) (stampL y mo d (m / 60) (m % 60) s f) := by
  obtain ⟨hy, hmo, hd, hm, hz⟩ := h
  have hh : m / 60 < 24 := by omega
  have hmi : m % 60 < 60 := Nat.mod_lt _ (by decide)
  have e := rd_head (y := y) (mo := mo) (d := d) (h := m / 60) (mi := m % 60) l hy hmo ⟨by omega, by omega⟩ (by omega) (by omega)
  rw [hr] at e
  have t := tim_Z (y := y) (mo := mo) (d := d) s f hy hh hmi
  refine ⟨?_, by rw [e]; exact t.1, by rw [e]; exact t.2⟩
  rw [hdT_app, List.length_append, hdT_len hy (by omega) (by omega) (by omega) (by omega)]
  omega
theorem is_utc {y mo d m : Nat} {z : Int} (h : WhB y mo d m z) : Is (hdT y mo d (m / 60) (m % 60) [90]) (nV y mo d m) := is_sec h 0 [] [90] (by decide) (fun Y MO D H MI => rd_Z Y MO D H MI)
theorem is_zone {y mo d m d' m' za : Nat} {z : Int} (sg : Bool) (h : WhB y mo d m z) (hza : za < 1440) (hsg : z = if sg then (za : Int) else -(za : Int)) (hm' : m' < 1440)
    (hc : ((m : Int) + z < 0 ∧ (d' : Int) = d - 1 ∧ (m' : Int) = m + z + 1440) ∨ (0 ≤ (m : Int) + z ∧ (m : Int) + z < 1440 ∧ d' = d ∧ (m' : Int) = m + z) ∨ (1440 ≤ (m : Int) + z ∧ d' = d + 1 ∧ (m' : Int) = m + z - 1440)) :
    Is (hdT y mo d' (m' / 60) (m' % 60) ((if sg then [43] else [45]) ++ (pad 2 (za / 60) ++ pad 2 (za % 60)))) (nV y mo d m) := by
  obtain ⟨hy, hmo, hd, hm, hz⟩ := h
  have hd' : 1 ≤ d' ∧ d' ≤ 28 := by omega
  have e := rd_head (y := y) (mo := mo) (d := d') (h := m' / 60) (mi := m' % 60) ((if sg then [43] else [45]) ++ (pad 2 (za / 60) ++ pad 2 (za % 60))) hy hmo hd' (by omega) (by omega)
  rw [rd_zone _ _ _ _ _ sg (by omega) (by omega)] at e
  have ez : (if sg then ((za / 60 * 60 + za % 60 : Nat) : Int) else -((za / 60 * 60 + za % 60 : Nat) : Int)) = z := by
    rw [hsg, show za / 60 * 60 + za % 60 = za by omega]
  rw [ez] at e
  have t := tim_z (y := y) (mo := mo) (d := d) (m := m) (d' := d') (m' := m') (z := z) hy hmo hd hm hm' hc
  refine ⟨?_, by rw [e]; exact t.1, by rw [e]; exact t.2⟩
  rw [hdT_app, List.length_append, hdT_len hy (by omega) (by omega) (by omega) (by omega), List.length_append, List.length_append, pad2_len (by omega), pad2_len (by omega)]
  cases sg <;> simp
/-- Stamps, compared. -/
theorem st_parts (y mo d h mi s : Nat) (f : List UInt8) : stampL y mo d h mi s f = (pad 4 y ++ pad 2 mo ++ pad 2 d ++ pad 2 h ++ pad 2 mi) ++ (pad 2 s ++ frac f) := by
  unfold stampL
  rw [acc_eq, List.append_assoc]
theorem st_same {y mo d h mi s s' : Nat} {f f' : List UInt8} (hs : s < 100) (hs' : s' < 100) : Lib.compareBytes (stampL y mo d h mi s f) (stampL y mo d h mi s' f') = if sg s s' = 0 then Lib.compareBytes (frac f) (frac f') else sg s s' := by
  rw [st_parts, st_parts, cmp_app _ _ _ _ rfl, cmp_self, if_pos rfl, cmp_app _ _ _ _ (by rw [pad2_len hs, pad2_len hs']), cmp_pad2 hs hs']
theorem nV_cmp {y mo d m y' mo' d' m' : Nat} {z z' : Int} (h : WhB y mo d m z) (h' : WhB y' mo' d' m' z') : Lib.compareBytes (nV y mo d m) (nV y' mo' d' m') = sg (key y mo d m) (key y' mo' d' m') := by
  obtain ⟨hy, hmo, hd, hm, hz⟩ := h
  obtain ⟨hy', hmo', hd', hm', hz'⟩ := h'
  have a1 : m / 60 < 24 := by omega
  have a2 : m % 60 < 60 := Nat.mod_lt _ (by decide)
  have b1 : m' / 60 < 24 := by omega
  have b2 : m' % 60 < 60 := Nat.mod_lt _ (by decide)
  unfold nV
  have hf := cmp_front (y := y) (mo := mo) (d := d) (h := m / 60) (mi := m % 60) (y' := y') (mo' := mo') (d' := d') (h' := m' / 60) (mi' := m' % 60) hy hmo ⟨by omega, by omega⟩ a1 a2 hy' hmo' ⟨by omega, by omega⟩ b1 b2
  rw [show m / 60 * 60 + m % 60 = m by omega, show m' / 60 * 60 + m' % 60 = m' by omega] at hf
  rw [st_parts, st_parts, cmp_app _ _ _ _ (by rw [acc_len 0 hy (by omega) (by omega) (by omega) (by omega), acc_len 0 hy' (by omega) (by omega) (by omega) (by omega)]), hf, cmp_self]
  by_cases q : sg (key y mo d m) (key y' mo' d' m') = 0
  · rw [if_pos q, q]
  · rw [if_neg q]
end Tc
end Go.Proofs.YtnjodplnbfmjeaaGreatDoor
