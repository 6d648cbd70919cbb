import Derived.Test.YtndbbfbihheagaaDoorAtSet
import Derived.BigQuiet
namespace Go.Proofs.YtndbbfbihheagaaDoor
open Go.RowKit
set_option linter.unusedVariables false

theorem toListS (x : List UInt8) : (S x).toList = x := by rw [Lib.toList_data, S_l]
theorem strNe {x y : List UInt8} (h : ¬ x = y) : ((S x).toList == (S y).toList) = false := by
  rw [toListS, toListS]
  simp [h]
/-- A row of texts, wherever it lies. -/
def Row (w : World) (a : Option Addr) (l : List (List UInt8)) : Prop := ∀ i (hi : i < l.length), ∃ b off, a = some ⟨b, off, none⟩ ∧ w.cell? ⟨b, off + i, none⟩ = some (.string (S l[i]))
theorem TRow.row {w : World} {a : Option Addr} {l : List (List UInt8)} (h : TRow w a l) : Row w a l := fun i hi => by
  obtain ⟨g, e, h1⟩ := h i hi
  exact ⟨g, 0, e, by rw [Nat.zero_add]; exact h1⟩
theorem TRow.drop {w : World} {g : Nat} {l : List (List UInt8)} (h : TRow w (some ⟨g, 0, none⟩) l) (k : Nat) : Row w (some ⟨g, k, none⟩) (l.drop k) := fun i hi => by
  rw [List.length_drop] at hi
  obtain ⟨g', e, h1⟩ := h (k + i) (by omega)
  injection e with e
  injection e with e1
  subst e1
  refine ⟨g, k, rfl, ?_⟩
  rw [h1]
  simp
theorem Row.below {w w' : World} {a : Option Addr} {l : List (List UInt8)} (h : Row w a l) (hb : Below w.heap.size w w') : Row w' a l := fun i hi => by
  obtain ⟨b, off, e, h1⟩ := h i hi
  refine ⟨b, off, e, ?_⟩
  rw [hb.cell (World.block_lt_of_cell? w _ h1)]
  exact h1
theorem takeStep {l k : List (List UInt8)} {i : Nat} (h : l.take i = k.take i) (h1 : i < l.length) (h2 : i < k.length) (e : l[i] = k[i]) : l.take (i + 1) = k.take (i + 1) := by
  rw [List.take_succ_eq_append_getElem h1, List.take_succ_eq_append_getElem h2, h, e]

set_option maxHeartbeats 1000000 in
theorem same04_loop (l k : List (List UInt8)) (a b : Option Addr) (c d : Nat) (w : World) (hlen : l.length = k.length) (hl : l.length ≤ 4194304) (h1 : Row w a l) (h2 : Row w b k) :
    Calls Tryd.prog 12 #[.slice a l.length c, .slice b k.length d] w fun e w' => e = .returned (.bool (decide (l = k))) ∧ ∃ q, w' = w.drewN q := by
  have hlen' : Hid (l.length = k.length) := hlen
  have hb0 : ((l.length : Int) != (k.length : Int)) = false := by rw [hlen]; simp
  go_enter Tryd.func12, Tryd.ntmps12
  clear hlen
  go_wp2_with fail
  go_loopw [5] (fun iv wr => ∃ i q : Nat, i ≤ l.length ∧ iv = .int .i64 (i : Int) ∧ Hid (l.take i = k.take i) ∧ Hid (wr = w.drewN q)) (fun iv _ => l.length - (intOf iv).toNat)
  case atStart => exact ⟨0, 0, Nat.zero_le _, rfl, by unfold Hid; simp, rfl⟩
  case round =>
    obtain ⟨i, q, hi, rfl, htk, hw⟩ := hrel
    have hlen := hlen'.out
    by_cases hlt : i < l.length
    · have hlk : i < k.length := by omega
      obtain ⟨b1, o1, rfl, c1⟩ := h1 i hlt
      obtain ⟨b2, o2, rfl, c2⟩ := h2 i hlk
      have hE : ∀ a, wr.cell? a = w.cell? a := fun a => by rw [hw.out]; rfl
      rw [← hE] at c1 c2
      have i0 : (0 : Int) ≤ (i : Int) := Int.natCast_nonneg _
      have i1 : (i : Int) < (l.length : Int) := Int.ofNat_lt.2 hlt
      have i2 : (i : Int) < (k.length : Int) := Int.ofNat_lt.2 hlk
      by_cases hx : l[i] = k[i]
      · have htk' : Hid (l.take (i + 1) = k.take (i + 1)) := takeStep htk.out hlt hlk hx
        rw [← hx] at c2
        generalize S l[i] = X at *
        clear hE hx hlen h1 h2
        go_wp2_with fail
        go_quiet (fail)
        go_wp2_with fail
        go_roundw
        case rel => exact ⟨i + 1, _, hlt, by simp, htk', by unfold Hid; rw [hw.out, World.drewN_drewN]⟩
        case measure => simp [intOf]; omega
      · have hne := strNe hx
        have hno : Hid (¬ l = k) := by intro q; subst q; exact hx rfl
        generalize S l[i] = X at *
        generalize S k[i] = Y at *
        clear hE hx hlen h1 h2
        go_wp2_with fail
        go_quiet (fail)
        go_wp2_with fail
        go_ret
        exact ⟨by rw [decide_eq_false hno.out]; rfl, _, by rw [hw.out, World.drewN_drewN]⟩
    · have hle : i = l.length := by omega
      subst hle
      have hyes : Hid (l = k) := by
        have := htk.out
        rw [List.take_length, hlen, List.take_length] at this
        exact this
      clear h1 h2 hlen
      go_wp2_with fail
      go_ret
      exact ⟨by rw [decide_eq_true hyes.out]; rfl, q, hw.out⟩

end Go.Proofs.YtndbbfbihheagaaDoor
