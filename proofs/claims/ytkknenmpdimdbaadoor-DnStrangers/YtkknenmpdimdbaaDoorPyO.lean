import Derived.Test.YtkknenmpdimdbaaDoorPyL
import Derived.Deep.RegionHeld3
import Derived.Deep.RegionHeldLaw
import Derived.Test.YtkknenmpdimdbaaDoorDuOwn
import Derived.BigQuiet
import Derived.Test.YtkknenmpdimdbaaDoorPyN
import Derived.Test.YtkknenmpdimdbaaDoorPyD
import Derived.Stop.LaidTwo
import Derived.LaidHandle
import Derived.Stop.LaidErr
import Derived.MakeChecks
import Derived.LaidSub
import Derived.Test.YtkknenmpdimdbaaDoorRows
import Derived.OpenShut
import Derived.ShutString
import Derived.Deep.Slices
namespace Go.Proofs.YtkknenmpdimdbaaDoor
namespace Ke
open Go.RowKit
open Go.Extern.Stop Go.Stop Go.Extern
set_option linter.unusedVariables false
set_option linter.unusedSimpArgs false
set_option maxRecDepth 100000

set_option maxHeartbeats 4000000 in
theorem find_miss (p : Value) (w : World) (hg : ErrT w) :
    Calls Tryd.prog 12 #[.iface 178 p] w fun e w' => e = .returned (.tuple #[.agg #[.nilIface, .int .i64 0], .bool false]) ∧ Below w.heap.size w w' := by
  obtain ⟨W1, hW1⟩ : ∃ W1, w.alloc (.cells #[.nilIface, .int .i64 0] 40) = W1 := ⟨_, rfl⟩
  obtain ⟨W2, hW2⟩ : ∃ W2, W1.alloc (.cells #[.bool false] 4) = W2 := ⟨_, rfl⟩
  have b1 : Below w.heap.size w W1 := by rw [← hW1]; exact (Below.refl _ _).alloc (Nat.le_refl _) _
  have b2 : Below W1.heap.size W1 W2 := by rw [← hW2]; exact (Below.refl _ _).alloc (Nat.le_refl _) _
  have x1 : W1.heap[w.heap.size]? = some (.cells #[.nilIface, .int .i64 0] 40 (0, 0)) := by rw [← hW1]; exact heap_alloc_new _ _
  have x2 : W2.heap[w.heap.size]? = some (.cells #[.nilIface, .int .i64 0] 40 (0, 0)) := by rw [b2.block _ (Array.getElem?_eq_some_iff.1 x1).1]; exact x1
  have y2 : W2.heap[W1.heap.size]? = some (.cells #[.bool false] 4 (0, 0)) := by rw [← hW2]; exact heap_alloc_new _ _
  have hg2 : ErrT W2 := by
    have h1 := (b1.cell (World.block_lt_of_cell? _ _ hg)).trans hg
    exact (b2.cell (World.block_lt_of_cell? _ _ h1)).trans h1
  have hA : Hid (Calls Tryd.prog 25 #[.iface 178 p, .iface 67 (.pointer (some ⟨w.heap.size, 0, none⟩))] W2 fun e w' => e = .returned (.bool false) ∧ Below W2.heap.size W2 w') := as_miss w.heap.size p _ _ W2 hg2 x2
  have hmf : ∀ (fn : Fn) (first cap : Array Value) (w : World), (Instr.makeFunc fn first cap).run Tryd.prog w = .ok (.func fn first cap) w := fun _ _ _ _ => rfl
  have hlt1 : w.heap.size < W1.heap.size := (Array.getElem?_eq_some_iff.1 x1).1
  have hB2 : Hid (Below w.heap.size w W2 ∧ W1.heap.size < W2.heap.size ∧ w.heap.size < W2.heap.size) := ⟨b1.trans (b2.mono b1.size), (Array.getElem?_eq_some_iff.1 y2).1, (Array.getElem?_eq_some_iff.1 x2).1⟩
  have y2' : Hid (W2.heap[W1.heap.size]? = some (.cells #[.bool false] 4 (0, 0)) ∧ W2.heap[w.heap.size]? = some (.cells #[.nilIface, .int .i64 0] 40 (0, 0))) := ⟨y2, x2⟩
  have hlt1' : Hid (w.heap.size < W1.heap.size) := hlt1
  clear b1 b2 x1 x2 hg2 hg hlt1 y2
  go_enter_defers Tryd.func12, Tryd.ntmps12
  go_wp2_with fail
  refine hA.out.mono ?_
  rintro e W3 ⟨rfl, hb1⟩
  have h3 : W3.heap[w.heap.size]? = some (.cells #[.nilIface, .int .i64 0] 40 (0, 0)) := by rw [hb1.block _ hB2.out.2.2]; exact y2'.out.2
  have hB3 : Hid (Below w.heap.size w W3) := hB2.out.1.trans (hb1.mono hB2.out.1.size)
  have k3 : W3.heap[W1.heap.size]? = some (.cells #[.bool false] 4 (0, 0)) := by rw [hb1.block _ hB2.out.2.1]; exact y2'.out.1
  have a0 : W3.cell? ⟨W1.heap.size, 0, none⟩ = some (.bool false) := by rw [cell_of_row _ _ _ _ _ _ k3]; rfl
  have z0 : W3.frozen? ⟨W1.heap.size, 0, none⟩ = false := Go.frozen_of_row _ _ _ _ _ k3
  obtain ⟨W4, hW4⟩ : ∃ W4, W3.setCell ⟨W1.heap.size, 0, none⟩ (.bool false) = W4 := ⟨_, rfl⟩
  have h4 : W4.heap[w.heap.size]? = some (.cells #[.nilIface, .int .i64 0] 40 (0, 0)) := by
    rw [← hW4, Below.heap_setCell _ _ _ _ (by have := hlt1'.out; show w.heap.size ≠ W1.heap.size; omega)]
    exact h3
  have k4 : W4.heap[W1.heap.size]? = some (.cells #[.bool false] 4 (0, 0)) := by
    rw [← hW4, Go.heap_setCell_same _ _ 0 _ _ _ k3]
    rfl
  have hB4 : Hid (Below w.heap.size w W4) := by
    rw [← hW4]
    exact hB3.out.setCell (p := ⟨W1.heap.size, 0, none⟩) (Nat.le_of_lt hlt1'.out) _
  have d0 : W4.cell? ⟨w.heap.size, 0, none⟩ = some .nilIface := by rw [cell_of_row _ _ _ _ _ _ h4]; rfl
  have d1 : W4.cell? ⟨w.heap.size, 1, none⟩ = some (.int .i64 0) := by rw [cell_of_row _ _ _ _ _ _ h4]; rfl
  have d2 : W4.cell? ⟨W1.heap.size, 0, none⟩ = some (.bool false) := by rw [cell_of_row _ _ _ _ _ _ k4]; rfl
  have z1 : W4.frozen? ⟨w.heap.size, 0, none⟩ = false := Go.frozen_of_row _ _ _ _ _ h4
  have z2 : W4.frozen? ⟨w.heap.size, 1, none⟩ = false := Go.frozen_of_row _ _ _ _ _ h4
  have z3 : W4.frozen? ⟨W1.heap.size, 0, none⟩ = false := Go.frozen_of_row _ _ _ _ _ k4
  have hne : W1.heap.size ≠ w.heap.size := by have := hlt1'.out; omega
  have e1 : (W4.setCell ⟨w.heap.size, 0, none⟩ .nilIface).cell? ⟨W1.heap.size, 0, none⟩ = some (.bool false) := by
    rw [← d2]; unfold World.cell?; rw [Below.heap_setCell _ _ _ _ hne]
  obtain ⟨W5, hW5⟩ : ∃ W5, ((W4.setCell ⟨w.heap.size, 0, none⟩ .nilIface).setCell ⟨w.heap.size, 1, none⟩ (.int .i64 0)).setCell ⟨W1.heap.size, 0, none⟩ (.bool false) = W5 := ⟨_, rfl⟩
  have h5 : W5.heap[w.heap.size]? = some (.cells #[.nilIface, .int .i64 0] 40 (0, 0)) := by
    have q1 := Go.heap_setCell_same W4 w.heap.size 0 _ _ .nilIface h4
    have q2 := Go.heap_setCell_same _ w.heap.size 1 _ _ (.int .i64 0) q1
    rw [← hW5, Below.heap_setCell _ _ _ _ (fun e => hne e.symm), q2]
    rfl
  have k5 : W5.heap[W1.heap.size]? = some (.cells #[.bool false] 4 (0, 0)) := by
    have q1 : ((W4.setCell ⟨w.heap.size, 0, none⟩ .nilIface).setCell ⟨w.heap.size, 1, none⟩ (.int .i64 0)).heap[W1.heap.size]? = some (.cells #[.bool false] 4 (0, 0)) := by
      rw [Below.heap_setCell _ _ _ _ hne, Below.heap_setCell _ _ _ _ hne]
      exact k4
    rw [← hW5, Go.heap_setCell_same _ _ 0 _ _ _ q1]
    rfl
  have hB5 : Hid (Below w.heap.size w W5.drew) := by
    have q := ((hB4.out.setCell (p := ⟨w.heap.size, 0, none⟩) (Nat.le_refl _) .nilIface).setCell (p := ⟨w.heap.size, 1, none⟩) (Nat.le_refl _) (.int .i64 0)).setCell (p := ⟨W1.heap.size, 0, none⟩) (Nat.le_of_lt hlt1'.out) (.bool false)
    rw [hW5] at q
    exact q.trans ⟨rfl, rfl, rfl, Nat.le_refl _, fun _ _ => rfl⟩
  have m0 : W5.cell? ⟨w.heap.size, 0, none⟩ = some .nilIface := by rw [cell_of_row _ _ _ _ _ _ h5]; rfl
  have m1 : W5.cell? ⟨w.heap.size, 1, none⟩ = some (.int .i64 0) := by rw [cell_of_row _ _ _ _ _ _ h5]; rfl
  have m2 : W5.cell? ⟨W1.heap.size, 0, none⟩ = some (.bool false) := by rw [cell_of_row _ _ _ _ _ _ k5]; rfl
  clear hb1 h3 k3 hB3 hA hne h5 k5 h4 k4
  go_wp2_with fail
  go_region
  go_wp2_with fail
  refine leaves_cons (f := 24) (args := #[.pointer (some ⟨w.heap.size, 0, none⟩), .pointer (some ⟨W1.heap.size, 0, none⟩)]) (by simp) (by simp [go_sem]) ?_
  refine (find1_idle _ _ _).mono ?_
  rintro e u' w'' ⟨rfl, rfl, rfl⟩
  simp [Leaves, settle, results, Tryd.results12, go_sem, m0, m1, m2]
  exact hB5.out
set_option maxHeartbeats 2000000 in
/-- Fault of a bare sentinel. -/
theorem fault_bare (p : Value) (w : World) (hT : ErrT w) :
    Calls Tryd.prog 5 #[.iface 178 p] w fun e w' => e = .returned (.tuple #[.int .i64 1, .int .i64 0]) ∧ Below w.heap.size w w' := by
  have cF : Hid (Calls Tryd.prog 12 #[.iface 178 p] w fun e w' => e = .returned (.tuple #[.agg #[.nilIface, .int .i64 0], .bool false]) ∧ Below w.heap.size w w') := find_miss p w hT
  clear hT
  go_enter Tryd.func5, Tryd.ntmps5
  go_wp2_with fail
  refine cF.out.mono ?_
  rintro e W1 ⟨rfl, hb1⟩
  obtain ⟨W2, hW2⟩ : ∃ W2, W1.alloc (.cells #[.nilIface, .int .i64 0] 40) = W2 := ⟨_, rfl⟩
  have b2 : Below W1.heap.size W1 W2 := by rw [← hW2]; exact (Below.refl _ _).alloc (Nat.le_refl _) _
  have x2 : W2.heap[W1.heap.size]? = some (.cells #[.nilIface, .int .i64 0] 40 (0, 0)) := by rw [← hW2]; exact heap_alloc_new _ _
  have d0 : W2.cell? ⟨W1.heap.size, 0, none⟩ = some .nilIface := by rw [cell_of_row _ _ _ _ _ _ x2]; rfl
  have d1 : W2.cell? ⟨W1.heap.size, 1, none⟩ = some (.int .i64 0) := by rw [cell_of_row _ _ _ _ _ _ x2]; rfl
  have z1 : W2.frozen? ⟨W1.heap.size, 0, none⟩ = false := Go.frozen_of_row _ _ _ _ _ x2
  have z2 : W2.frozen? ⟨W1.heap.size, 1, none⟩ = false := Go.frozen_of_row _ _ _ _ _ x2
  have hB2 : Below w.heap.size w W2 := hb1.trans (b2.mono hb1.size)
  have hfin : Hid (Below w.heap.size w ((W2.setCell ⟨W1.heap.size, 0, none⟩ .nilIface).setCell ⟨W1.heap.size, 1, none⟩ (.int .i64 0))) := (hB2.setCell (p := ⟨W1.heap.size, 0, none⟩) hb1.size .nilIface).setCell (p := ⟨W1.heap.size, 1, none⟩) hb1.size (.int .i64 0)
  clear hb1 b2 cF hB2 x2
  go_wp2_with fail
  go_ret2
  exact ⟨rfl, hfin.out⟩
end Ke
end Go.Proofs.YtkknenmpdimdbaaDoor

namespace Go.Proofs.YtkknenmpdimdbaaDoor
namespace Ke
open Go.RowKit
open Go.Extern.Stop Go.Stop Go.Extern
set_option linter.unusedVariables false
set_option linter.unusedSimpArgs false
set_option maxRecDepth 100000

/-- The ten sentinels in the law's list. -/
def tenV (ad : Nat → Addr) : Array Value := #[.iface 178 (.pointer (some (ad 50))), .iface 178 (.pointer (some (ad 51))), .iface 178 (.pointer (some (ad 52))), .iface 178 (.pointer (some (ad 53))), .iface 178 (.pointer (some (ad 54))), .iface 178 (.pointer (some (ad 55))), .iface 178 (.pointer (some (ad 56))), .iface 178 (.pointer (some (ad 57))), .iface 178 (.pointer (some (ad 58))), .iface 178 (.pointer (some (ad 59)))]
theorem ten_at (ad : Nat → Addr) : ∀ i, i < 10 → (tenV ad)[i]? = some (.iface 178 (.pointer (some (ad (50 + i)))))
  | 0, _ => rfl
  | 1, _ => rfl
  | 2, _ => rfl
  | 3, _ => rfl
  | 4, _ => rfl
  | 5, _ => rfl
  | 6, _ => rfl
  | 7, _ => rfl
  | 8, _ => rfl
  | 9, _ => rfl
  | n + 10, h => by omega
/-- What the sentinels' variables hold. -/
def Snt (ad : Nat → Addr) (W : World) : Prop := (∀ i, i < 10 → ∃ c t, W.heap[(ad (50 + i)).block]? = some (.cells c t (0, 0))) ∧ ∀ i j, i < 10 → j < 10 → i ≠ j → ad (50 + i) ≠ ad (50 + j)
theorem Snt.below {ad : Nat → Addr} {W W' : World} (h : Snt ad W) (hb : Below W.heap.size W W') : Snt ad W' := by
  refine ⟨fun i hi => ?_, h.2⟩
  obtain ⟨c, t, h2⟩ := h.1 i hi
  exact ⟨c, t, by rw [hb.block _ (Array.getElem?_eq_some_iff.1 h2).1]; exact h2⟩
theorem ErrT.below {W W' : World} (h : ErrT W) (hb : Below W.heap.size W W') : ErrT W' := (hb.cell (World.block_lt_of_cell? _ _ h)).trans h
set_option maxHeartbeats 8000000 in
theorem dnStrangers_walk (ad : Nat → Addr) (w : World) (g0 : w.cell? ⟨0, 0, none⟩ = some (.iface 178 (.pointer (some (ad 50))))) (g1 : w.cell? ⟨1, 0, none⟩ = some (.iface 178 (.pointer (some (ad 51))))) (g2 : w.cell? ⟨2, 0, none⟩ = some (.iface 178 (.pointer (some (ad 52))))) (g3 : w.cell? ⟨3, 0, none⟩ = some (.iface 178 (.pointer (some (ad 53))))) (g4 : w.cell? ⟨4, 0, none⟩ = some (.iface 178 (.pointer (some (ad 54))))) (g5 : w.cell? ⟨5, 0, none⟩ = some (.iface 178 (.pointer (some (ad 55))))) (g6 : w.cell? ⟨6, 0, none⟩ = some (.iface 178 (.pointer (some (ad 56))))) (g7 : w.cell? ⟨7, 0, none⟩ = some (.iface 178 (.pointer (some (ad 57))))) (g8 : w.cell? ⟨8, 0, none⟩ = some (.iface 178 (.pointer (some (ad 58))))) (g9 : w.cell? ⟨9, 0, none⟩ = some (.iface 178 (.pointer (some (ad 59)))))
    (hS : Snt ad w) (hT : ErrT w)
    (hNil : ∀ W, Calls Tryd.prog 5 #[.nilIface] W fun e w' => e = .returned (.tuple #[.int .i64 0, .int .i64 0]) ∧ w' = W)
    (hRest : ∀ W, Below w.heap.size w W → Calls Tryd.prog 6 #[.string ⟨#[44]⟩] W fun e w' => Below W.heap.size W w' ∧ ∃ x, e = .returned (.tuple #[.slice none 0 0, x]) ∧ Calls Tryd.prog 5 #[x] w' fun e w'' => ∃ p, e = .returned (.tuple #[.int .i64 52, p]) ∧ Below w'.heap.size w' w'') :
    Calls Tryd.prog 3 #[] w fun e w' => e = .returned (.bool true) ∧ Below w.heap.size w w' := by
  obtain ⟨i', hi', hcmp⟩ := Option.map_eq_some_iff.1 isComp
  obtain ⟨j', hj', hjs⟩ := Option.map_eq_some_iff.1 isSize
  have hS' : Hid (Snt ad w ∧ ErrT w) := ⟨hS, hT⟩
  have hNil' : Hid (∀ W, Calls Tryd.prog 5 #[.nilIface] W fun e w' => e = .returned (.tuple #[.int .i64 0, .int .i64 0]) ∧ w' = W) := hNil
  clear hS hT hNil
  go_enter Tryd.func3, Tryd.ntmps3
  go_wp2_with fail
  go_loopw [2, 3, 4, 5] (fun iv ev av kv wr => ∃ (i : Nat) (T : TypeId), i ≤ 10 ∧ iv = .int .i64 (i : Int) ∧ Hid (Below w.heap.size w wr ∧ wr.heap[w.heap.size]? = some (.cells (tenV ad) T (0, 0)))) (fun iv _ _ _ _ => 10 - (intOf iv).toNat)
  case atStart => exact ⟨0, _, by omega, rfl, (Below.refl _ _).alloc (Nat.le_refl _) _, heap_alloc_new _ _⟩
  case round =>
    obtain ⟨i, T, hi, rfl, hR⟩ := hrel
    have i0 : (0 : Int) ≤ (i : Int) := Int.natCast_nonneg _
    by_cases hlt : i < 10
    · have i1 : (i : Int) < 10 := by omega
      have c1 : wr.cell? ⟨w.heap.size, i, none⟩ = some (.iface 178 (.pointer (some (ad (50 + i))))) := by rw [cell_of_row _ _ _ _ _ _ hR.out.2]; exact ten_at ad i hlt
      have hF : Hid (Calls Tryd.prog 5 #[.iface 178 (.pointer (some (ad (50 + i))))] wr fun e w' => e = .returned (.tuple #[.int .i64 1, .int .i64 0]) ∧ Below wr.heap.size wr w') := fault_bare _ wr (hS'.out.2.below hR.out.1)
      have hlt' : Hid (i < 10) := hlt
      clear g0 g1 g2 g3 g4 g5 g6 g7 g8 g9 hRest hi hlt
      go_wp2_with fail
      refine hF.out.mono ?_
      rintro e W2 ⟨rfl, hb⟩
      have hR2 : Hid (Below w.heap.size w W2 ∧ W2.heap[w.heap.size]? = some (.cells (tenV ad) T (0, 0))) := ⟨hR.out.1.trans (hb.mono hR.out.1.size), by rw [hb.block _ (Array.getElem?_eq_some_iff.1 hR.out.2).1]; exact hR.out.2⟩
      have c2 : W2.cell? ⟨w.heap.size, i, none⟩ = some (.iface 178 (.pointer (some (ad (50 + i))))) := by rw [cell_of_row _ _ _ _ _ _ hR2.out.2]; exact ten_at ad i hlt'.out
      clear hF hb hR c1
      go_wp2_with fail
      clear c2
      go_loopw [5] (fun kv wr2 => ∃ k : Nat, k ≤ i ∧ kv = .int .i64 (k : Int) ∧ Hid (Below w.heap.size w wr2 ∧ wr2.heap[w.heap.size]? = some (.cells (tenV ad) T (0, 0)))) (fun kv _ => i - (intOf kv).toNat)
      case atStart => exact ⟨0, Nat.zero_le _, rfl, hR2.out⟩
      case round =>
        obtain ⟨k, hk, rfl, hQ⟩ := hrel
        clear hR2
        have k0 : (0 : Int) ≤ (k : Int) := Int.natCast_nonneg _
        by_cases hki : k < i
        · have k1 : (k : Int) < (i : Int) := Int.ofNat_lt.2 hki
          have k10 : (k : Int) < 10 := by have := hlt'.out; omega
          have c3 : wr.cell? ⟨w.heap.size, k, none⟩ = some (.iface 178 (.pointer (some (ad (50 + k))))) := by rw [cell_of_row _ _ _ _ _ _ hQ.out.2]; exact ten_at ad k (by have := hlt'.out; omega)
          have c4 : wr.cell? ⟨w.heap.size, i, none⟩ = some (.iface 178 (.pointer (some (ad (50 + i))))) := by rw [cell_of_row _ _ _ _ _ _ hQ.out.2]; exact ten_at ad i hlt'.out
          have hSw := hS'.out.1.below hQ.out.1
          obtain ⟨ca, ta, ha⟩ := hSw.1 k (by have := hlt'.out; omega)
          obtain ⟨cb, tb, hb⟩ := hSw.1 i hlt'.out
          have heq := fun n => run_eql_iface_ptr_other (P := Tryd.prog) (wr.drewN n) Tryd.underlying23 Tryd.underlying178 hi' hcmp hj' (by rw [hjs]; decide) (hSw.2 k i (by have := hlt'.out; omega) hlt'.out (by omega)) ha hb
          have hki' : Hid (k < i) := hki
          clear hSw ha hb hki hk
          go_wp2_with fail
          go_quiet (fail)
          go_wp2_with fail
          go_round
          case rel => exact ⟨k + 1, hki'.out, by go_num, hQ.out.1.trans (Du.drewN_below _ _ _), by rw [(Du.drewN_below _ _ _ : Below wr.heap.size wr _).block _ (Array.getElem?_eq_some_iff.1 hQ.out.2).1]; exact hQ.out.2⟩
          case measure => have := hki'.out; simp [intOf]; omega
        · have e : i = k := by omega
          subst e
          have k1 : ¬ (i : Int) < (i : Int) := by omega
          clear hki hk
          go_wp2_with fail
          go_round
          case rel => exact ⟨i + 1, T, hlt'.out, by go_num, hQ.out⟩
          case measure => have := hlt'.out; simp [intOf]; omega
    · have e : i = 10 := by omega
      subst e
      have hBw : Hid (Below w.heap.size w wr) := hR.out.1
      have hP := hRest wr hBw.out
      have hP' : Hid (Calls Tryd.prog 6 #[.string ⟨#[44]⟩] wr fun e w' => Below wr.heap.size wr w' ∧ ∃ x, e = .returned (.tuple #[.slice none 0 0, x]) ∧ Calls Tryd.prog 5 #[x] w' fun e w'' => ∃ p, e = .returned (.tuple #[.int .i64 52, p]) ∧ Below w'.heap.size w' w'') := hP
      clear g0 g1 g2 g3 g4 g5 g6 g7 g8 g9 hRest hi hlt hP hR
      go_wp2_with fail
      refine (hNil'.out _).mono ?_
      rintro e W2 ⟨rfl, hww⟩
      obtain rfl := hww.symm
      go_wp2_with fail
      refine hP'.out.mono ?_
      rintro e W3 ⟨hb3, x, rfl, hx⟩
      have hx' : Hid (Calls Tryd.prog 5 #[x] W3 fun e w'' => ∃ p, e = .returned (.tuple #[.int .i64 52, p]) ∧ Below W3.heap.size W3 w'') := hx
      have hB3 : Hid (Below w.heap.size w W3) := hBw.out.trans (hb3.mono hBw.out.size)
      clear hP' hb3 hx
      go_wp2_with fail
      refine hx'.out.mono ?_
      rintro e W4 ⟨q, rfl, hb4⟩
      have hfin : Hid (Below w.heap.size w W4) := hB3.out.trans (hb4.mono hB3.out.size)
      clear hx' hb4
      go_wp2_with fail
      go_ret
      exact ⟨rfl, hfin.out⟩
end Ke
end Go.Proofs.YtkknenmpdimdbaaDoor

namespace Go.Proofs.YtkknenmpdimdbaaDoor
namespace Ke
open Go.RowKit Go.WideShapes Go.ChangeShapes
set_option linter.unusedVariables false
set_option linter.unusedSimpArgs false
set_option maxRecDepth 100000

theorem etG : Tryd.prog.globalNamed "errors.errorType" = some 10 := by kernel_rfl
theorem rtT : (Tryd.prog.cutTypes.find? (·.1 == "internal/reflectlite.rtype")).map (·.2) = some 114 := by kernel_rfl
theorem oneRow : ((List.range Tryd.prog.types.size).filter fun t => Tryd.prog.rowNamed t [101, 114, 114, 111, 114]) = [23] := by kernel_rfl
theorem errT_of {W : World} (h : handlesMet Tryd.prog [("errors.errorType", Rows.laid_errors_errorType)] W) : ErrT W := by
  obtain ⟨name, u, ty, e1, e2, e3, e4, e5⟩ := h _ (List.mem_singleton.2 rfl)
  have en : name = [101, 114, 114, 111, 114] := (Option.some.inj e1).symm
  subst en
  obtain rfl := Option.some.inj (rtT.symm.trans e2)
  have hm : ty ∈ (List.range Tryd.prog.types.size).filter fun t => Tryd.prog.rowNamed t [101, 114, 114, 111, 114] := List.mem_filter.2 ⟨List.mem_range.2 e3, e4⟩
  rw [oneRow] at hm
  obtain rfl := List.mem_singleton.1 hm
  have hh : typeHandle Tryd.prog 23 = .pointer (some ⟨12, 23, none⟩) := by kernel_rfl
  rw [hh] at e5
  unfold ErrT
  simpa using World.var?_cell etG e5 0

theorem vars_sub {P : Program} {w : World} : ∀ {l' l : List (String × DataW Unit)}, l'.Sublist l → ∀ {ps : List MemPlace}, DataW.LaidVars P w l ps → ∃ ps', DataW.LaidVars P w l' ps' ∧ ps'.Sublist ps := by
  intro l' l hs
  induction hs with
  | slnil => exact fun {ps} h => ⟨ps, h, List.Sublist.refl _⟩
  | cons a _ ih =>
    intro ps h
    obtain ⟨n, d⟩ := a
    obtain ⟨g, t, cs, fuel, p, q, e1, e2, e3, e4, hr, rfl⟩ := h
    obtain ⟨q', hq, hs⟩ := ih hr
    exact ⟨q', hq, hs.trans (List.sublist_append_right _ _)⟩
  | cons_cons a _ ih =>
    intro ps h
    obtain ⟨n, d⟩ := a
    obtain ⟨g, t, cs, fuel, p, q, e1, e2, e3, e4, hr, rfl⟩ := h
    obtain ⟨q', hq, hs⟩ := ih hr
    exact ⟨_, ⟨g, t, cs, fuel, p, q', e1, e2, e3, e4, hq, rfl⟩, List.Sublist.append (List.Sublist.refl _) hs⟩
theorem laid_sub {P : Program} {w : World} {l' l : List (String × DataW Unit)} (hs : l'.Sublist l) (h : laidMet P l w) : laidMet P l' w := by
  obtain ⟨ps, hl, hnd, hrows⟩ := h
  obtain ⟨ps', hl', hs'⟩ := vars_sub hs hl
  exact ⟨ps', hl', hnd.sublist hs', fun b off hp => hrows b off (hs'.subset hp)⟩
theorem two_sub {α : Type} (l : List α) (i j : Nat) (hij : i < j) (hj : j < l.length) : List.Sublist [l[i]'(by omega), l[j]] l := by
  have e : l.drop i = l[i]'(by omega) :: l.drop (i + 1) := List.drop_eq_getElem_cons (by omega)
  have hm : l[j] ∈ l.drop (i + 1) := by
    have : l[j] = (l.drop (i + 1))[j - (i + 1)]'(by rw [List.length_drop]; omega) := by
      rw [List.getElem_drop]
      congr 1
      omega
    rw [this]
    exact List.getElem_mem _
  have h1 : List.Sublist [l[i]'(by omega), l[j]] (l.drop i) := by
    rw [e]
    exact (List.singleton_sublist.2 hm).cons_cons _
  exact h1.trans (List.drop_sublist _ _)
/-- A sentinel as the row lists it. -/
def snt (x : String × List UInt8 × Nat) : String × DataW Unit := (x.1, .iface "*errors.errorString" (.ptr (.agg [.lit (.string x.2.1)])))
theorem es_star : "*" ++ "errors.errorString" = "*errors.errorString" := by decide
theorem row_es (u : TypeId) (h : Tryd.prog.typeName? 3 u = some "*errors.errorString") : u = 178 :=
  typeName_ptr_named (nm := "errors.errorString") (by rw [es_star]; kernel_rfl) (by kernel_rfl) (by decide) u (by rw [es_star]; exact h)
theorem c_es : Tryd.prog.cellsOf 197 = 1 := by kernel_rfl
theorem c_st : Tryd.prog.cellsOf 9 = 1 := by kernel_rfl
theorem two_of {x y : String × List UInt8 × Nat} {W : World} (h : laidMet Tryd.prog [snt x, snt y] W)
    (hx : Tryd.prog.globalNamed x.1 = some x.2.2 ∧ (Tryd.prog.globals[x.2.2]?).map (·.type) = some 23) (hy : Tryd.prog.globalNamed y.1 = some y.2.2 ∧ (Tryd.prog.globals[y.2.2]?).map (·.type) = some 23) :
    ∃ a b : Addr, W.cell? ⟨x.2.2, 0, none⟩ = some (.iface 178 (.pointer (some a))) ∧ W.cell? ⟨y.2.2, 0, none⟩ = some (.iface 178 (.pointer (some b))) ∧ a ≠ b ∧ (∃ c t, W.heap[a.block]? = some (.cells c t (0, 0))) ∧ ∃ c t, W.heap[b.block]? = some (.cells c t (0, 0)) := by
  obtain ⟨a, b, s0, s1, c0, c1, t0, t1, h1, h2, _, _, _, _, _, _, h3, h4, h5⟩ := laid_sentinels2 h hx.1 hx.2 hy.1 hy.2 Tryd.underlying23 row_es Tryd.underlying178 Tryd.underlying197 rfl rfl Tryd.underlying9 c_es c_st
  exact ⟨a, b, by simpa using World.var?_cell hx.1 h1 0, by simpa using World.var?_cell hy.1 h2 0, h3, ⟨c0, t0, h4⟩, ⟨c1, t1, h5⟩⟩
def XS : List (String × List UInt8 × Nat) := [("roster/dn.ErrLong", [110, 97, 109, 101, 32, 116, 111, 111, 32, 108, 111, 110, 103], 0), ("roster/dn.ErrUTF8", [110, 111, 32, 85, 84, 70, 45, 56], 1), ("roster/dn.ErrType", [110, 111, 32, 97, 116, 116, 114, 105, 98, 117, 116, 101, 32, 116, 121, 112, 101], 2), ("roster/dn.ErrEquals", [110, 111, 32, 101, 113, 117, 97, 108, 115, 32, 115, 105, 103, 110], 3), ("roster/dn.ErrEscape", [110, 111, 116, 104, 105, 110, 103, 32, 114, 105, 103, 104, 116, 32, 98, 101, 104, 105, 110, 100, 32, 97, 32, 98, 97, 99, 107, 115, 108, 97, 115, 104], 4), ("roster/dn.ErrChar", [97, 32, 98, 121, 116, 101, 32, 116, 104, 97, 116, 32, 109, 117, 115, 116, 32, 98, 101, 32, 101, 115, 99, 97, 112, 101, 100], 5), ("roster/dn.ErrHex", [110, 111, 32, 104, 101, 120, 32, 118, 97, 108, 117, 101], 6), ("roster/dn.ErrTwice", [97, 32, 116, 121, 112, 101, 32, 116, 119, 105, 99, 101, 32, 105, 110, 32, 97, 32, 112, 97, 114, 116], 7), ("roster/dn.ErrWide", [116, 111, 111, 32, 109, 97, 110, 121, 32, 112, 97, 114, 116, 115, 32, 111, 114, 32, 112, 97, 105, 114, 115], 8), ("roster/dn.ErrMade", [97, 32, 110, 97, 109, 101, 32, 116, 104, 97, 116, 32, 110, 111, 32, 116, 101, 120, 116, 32, 109, 101, 97, 110, 115], 9)]
theorem xs_glob : ∀ x ∈ XS, Tryd.prog.globalNamed x.1 = some x.2.2 ∧ (Tryd.prog.globals[x.2.2]?).map (·.type) = some 23 := by
  intro x hx
  simp only [XS, List.mem_cons, List.mem_nil_iff, or_false] at hx
  rcases hx with rfl | rfl | rfl | rfl | rfl | rfl | rfl | rfl | rfl | rfl <;> exact ⟨by kernel_rfl, by kernel_rfl⟩
theorem pair_of {W : World} (h : laidMet Tryd.prog (XS.map snt) W) (i j : Fin 10) (hij : i < j) :
    ∃ a b : Addr, W.cell? ⟨(XS[i.val]'i.isLt).2.2, 0, none⟩ = some (.iface 178 (.pointer (some a))) ∧ W.cell? ⟨(XS[j.val]'j.isLt).2.2, 0, none⟩ = some (.iface 178 (.pointer (some b))) ∧ a ≠ b ∧ (∃ c t, W.heap[a.block]? = some (.cells c t (0, 0))) ∧ ∃ c t, W.heap[b.block]? = some (.cells c t (0, 0)) := by
  have hs : List.Sublist [snt (XS[i.val]'i.isLt), snt (XS[j.val]'j.isLt)] (XS.map snt) := by
    have e : [snt (XS[i.val]'i.isLt), snt (XS[j.val]'j.isLt)] = [XS[i.val]'i.isLt, XS[j.val]'j.isLt].map snt := rfl
    rw [e]
    exact (two_sub XS i.val j.val hij j.isLt).map snt
  exact two_of (laid_sub hs h) (xs_glob _ (List.getElem_mem _)) (xs_glob _ (List.getElem_mem _))
def adOf (W : World) (k : Nat) : Addr := match W.cell? ⟨(XS.getD (k - 50) ("", [], 0)).2.2, 0, none⟩ with
  | some (.iface _ (.pointer (some a))) => a
  | _ => ⟨0, 0, none⟩
theorem ad_eq {W : World} {i : Nat} (hi : i < XS.length) {a : Addr} {t : TypeId} (h : W.cell? ⟨(XS[i]'hi).2.2, 0, none⟩ = some (.iface t (.pointer (some a)))) : adOf W (50 + i) = a := by
  unfold adOf
  have e : XS.getD (50 + i - 50) ("", [], 0) = XS[i]'hi := by rw [Nat.add_sub_cancel_left]; simp only [List.getD, List.getElem?_eq_getElem hi, Option.getD_some]
  rw [e, h]
theorem sen_ix : ∀ x ∈ SenL, ∃ i : Fin 10, x = (50 + i.val, (XS[i.val]'i.isLt).2.2) := by
  intro x hx
  simp only [SenL, List.mem_cons, List.mem_nil_iff, or_false] at hx
  rcases hx with rfl | rfl | rfl | rfl | rfl | rfl | rfl | rfl | rfl | rfl
  · exact ⟨0, rfl⟩
  · exact ⟨1, rfl⟩
  · exact ⟨2, rfl⟩
  · exact ⟨3, rfl⟩
  · exact ⟨4, rfl⟩
  · exact ⟨5, rfl⟩
  · exact ⟨6, rfl⟩
  · exact ⟨7, rfl⟩
  · exact ⟨8, rfl⟩
  · exact ⟨9, rfl⟩
theorem sen_of {W : World} (h : laidMet Tryd.prog (XS.map snt) W) : Sen (adOf W) W := by
  have one : ∀ i : Fin 10, W.cell? ⟨(XS[i.val]'i.isLt).2.2, 0, none⟩ = some (.iface 178 (.pointer (some (adOf W (50 + i.val))))) ∧ ∃ c t, W.heap[(adOf W (50 + i.val)).block]? = some (.cells c t (0, 0)) := fun i => by
    by_cases hi : i < 9
    · obtain ⟨a, b, h1, h2, h3, h4, h5⟩ := pair_of h i 9 hi
      rw [ad_eq i.isLt h1]
      exact ⟨h1, h4⟩
    · have h0 : (0 : Fin 10) < i := by
        rw [Fin.lt_def] at hi ⊢
        show 0 < i.val
        have : (9 : Fin 10).val = 9 := rfl
        omega
      obtain ⟨a, b, h1, h2, h3, h4, h5⟩ := pair_of h 0 i h0
      rw [ad_eq i.isLt h2]
      exact ⟨h2, h5⟩
  have two : ∀ i j : Fin 10, i < j → adOf W (50 + i.val) ≠ adOf W (50 + j.val) := fun i j hij => by
    obtain ⟨a, b, h1, h2, h3, h4, h5⟩ := pair_of h i j hij
    rw [ad_eq i.isLt h1, ad_eq j.isLt h2]
    exact h3
  refine ⟨fun x hx => ?_, fun x hx y hy hne => ?_⟩
  · obtain ⟨i, rfl⟩ := sen_ix x hx
    exact one i
  · obtain ⟨i, rfl⟩ := sen_ix x hx
    obtain ⟨j, rfl⟩ := sen_ix y hy
    have hij : i ≠ j := fun e => hne (by rw [e])
    rcases Nat.lt_or_ge i.val j.val with q | q
    · exact two i j (Fin.lt_def.2 q)
    · have q' : j.val < i.val := by
        have : i.val ≠ j.val := fun e => hij (Fin.ext e)
        omega
      exact fun e => two j i (Fin.lt_def.2 q') e.symm
theorem laid_st {W : World} (hL : laidMetH Tryd.prog Rows.dnStrangersRow.laid W) : Sen (adOf W) W ∧ ErrT W := by
  have h' : laidMet Tryd.prog (XS.map snt) W ∧ handlesMet Tryd.prog [("errors.errorType", Rows.laid_errors_errorType)] W := hL
  exact ⟨sen_of h'.1, errT_of h'.2⟩
theorem sen_snt {ad : Nat → Addr} {W : World} (h : Sen ad W) : Snt ad W := by
  have hm : ∀ i, i < 10 → ∃ g, (50 + i, g) ∈ SenL := fun i hi => by
    match i, hi with
    | 0, _ => exact ⟨_, by simp [SenL]; rfl⟩
    | 1, _ => exact ⟨_, by simp [SenL]; rfl⟩
    | 2, _ => exact ⟨_, by simp [SenL]; rfl⟩
    | 3, _ => exact ⟨_, by simp [SenL]; rfl⟩
    | 4, _ => exact ⟨_, by simp [SenL]; rfl⟩
    | 5, _ => exact ⟨_, by simp [SenL]; rfl⟩
    | 6, _ => exact ⟨_, by simp [SenL]; rfl⟩
    | 7, _ => exact ⟨_, by simp [SenL]; rfl⟩
    | 8, _ => exact ⟨_, by simp [SenL]; rfl⟩
    | 9, _ => exact ⟨_, by simp [SenL]; rfl⟩
    | n + 10, h => omega
  refine ⟨fun i hi => ?_, fun i j hi hj hne => ?_⟩
  · obtain ⟨g, hg⟩ := hm i hi
    exact (h.1 _ hg).2
  · obtain ⟨g, hg⟩ := hm i hi
    obtain ⟨g', hg'⟩ := hm j hj
    exact h.2 _ hg _ hg' (by simpa using hne)
/-- The reasons by the addresses. -/
def evB (ad : Nat → Addr) (k : Nat) : TypeId × Value := (178, .pointer (some (ad k)))
theorem sen_ev {ad : Nat → Addr} {W : World} (h : Sen ad W) : Pa.EvA (evB ad) W := fun x hx => (h.1 x hx).1
theorem prs_comma : Pa.prs (fun _ => none) [44] = some (.error (52, 1)) := by kernel_rfl
theorem s_comma : S [44] = ⟨#[44]⟩ := rfl
theorem strangers_any (W : World) (hS : Sen (adOf W) W) (hT : ErrT W) : Calls Tryd.prog 3 #[] W fun e w' => e = .returned (.bool true) ∧ Below W.heap.size W w' := by
  have hg := fun x (hx : x ∈ SenL) => (hS.1 x hx).1
  refine dnStrangers_walk (adOf W) W (hg (50, 0) (by decide)) (hg (51, 1) (by decide)) (hg (52, 2) (by decide)) (hg (53, 3) (by decide)) (hg (54, 4) (by decide)) (hg (55, 5) (by decide)) (hg (56, 6) (by decide)) (hg (57, 7) (by decide)) (hg (58, 8) (by decide)) (hg (59, 9) (by decide)) (sen_snt hS) hT fault_nil (fun w1 hb => ?_)
  have hS1 := hS.below hb
  refine (Pa.parse_any (fun _ => none) (evB (adOf W)) [44] w1 _ (by decide) (sen_ev hS1) (fun b r R p W h => by cases h) prs_comma).mono ?_
  rintro e w' ⟨hb2, ⟨D, va, c, Ls, h1, h2, h3, h4⟩ | ⟨k, m, h1, h2⟩⟩
  · cases h1
  · injection h1 with h1
    injection h1 with h1 h1'
    subst h1 h1'
    refine ⟨hb2, _, h2, ?_⟩
    refine (fault_52 (adOf W) _ w' (hS1.below hb2) ((hT.below hb).below hb2)).mono fun e w'' h => ⟨_, h.1, h.2⟩
end Ke
end Go.Proofs.YtkknenmpdimdbaaDoor
