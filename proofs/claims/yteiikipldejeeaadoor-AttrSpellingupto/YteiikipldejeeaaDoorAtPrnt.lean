import Derived.Test.YteiikipldejeeaaDoorAtBuild
import Derived.Lib.AppendZeros
namespace Go.Proofs.YteiikipldejeeaaDoor
open Go.RowKit

/-- What Print writes, of the first i options. -/
def prt (t : List UInt8) (X : Nat → ByteArray) : Nat → List UInt8
  | 0 => t
  | i + 1 => prt t X i ++ [59] ++ (X i).data.toList
theorem prt_len (t : List UInt8) (X : Nat → ByteArray) (i : Nat) : (prt t X i).length = t.length + tot X i := by
  induction i with
  | zero => rfl
  | succ i ih =>
    show (prt t X i ++ [59] ++ (X i).data.toList).length = t.length + (tot X i + ((X i).size + 1))
    rw [List.length_append, List.length_append, ih, size_l]
    simp
    omega
theorem heap_new_cells (w : World) (o : Obj) : (w.alloc o).heap[w.heap.size]? = some o := heap_alloc_new w o

set_option maxRecDepth 100000 in
set_option maxHeartbeats 1000000 in
theorem attrPrint_any (t : ByteArray) (a : Option Addr) (n c : Nat) (X : Nat → ByteArray) (w : World) (hX : Strs w a n X) (hsz : t.size + tot X n ≤ 4194304) :
    Calls Tryd.prog 13 #[.agg #[.string t, .slice a n c]] w fun e w' => e = .returned (.string (S (prt t.data.toList X n))) ∧ Below w.heap.size w w' := by
  have hn : n ≤ 4194304 := by have := tot_ge X n; omega
  have hsz0 : Hid (t.size + tot X n ≤ 4194304) := hsz
  obtain ⟨W0, hW0⟩ : ∃ W0, (w.alloc (.cells #[.string t, .slice a n c] 44)).alloc (.cells #[.pointer none, .slice none 0 0] 66) = W0 := ⟨_, rfl⟩
  have hI0 : IsB (w.heap.size + 1) (w.heap.size + 1) [] W0 := by
    have h := Lib.fresh_isBuilder 66 5 (w.alloc (.cells #[.string t, .slice a n c] 44))
    rw [World.size_alloc, hW0] at h
    exact h
  have HB0 : Below w.heap.size w W0 := by rw [← hW0]; exact ((Below.refl _ _).alloc (Nat.le_refl _) _).alloc (by simp) _
  have hs0 : Hid (W0.heap.size = w.heap.size + 2) := by unfold Hid; rw [← hW0]; simp
  have q0 : W0.cell? ⟨w.heap.size, 0, none⟩ = some (.string t) := by rw [← hW0]; simp [go_sem]
  have q1 : W0.cell? ⟨w.heap.size, 1, none⟩ = some (.slice a n c) := by rw [← hW0]; simp [go_sem]
  have hws : Hid (Calls Tryd.prog 24 #[.pointer (some ⟨w.heap.size + 1, 0, none⟩), .string t] W0 fun e w' => e = .returned (.tuple #[.int .i64 t.size, .nilIface]) ∧ IsB (w.heap.size + 1) (w.heap.size + 1) ([] ++ t.data.toList) w' ∧ Below (w.heap.size + 1) W0 w') := writeString_any _ _ [] t W0 hI0 (by simp; omega) (by have := hs0.out; omega)
  clear hI0 hsz
  go_enter Tryd.func13, Tryd.ntmps13
  go_wp2_with fail
  refine hws.out.mono ?_
  rintro e w1 ⟨rfl, hI1, hb1⟩
  have q1' : w1.cell? ⟨w.heap.size, 1, none⟩ = some (.slice a n c) := by rw [hb1.cell (by simp)]; exact q1
  have HB1 : Hid (Below w.heap.size w w1) := HB0.trans (hb1.mono (by omega))
  have hs1 : Hid (w.heap.size + 2 ≤ w1.heap.size) := by have := hs0.out; have := hb1.size; unfold Hid; omega
  have hI1' : Hid (IsB (w.heap.size + 1) (w.heap.size + 1) t.data.toList w1) := hI1
  clear q1 q0 HB0 hb1 hI1 hW0 hws
  go_wp2_with fail
  go_loopw [12] (fun iv wr => ∃ i : Nat, i ≤ n ∧ iv = .int .i64 (i : Int) ∧ Hid (IsB (w.heap.size + 1) (w.heap.size + 1) (prt t.data.toList X i) wr) ∧ Hid (Below (w.heap.size + 1) w1 wr)) (fun iv _ => n - (intOf iv).toNat)
  case atStart => exact ⟨0, Nat.zero_le _, rfl, hI1', Below.refl _ _⟩
  case round =>
    obtain ⟨i, hi, rfl, hI, hB⟩ := hrel
    clear hI1'
    have HB : Below w.heap.size w wr := HB1.out.trans (hB.out.mono (by omega))
    have hl := prt_len t.data.toList X i
    have htm := tot_mono X i n hi
    rw [size_l] at hl
    by_cases hlt : i < n
    · obtain ⟨b, off, rfl, hc⟩ := (hX.below HB) i hlt
      have htm2 : tot X i + ((X i).size + 1) ≤ tot X n := tot_mono X (i + 1) n hlt
      have hwr : w.heap.size + 1 ≤ wr.heap.size := by have := hs1.out; have := hB.out.size; omega
      have hz := hsz0.out
      have hlen : Hid ((prt t.data.toList X i).length ≤ 1099511627776) := by unfold Hid; omega
      have hlen2 : Hid ((prt t.data.toList X i ++ [59]).length + (X i).size ≤ 1099511627776) := by unfold Hid; rw [List.length_append]; simp; omega
      have hwb : Hid (Calls Tryd.prog 25 #[.pointer (some ⟨w.heap.size + 1, 0, none⟩), .int .u8 59] wr fun e w' => e = .returned .nilIface ∧ IsB (w.heap.size + 1) (w.heap.size + 1) (prt t.data.toList X i ++ [59]) w' ∧ Below (w.heap.size + 1) wr w') := writeByte_any _ _ _ 59 wr hI.out hlen.out hwr
      have hwr' : Hid (w.heap.size + 1 ≤ wr.heap.size) := hwr
      have i0 : (0 : Int) ≤ (i : Int) := Int.natCast_nonneg _
      have i1 : (i : Int) < (n : Int) := Int.ofNat_lt.2 hlt
      clear htm htm2 hl hI hwr hz HB
      go_wp2_with fail
      refine hwb.out.mono ?_
      rintro e w2 ⟨rfl, hI2, hb2⟩
      have hn2 : w.heap.size + 1 ≤ w2.heap.size := Nat.le_trans hwr'.out hb2.size
      have hws : Hid (Calls Tryd.prog 24 #[.pointer (some ⟨w.heap.size + 1, 0, none⟩), .string (X i)] w2 fun e w' => e = .returned (.tuple #[.int .i64 (X i).size, .nilIface]) ∧ IsB (w.heap.size + 1) (w.heap.size + 1) (prt t.data.toList X i ++ [59] ++ (X i).data.toList) w' ∧ Below (w.heap.size + 1) w2 w') := writeString_any _ _ _ (X i) w2 hI2 hlen2.out hn2
      have hb2' : Hid (Below (w.heap.size + 1) w1 w2) := hB.out.trans hb2
      clear hI2 hb2 hn2 hwb
      go_wp2_with fail
      refine hws.out.mono ?_
      rintro e w3 ⟨rfl, hI3, hb3⟩
      have hI3' : Hid (IsB (w.heap.size + 1) (w.heap.size + 1) (prt t.data.toList X (i + 1)) w3) := hI3
      have hb3' : Hid (Below (w.heap.size + 1) w1 w3) := hb2'.out.trans hb3
      clear hI3 hb3 hws
      go_wp2_with fail
      go_roundw
      case rel => exact ⟨i + 1, hlt, by simp, hI3', hb3'⟩
      case measure => simp [intOf]; omega
    · have hie : i = n := by omega
      subst hie
      have hst : Hid (Calls Tryd.prog 26 #[.pointer (some ⟨w.heap.size + 1, 0, none⟩)] wr fun e w' => e = .returned (.string (S (prt t.data.toList X i))) ∧ Below (w.heap.size + 1) wr w') := bString_any _ _ _ wr hI.out (by have := hs1.out; have := hB.out.size; omega)
      have HB' : Hid (Below w.heap.size w wr) := HB
      clear hI hB hl htm HB
      go_wp2_with fail
      refine hst.out.mono ?_
      rintro e w2 ⟨rfl, hb2⟩
      have HB2 : Below w.heap.size w w2 := HB'.out.trans (hb2.mono (by omega))
      clear hb2 hst
      go_wp2_with fail
      go_ret
      exact ⟨rfl, HB2⟩
end Go.Proofs.YteiikipldejeeaaDoor
