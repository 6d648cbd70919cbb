import Derived.Test.YtnboimoncpphlabDoorRfDesc
namespace Go.Proofs.YtnboimoncpphlabDoor
open Go.RowKit
open TextMath (fold lo)
set_option linter.unusedVariables false

theorem fold_appR (a b : List UInt8) : fold (a ++ b) = fold a ++ fold b := by simp [fold]
def endR : Nat → ByteArray
  | 0 => ⟨#[]⟩
  | 1 => ⟨#[97]⟩
  | 2 => ⟨#[49]⟩
  | _ => ⟨#[46, 49]⟩
theorem endR_size (i : Nat) : (endR i).size ≤ 2 := by
  unfold endR
  split <;> decide
theorem endR_fold (i : Nat) : fold (endR i).data.toList = (endR i).data.toList := by
  unfold endR
  split <;> decide
def okR (s : ByteArray) : Bool := dscB (fold s.data.toList)
theorem okR_app (t : ByteArray) (i : Nat) : okR (t ++ endR i) = dacc (drun 0 (fold t.data.toList ++ (endR i).data.toList)) := by
  unfold okR
  rw [dsc_dfaB, ByteArray.data_append, Array.toList_append, fold_appR, endR_fold]
theorem goesR_ends (l : List UInt8) : goesL l = (dacc (drun 0 (l ++ (endR 0).data.toList)) || dacc (drun 0 (l ++ (endR 1).data.toList)) || dacc (drun 0 (l ++ (endR 2).data.toList)) || dacc (drun 0 (l ++ (endR 3).data.toList))) := by
  have : (endR 0).data.toList = [] := rfl
  rw [this, List.append_nil]
  rfl
set_option maxRecDepth 100000 in
set_option maxHeartbeats 2000000 in
theorem goesR_any (t : ByteArray) (w : World) (ht : t.size ≤ 4194300) :
    Calls Tryd.prog 70 #[.string t, .bool false] w fun e w' => e = .returned (.bool (goesL (fold t.data.toList))) ∧ Below w.heap.size w w' := by
  have hP : ∀ i W, Hid (Calls Tryd.prog 53 #[.string (t ++ endR i)] W fun e w' => e = .returned (.bool (okR (t ++ endR i))) ∧ Below W.heap.size W w') := fun i W => isDesc_any _ W (by
    have := endR_size i
    rw [ByteArray.size_append]
    omega)
  have hg : Hid (goesL (fold t.data.toList) = (okR (t ++ endR 0) || okR (t ++ endR 1) || okR (t ++ endR 2) || okR (t ++ endR 3))) := by
    unfold Hid
    rw [goesR_ends, okR_app, okR_app, okR_app, okR_app]
  obtain ⟨g, hgg⟩ : ∃ g, goesL (fold t.data.toList) = g := ⟨_, rfl⟩
  rw [hgg]
  rw [hgg] at hg
  clear hgg
  obtain ⟨W0, hW0⟩ : ∃ W0, w.alloc (.cells #[.string ⟨#[]⟩, .string ⟨#[97]⟩, .string ⟨#[49]⟩, .string ⟨#[46, 49]⟩] 124) = W0 := ⟨_, rfl⟩
  have hB0 : Below w.heap.size w W0 := by rw [← hW0]; exact (Below.refl _ _).alloc (Nat.le_refl _) _
  have h0 : W0.heap[w.heap.size]? = some (.cells #[.string ⟨#[]⟩, .string ⟨#[97]⟩, .string ⟨#[49]⟩, .string ⟨#[46, 49]⟩] 124 (0, 0)) := by rw [← hW0]; exact heap_alloc_last w _
  have hI0 : Hid (Below w.heap.size w W0 ∧ W0.heap[w.heap.size]? = some (.cells #[.string ⟨#[]⟩, .string ⟨#[97]⟩, .string ⟨#[49]⟩, .string ⟨#[46, 49]⟩] 124 (0, 0))) := ⟨hB0, h0⟩
  clear hB0 h0
  go_enter Tryd.func70, Tryd.ntmps70
  go_wp2_with fail
  go_loopw [6] (fun iv wr => ∃ i : Nat, i ≤ 4 ∧ iv = .int .i64 (i : Int) ∧ Hid (∀ j, j < i → okR (t ++ endR j) = false) ∧ Hid (Below w.heap.size w wr ∧ wr.heap[w.heap.size]? = some (.cells #[.string ⟨#[]⟩, .string ⟨#[97]⟩, .string ⟨#[49]⟩, .string ⟨#[46, 49]⟩] 124 (0, 0)))) (fun iv _ => 4 - (intOf iv).toNat)
  case atStart => exact ⟨0, by omega, rfl, fun j hj => by omega, hI0⟩
  case round =>
    obtain ⟨i, hi, rfl, hno, hI⟩ := hrel
    clear hI0 hW0
    by_cases hlt : i < 4
    · have hc : wr.cell? ⟨w.heap.size, i, none⟩ = some (.string (endR i)) := by
        rw [(row_cell hI.out.2 (j := i) hlt).1]
        rcases i with _ | _ | _ | _ | i
        · rfl
        · rfl
        · rfl
        · rfl
        · omega
      have i0 : (0 : Int) ≤ (i : Int) := Int.natCast_nonneg _
      have i1 : (i : Int) < 4 := by omega
      have hPi := hP i wr
      have hmx : ¬ t.size + (endR i).size > 9223372036854775807 := by
        have := endR_size i
        omega
      obtain ⟨r, hr⟩ : ∃ r, okR (t ++ endR i) = r := ⟨_, rfl⟩
      rw [hr] at hPi
      have hr' : Hid (okR (t ++ endR i) = r) := hr
      clear hr hP
      go_wp2_with fail
      refine hPi.out.mono ?_
      rintro e w1 ⟨rfl, hb1⟩
      have hI1 : Hid (Below w.heap.size w w1 ∧ w1.heap[w.heap.size]? = some (.cells #[.string ⟨#[]⟩, .string ⟨#[97]⟩, .string ⟨#[49]⟩, .string ⟨#[46, 49]⟩] 124 (0, 0))) := ⟨hI.out.1.trans (hb1.mono hI.out.1.size), (hb1.block _ (Array.getElem?_eq_some_iff.1 hI.out.2).1).trans hI.out.2⟩
      clear hPi hb1 hI hc
      cases r with
      | true =>
        have hgt : Hid (g = true) := by
          unfold Hid
          rw [hg.out]
          have h := hr'.out
          rcases i with _ | _ | _ | _ | i
          · rw [h]; rfl
          · rw [h, Bool.or_true]; rfl
          · rw [h, Bool.or_true]; rfl
          · rw [h, Bool.or_true]
          · omega
        go_wp2_with fail
        go_ret
        exact ⟨by rw [hgt.out]; rfl, hI1.out.1⟩
      | false =>
        go_wp2_with fail
        go_roundw
        case rel => exact ⟨i + 1, by omega, by simp, fun j hj => by
                      rcases Nat.lt_or_ge j i with h | h
                      · exact hno.out j h
                      · have : j = i := by omega
                        subst this
                        exact hr'.out, hI1⟩
        case measure => simp [intOf]; omega
    · have i1 : ¬ (i : Int) < 4 := by omega
      have hgf : Hid (g = false) := by
        unfold Hid
        rw [hg.out, hno.out 0 (by omega), hno.out 1 (by omega), hno.out 2 (by omega), hno.out 3 (by omega)]
        rfl
      go_wp2_with fail
      go_ret
      exact ⟨by rw [hgf.out]; rfl, hI.out.1⟩
theorem cut_lR (s : ByteArray) (n : Nat) : (s.extract 0 n).data.toList = s.data.toList.take n := by
  rw [ByteArray.data_extract, Array.toList_extract, List.extract_eq_take_drop]
  simp
theorem drun_front (l : List UInt8) (a b : Nat) (h : a ≤ b) (hb : drun 0 (l.take b) ≠ 9) : drun 0 (l.take a) ≠ 9 := fun q => hb (by
  have e : (l.take b).take a ++ (l.take b).drop a = l.take b := List.take_append_drop a (l.take b)
  rw [List.take_take, Nat.min_eq_left h] at e
  rw [← e, drun_app, q, drun9])
/-- Whether the first n bytes go on. -/
def onR (s : ByteArray) (n : Nat) : Bool := goesL (fold (s.extract 0 n).data.toList)
theorem onR_iff (s : ByteArray) (n : Nat) (hn : n ≤ s.size) : onR s n = decide (n ≤ plc 0 (fold s.data.toList)) := by
  unfold onR
  rw [goes_iff, cut_lR]
  have e : fold (s.data.toList.take n) = (fold s.data.toList).take n := by simp [fold]
  rw [e, Bool.eq_iff_iff, decide_eq_true_iff, decide_eq_true_iff]
  have hl : (fold s.data.toList).length = s.size := by rw [fold_len, size_l]
  constructor
  · intro h
    rcases Nat.lt_or_ge (plc 0 (fold s.data.toList)) n with q | q
    · exfalso
      exact drun_front _ _ n (by omega) h (plc_with _ 0 (by omega))
    · exact q
  · intro h
    exact drun_front _ n _ h (plc_ahead _ 0 (by decide))
set_option maxRecDepth 100000 in
set_option maxHeartbeats 2000000 in
theorem placeR_any (s : ByteArray) (w : World) (hs : s.size ≤ 4194300) :
    Calls Tryd.prog 54 #[.string s, .bool false] w fun e w' => e = .returned (.int .i64 (plc 0 (fold s.data.toList) : Int)) ∧ Below w.heap.size w w' := by
  obtain ⟨p, hp⟩ : ∃ p, plc 0 (fold s.data.toList) = p := ⟨_, rfl⟩
  have hon : Hid (∀ n, n ≤ s.size → onR s n = decide (n ≤ p)) := fun n hn => by rw [← hp]; exact onR_iff s n hn
  have hps : p ≤ s.size := by
    rw [← hp]
    have := plc_le (fold s.data.toList) 0
    rw [fold_len, size_l] at this
    exact this
  rw [hp]
  have hG : ∀ n W, Hid (Calls Tryd.prog 70 #[.string (s.extract 0 n), .bool false] W fun e w' => e = .returned (.bool (onR s n)) ∧ Below W.heap.size W w') := fun n W => goesR_any _ W (by rw [ByteArray.size_extract]; omega)
  have hps' : Hid (p ≤ s.size) := hps
  clear hp hps
  go_enter Tryd.func54, Tryd.ntmps54
  go_wp2_with fail
  go_loopw [5, 6] (fun av bv wr => ∃ a b : Nat, a ≤ b ∧ b ≤ s.size ∧ av = .int .i64 (a : Int) ∧ bv = .int .i64 (b : Int) ∧ Hid (a ≤ p ∧ p ≤ b) ∧ Hid (Below w.heap.size w wr)) (fun av bv _ => (intOf bv).toNat - (intOf av).toNat)
  case atStart => exact ⟨0, s.size, Nat.zero_le _, Nat.le_refl _, rfl, rfl, ⟨Nat.zero_le _, hps'.out⟩, Below.refl _ _⟩
  case round =>
    obtain ⟨a, b, hab, hb, rfl, rfl, hap, hB⟩ := hrel
    by_cases hlt : a < b
    · have h1 : (a : Int) < (b : Int) := Int.ofNat_lt.2 hlt
      obtain ⟨m, hm⟩ : ∃ m, (a + b + 1) / 2 = m := ⟨_, rfl⟩
      have hm1 : a + 1 ≤ m ∧ m ≤ b := by omega
      have hdiv : ((a : Int) + (b : Int) + 1).tdiv 2 = (m : Int) := by
        rw [show (a : Int) + (b : Int) + 1 = ((a + b + 1 : Nat) : Int) by omega, ← hm]
        rfl
      have hGm := hG m wr
      have hom := hon.out m (by omega)
      rw [hom] at hGm
      have m0 : (0 : Int) ≤ (m : Int) := Int.natCast_nonneg _
      have m1 : (m : Int) ≤ (s.size : Int) := by omega
      have hm2 : Hid (a + 1 ≤ m ∧ m ≤ b ∧ b ≤ s.size) := ⟨hm1.1, hm1.2, hb⟩
      have hs4 : s.size ≤ 4194300 := hs
      clear hm hm1 hom hG
      by_cases hmp : m ≤ p
      · rw [decide_eq_true hmp] at hGm
        have hmp' : Hid (m ≤ p) := hmp
        clear hmp
        go_wp2_with fail
        refine hGm.out.mono ?_
        rintro e w1 ⟨rfl, hb1⟩
        have o1 : Hid (Below w.heap.size w w1) := hB.out.trans (hb1.mono hB.out.size)
        clear hGm hb1
        go_wp2_with fail
        go_roundw
        case rel => exact ⟨m, b, hm2.out.2.1, hm2.out.2.2, rfl, rfl, ⟨hmp'.out, hap.out.2⟩, o1⟩
        case measure => have := hm2.out; simp [intOf]; omega
      · rw [decide_eq_false hmp] at hGm
        have hmp' : Hid (¬ m ≤ p) := hmp
        clear hmp
        go_wp2_with fail
        refine hGm.out.mono ?_
        rintro e w1 ⟨rfl, hb1⟩
        have o1 : Hid (Below w.heap.size w w1) := hB.out.trans (hb1.mono hB.out.size)
        clear hGm hb1
        go_wp2_with fail
        go_roundw
        case rel =>
          have h3 := hm2.out
          have h4 := hmp'.out
          have h5 := hap.out
          refine ⟨a, m - 1, by omega, by omega, rfl, ?_, ⟨h5.1, by omega⟩, o1⟩
          congr 1
          omega
        case measure => have := hm2.out; simp [intOf]; omega
    · have hpe : Hid (p = a) := by have := hap.out; unfold Hid; omega
      have h1 : ¬ (a : Int) < (b : Int) := by omega
      go_wp2_with fail
      go_ret
      exact ⟨by rw [hpe.out]; rfl, hB.out⟩
end Go.Proofs.YtnboimoncpphlabDoor
