import Derived.Test.YtfmhcgadgakbhaaDoorRfTm
import Derived.Test.YtfmhcgadgakbhaaDoorAtCanl
namespace Go.Proofs.YtfmhcgadgakbhaaDoor
open Go.RowKit
open TextMath (fold lo)
set_option linter.unusedVariables false

def okT (s : ByteArray) : Bool := typB (fold s.data.toList)
theorem okT_app (t : ByteArray) (i : Nat) : okT (t ++ endR i) = typB (fold t.data.toList ++ (endR i).data.toList) := by
  unfold okT
  rw [ByteArray.data_append, Array.toList_append, fold_appR, endR_fold]
theorem goesT_ends (l : List UInt8) : goesT l = (typB (l ++ (endR 0).data.toList) || typB (l ++ (endR 1).data.toList) || typB (l ++ (endR 2).data.toList) || typB (l ++ (endR 3).data.toList)) := by
  have : (endR 0).data.toList = [] := rfl
  rw [this, List.append_nil]
  rfl
set_option maxRecDepth 100000 in
set_option maxHeartbeats 2000000 in
theorem goesRT_any (t : ByteArray) (w : World) (ht : t.size ≤ 4194300) :
    Calls Tryd.prog 67 #[.string t, .bool true] w fun e w' => e = .returned (.bool (goesT (fold t.data.toList))) ∧ Below w.heap.size w w' := by
  have hP : ∀ i W, Hid (Calls Tryd.prog 49 #[.string (t ++ endR i)] W fun e w' => e = .returned (.bool (okT (t ++ endR i))) ∧ Below W.heap.size W w') := fun i W => isType_any _ W (by
    have := endR_size i
    rw [ByteArray.size_append]
    omega)
  have hg : Hid (goesT (fold t.data.toList) = (okT (t ++ endR 0) || okT (t ++ endR 1) || okT (t ++ endR 2) || okT (t ++ endR 3))) := by
    unfold Hid
    rw [goesT_ends, okT_app, okT_app, okT_app, okT_app]
  obtain ⟨g, hgg⟩ : ∃ g, goesT (fold t.data.toList) = g := ⟨_, rfl⟩
  rw [hgg]
  rw [hgg] at hg
  clear hgg
  obtain ⟨W0, hW0⟩ : ∃ W0, w.alloc (.cells #[.string ⟨#[]⟩, .string ⟨#[97]⟩, .string ⟨#[49]⟩, .string ⟨#[46, 49]⟩] 141) = W0 := ⟨_, rfl⟩
  have hB0 : Below w.heap.size w W0 := by rw [← hW0]; exact (Below.refl _ _).alloc (Nat.le_refl _) _
  have h0 : W0.heap[w.heap.size]? = some (.cells #[.string ⟨#[]⟩, .string ⟨#[97]⟩, .string ⟨#[49]⟩, .string ⟨#[46, 49]⟩] 141 (0, 0)) := by rw [← hW0]; exact heap_alloc_last w _
  have hI0 : Hid (Below w.heap.size w W0 ∧ W0.heap[w.heap.size]? = some (.cells #[.string ⟨#[]⟩, .string ⟨#[97]⟩, .string ⟨#[49]⟩, .string ⟨#[46, 49]⟩] 141 (0, 0))) := ⟨hB0, h0⟩
  clear hB0 h0
  go_enter Tryd.func67, Tryd.ntmps67
  go_wp2_with fail
  go_loopw [6] (fun iv wr => ∃ i : Nat, i ≤ 4 ∧ iv = .int .i64 (i : Int) ∧ Hid (∀ j, j < i → okT (t ++ endR j) = false) ∧ Hid (Below w.heap.size w wr ∧ wr.heap[w.heap.size]? = some (.cells #[.string ⟨#[]⟩, .string ⟨#[97]⟩, .string ⟨#[49]⟩, .string ⟨#[46, 49]⟩] 141 (0, 0)))) (fun iv _ => 4 - (intOf iv).toNat)
  case atStart => exact ⟨0, by omega, rfl, fun j hj => by omega, hI0⟩
  case round =>
    obtain ⟨i, hi, rfl, hno, hI⟩ := hrel
    clear hI0 hW0
    by_cases hlt : i < 4
    · have hc : wr.cell? ⟨w.heap.size, i, none⟩ = some (.string (endR i)) := by
        rw [(row_cell hI.out.2 (j := i) hlt).1]
        rcases i with _ | _ | _ | _ | i
        · rfl
        · rfl
        · rfl
        · rfl
        · omega
      have i0 : (0 : Int) ≤ (i : Int) := Int.natCast_nonneg _
      have i1 : (i : Int) < 4 := by omega
      have hPi := hP i wr
      have hmx : ¬ t.size + (endR i).size > 9223372036854775807 := by
        have := endR_size i
        omega
      obtain ⟨r, hr⟩ : ∃ r, okT (t ++ endR i) = r := ⟨_, rfl⟩
      rw [hr] at hPi
      have hr' : Hid (okT (t ++ endR i) = r) := hr
      clear hr hP
      go_wp2_with fail
      refine hPi.out.mono ?_
      rintro e w1 ⟨rfl, hb1⟩
      have hI1 : Hid (Below w.heap.size w w1 ∧ w1.heap[w.heap.size]? = some (.cells #[.string ⟨#[]⟩, .string ⟨#[97]⟩, .string ⟨#[49]⟩, .string ⟨#[46, 49]⟩] 141 (0, 0))) := ⟨hI.out.1.trans (hb1.mono hI.out.1.size), (hb1.block _ (Array.getElem?_eq_some_iff.1 hI.out.2).1).trans hI.out.2⟩
      clear hPi hb1 hI hc
      cases r with
      | true =>
        have hgt : Hid (g = true) := by
          unfold Hid
          rw [hg.out]
          have h := hr'.out
          rcases i with _ | _ | _ | _ | i
          · rw [h]; rfl
          · rw [h, Bool.or_true]; rfl
          · rw [h, Bool.or_true]; rfl
          · rw [h, Bool.or_true]
          · omega
        go_wp2_with fail
        go_ret
        exact ⟨by rw [hgt.out]; rfl, hI1.out.1⟩
      | false =>
        go_wp2_with fail
        go_roundw
        case rel => exact ⟨i + 1, by omega, by simp, fun j hj => by
                      rcases Nat.lt_or_ge j i with h | h
                      · exact hno.out j h
                      · have : j = i := by omega
                        subst this
                        exact hr'.out, hI1⟩
        case measure => simp [intOf]; omega
    · have i1 : ¬ (i : Int) < 4 := by omega
      have hgf : Hid (g = false) := by
        unfold Hid
        rw [hg.out, hno.out 0 (by omega), hno.out 1 (by omega), hno.out 2 (by omega), hno.out 3 (by omega)]
        rfl
      go_wp2_with fail
      go_ret
      exact ⟨by rw [hgf.out]; rfl, hI.out.1⟩
/-- Whether the first n bytes go on to a type. -/
def onT (s : ByteArray) (n : Nat) : Bool := goesT (fold (s.extract 0 n).data.toList)
theorem onT_iff (s : ByteArray) (n : Nat) (hn : n ≤ s.size) : onT s n = decide (n ≤ plc 0 (cutS (fold s.data.toList))) := by
  unfold onT
  rw [goesT_iff, cut_lR]
  have e : fold (s.data.toList.take n) = (fold s.data.toList).take n := by simp [fold]
  rw [e, Bool.eq_iff_iff, Bool.and_eq_true, decide_eq_true_iff, decide_eq_true_iff, decide_eq_true_iff]
  exact take_cut _ n (by rw [fold_len, size_l]; exact hn)
set_option maxRecDepth 100000 in
set_option maxHeartbeats 2000000 in
theorem placeRT_any (s : ByteArray) (w : World) (hs : s.size ≤ 4194300) :
    Calls Tryd.prog 50 #[.string s, .bool true] w fun e w' => e = .returned (.int .i64 (plc 0 (cutS (fold s.data.toList)) : Int)) ∧ Below w.heap.size w w' := by
  obtain ⟨p, hp⟩ : ∃ p, plc 0 (cutS (fold s.data.toList)) = p := ⟨_, rfl⟩
  have hon : Hid (∀ n, n ≤ s.size → onT s n = decide (n ≤ p)) := fun n hn => by rw [← hp]; exact onT_iff s n hn
  have hps : p ≤ s.size := by
    rw [← hp]
    have h1 := plc_le (cutS (fold s.data.toList)) 0
    have h2 : (cutS (fold s.data.toList)).length ≤ (fold s.data.toList).length := (List.takeWhile_prefix _).length_le
    rw [fold_len, size_l] at h2
    omega
  rw [hp]
  have hG : ∀ n W, Hid (Calls Tryd.prog 67 #[.string (s.extract 0 n), .bool true] W fun e w' => e = .returned (.bool (onT s n)) ∧ Below W.heap.size W w') := fun n W => goesRT_any _ W (by rw [ByteArray.size_extract]; omega)
  have hps' : Hid (p ≤ s.size) := hps
  clear hp hps
  go_enter Tryd.func50, Tryd.ntmps50
  go_wp2_with fail
  go_loopw [5, 6] (fun av bv wr => ∃ a b : Nat, a ≤ b ∧ b ≤ s.size ∧ av = .int .i64 (a : Int) ∧ bv = .int .i64 (b : Int) ∧ Hid (a ≤ p ∧ p ≤ b) ∧ Hid (Below w.heap.size w wr)) (fun av bv _ => (intOf bv).toNat - (intOf av).toNat)
  case atStart => exact ⟨0, s.size, Nat.zero_le _, Nat.le_refl _, rfl, rfl, ⟨Nat.zero_le _, hps'.out⟩, Below.refl _ _⟩
  case round =>
    obtain ⟨a, b, hab, hb, rfl, rfl, hap, hB⟩ := hrel
    by_cases hlt : a < b
    · have h1 : (a : Int) < (b : Int) := Int.ofNat_lt.2 hlt
      obtain ⟨m, hm⟩ : ∃ m, (a + b + 1) / 2 = m := ⟨_, rfl⟩
      have hm1 : a + 1 ≤ m ∧ m ≤ b := by omega
      have hdiv : ((a : Int) + (b : Int) + 1).tdiv 2 = (m : Int) := by
        rw [show (a : Int) + (b : Int) + 1 = ((a + b + 1 : Nat) : Int) by omega, ← hm]
        rfl
      have hGm := hG m wr
      have hom := hon.out m (by omega)
      rw [hom] at hGm
      have m0 : (0 : Int) ≤ (m : Int) := Int.natCast_nonneg _
      have m1 : (m : Int) ≤ (s.size : Int) := by omega
      have hm2 : Hid (a + 1 ≤ m ∧ m ≤ b ∧ b ≤ s.size) := ⟨hm1.1, hm1.2, hb⟩
      have hs4 : s.size ≤ 4194300 := hs
      clear hm hm1 hom hG
      by_cases hmp : m ≤ p
      · rw [decide_eq_true hmp] at hGm
        have hmp' : Hid (m ≤ p) := hmp
        clear hmp
        go_wp2_with fail
        refine hGm.out.mono ?_
        rintro e w1 ⟨rfl, hb1⟩
        have o1 : Hid (Below w.heap.size w w1) := hB.out.trans (hb1.mono hB.out.size)
        clear hGm hb1
        go_wp2_with fail
        go_roundw
        case rel => exact ⟨m, b, hm2.out.2.1, hm2.out.2.2, rfl, rfl, ⟨hmp'.out, hap.out.2⟩, o1⟩
        case measure => have := hm2.out; simp [intOf]; omega
      · rw [decide_eq_false hmp] at hGm
        have hmp' : Hid (¬ m ≤ p) := hmp
        clear hmp
        go_wp2_with fail
        refine hGm.out.mono ?_
        rintro e w1 ⟨rfl, hb1⟩
        have o1 : Hid (Below w.heap.size w w1) := hB.out.trans (hb1.mono hB.out.size)
        clear hGm hb1
        go_wp2_with fail
        go_roundw
        case rel =>
          have h3 := hm2.out
          have h4 := hmp'.out
          have h5 := hap.out
          refine ⟨a, m - 1, by omega, by omega, rfl, ?_, ⟨h5.1, by omega⟩, o1⟩
          congr 1
          omega
        case measure => have := hm2.out; simp [intOf]; omega
    · have hpe : Hid (p = a) := by have := hap.out; unfold Hid; omega
      have h1 : ¬ (a : Int) < (b : Int) := by omega
      go_wp2_with fail
      go_ret
      exact ⟨by rw [hpe.out]; rfl, hB.out⟩

set_option maxRecDepth 100000 in
set_option maxHeartbeats 1000000 in
theorem parseTypeR_any (s : ByteArray) (w : World) (hs : s.size ≤ 4194300) :
    Calls Tryd.prog 37 #[.string s] w fun e w' => e = .returned (.tuple #[.string (parsT (S (fold s.data.toList))).1, .int .i64 (parsT (S (fold s.data.toList))).2.1, .int .i64 ((parsT (S (fold s.data.toList))).2.2 : Int)]) ∧ Below w.heap.size w w' := by
  have hI := isType_any s w (by omega)
  have hok := typ_ok (fold s.data.toList)
  have hpl := typ_place (fold s.data.toList)
  have hC : ∀ W, Hid (Calls Tryd.prog 51 #[.string s] W fun e w' => e = .returned (.string (canN (S (fold s.data.toList)))) ∧ Below W.heap.size W w') := fun W => canonR_any s W (by omega)
  have hP : ∀ W, Hid (Calls Tryd.prog 50 #[.string s, .bool true] W fun e w' => e = .returned (.int .i64 ((typE (fold s.data.toList)).1 : Int)) ∧ Below W.heap.size W w') := fun W => by
    have h := placeRT_any s W hs
    rw [← hpl] at h
    exact h
  have hfs : (fold s.data.toList).length = s.size := by rw [fold_len, size_l]
  have hle := typE_le (fold s.data.toList)
  have hsz : (S (fold s.data.toList)).size = s.size := fold_size s
  have hT : Hid (parsT (S (fold s.data.toList)) = if typB (fold s.data.toList) = true then (canN (S (fold s.data.toList)), 0, s.size) else (⟨#[]⟩, 40, (typE (fold s.data.toList)).1)) := by
    unfold Hid parsT
    rw [S_l, hsz]
    rw [hfs] at hok
    by_cases q : typB (fold s.data.toList) = true
    · have h2 := hok.2 q
      rw [if_pos h2, if_pos q]
      congr 2
      have := h2.2
      omega
    · rw [if_neg (fun h => q (hok.1 h)), if_neg q]
  generalize parsT (S (fold s.data.toList)) = R at *
  obtain ⟨b, hb⟩ : ∃ b, typB (fold s.data.toList) = b := ⟨_, rfl⟩
  rw [hb] at hI hT
  clear hok hpl hfs hle hsz hb
  go_enter Tryd.func37, Tryd.ntmps37
  go_wp2_with fail
  refine hI.mono ?_
  rintro e W1 ⟨rfl, hb1⟩
  have o1 : Hid (Below w.heap.size w W1) := hb1
  clear hI hb1
  cases b with
  | false =>
    have hT' : Hid (R = (⟨#[]⟩, 40, (typE (fold s.data.toList)).1)) := hT.out
    have hP1 := hP W1
    clear hT hP hC
    go_wp2_with fail
    refine hP1.out.mono ?_
    rintro e W2 ⟨rfl, hb2⟩
    have o2 : Hid (Below w.heap.size w W2) := o1.out.trans (hb2.mono o1.out.size)
    clear hP1 hb2
    go_wp2_with fail
    go_ret3
    exact ⟨by rw [hT'.out]; rfl, o2.out⟩
  | true =>
    have hT' : Hid (R = (canN (S (fold s.data.toList)), 0, s.size)) := hT.out
    have hC1 := hC W1
    clear hT hP hC
    go_wp2_with fail
    refine hC1.out.mono ?_
    rintro e W2 ⟨rfl, hb2⟩
    have o2 : Hid (Below w.heap.size w W2) := o1.out.trans (hb2.mono o1.out.size)
    clear hC1 hb2
    go_wp2_with fail
    go_ret3
    exact ⟨by rw [hT'.out]; rfl, o2.out⟩
theorem srt_upW (L : List (List UInt8)) (hn : L.Nodup) : Up (srt L) := by
  have hnd : (srt L).Nodup := (List.Nodup.perm hn) (srt_perm L).symm
  have hp := (srt_ord L).and hnd
  refine hp.imp ?_
  rintro x y ⟨h1, h2⟩
  rcases Classical.em (x < y) with h | h
  · exact h
  · exact absurd (List.le_antisymm (of_decide_eq_true h1) h) h2
end Go.Proofs.YtfmhcgadgakbhaaDoor
