import Derived.Test.YtnjodplnbfmjeaaGreatDoorMtTmD
import Derived.Test.YtnjodplnbfmjeaaGreatDoorAtBuild
namespace Go.Proofs.YtnjodplnbfmjeaaGreatDoor
open Go.RowKit
set_option linter.unusedVariables false
set_option linter.unusedSimpArgs false
namespace Mt

theorem owns_same {w w' : World} {B k n : Nat} {e : TypeId} {v : Value} {xs : List Value} (h : w.ownsRow B e k v n xs) (hb : ∀ g, v.ownBlock = some g → w'.heap[g]? = w.heap[g]?) : w'.ownsRow B e k v n xs := by
  rcases h with ⟨h1, ⟨rfl, h2⟩ | ⟨g, cap, cur, rfl, h3, h4, h5⟩⟩
  · exact ⟨h1, Or.inl ⟨rfl, h2⟩⟩
  · exact ⟨h1, Or.inr ⟨g, cap, cur, rfl, h3, by rw [hb g rfl]; exact h4, h5⟩⟩
theorem isB_below {B b : Nat} {l : List UInt8} {W W' : World} (h : IsB B b l W) (hb : Below W.heap.size W W') : IsB B b l W' := by
  have key : ∀ p, Lib.BuilderAt 131 5 B b p (bv l) W → Lib.BuilderAt 131 5 B b p (bv l) W' := fun p hp => by
    obtain ⟨h1, v, h2, h3, h4⟩ := hp
    have hlt : b < W.heap.size := (Array.getElem?_eq_some_iff.1 h2).1
    exact ⟨h1, v, by rw [hb.block b hlt]; exact h2, owns_same h3 (fun g hg => hb.block g (World.ownsRow.lt h3 g hg).2), h4⟩
  rcases h with h | h
  · exact Or.inl (key _ h)
  · exact Or.inr (key _ h)
/-- A moment. -/
abbrev Mom := Nat × Nat × Nat × Nat × Nat × Nat × List UInt8
def mV (y mo d h mi s : Int) (f : List UInt8) : Value := .agg #[.int .i64 y, .int .i64 mo, .int .i64 d, .int .i64 h, .int .i64 mi, .int .i64 s, .string (S f)]
/-- The numbers behind the year. -/
def five (mo d h mi s : Nat) : Nat → Nat
  | 0 => mo
  | 1 => d
  | 2 => h
  | 3 => mi
  | _ => s
def accT (y : Nat) (g : Nat → Nat) : Nat → List UInt8
  | 0 => pad 4 y
  | i + 1 => accT y g i ++ pad 2 (g i)
theorem accT_len (y : Nat) (g : Nat → Nat) (hy : y < 10000) (hg : ∀ i, g i < 100) : ∀ i, (accT y g i).length = 4 + 2 * i
  | 0 => pad_len 3 y hy
  | i + 1 => by
    show (accT y g i ++ pad 2 (g i)).length = _
    rw [List.length_append, accT_len y g hy hg i, pad_len 1 (g i) (hg i)]
    omega
/-- A fraction as it is written. -/
def frac (f : List UInt8) : List UInt8 := if Lib.trimRightB f 48 = [] then [] else [46] ++ Lib.trimRightB f 48
def stampL (y mo d h mi s : Nat) (f : List UInt8) : List UInt8 := accT y (five mo d h mi s) 5 ++ frac f

theorem trimR_len (l : List UInt8) (c : UInt8) : (Lib.trimRightB l c).length ≤ l.length := by
  unfold Lib.trimRightB
  rw [List.length_reverse]
  exact Nat.le_trans (List.Sublist.length_le (List.dropWhile_sublist _)) (by simp)
set_option maxRecDepth 100000 in
set_option maxHeartbeats 1000000 in
theorem stamp_any (y mo d h mi s : Nat) (f : List UInt8) (w : World) (ht : TbW w) (hy : y < 10000) (hmo : mo < 100) (hd : d < 100) (hh : h < 100) (hmi : mi < 100) (hs : s < 100) (hf : f.length ≤ 4194304) :
    Calls Tryz.prog 275 #[mV y mo d h mi s f] w fun e w' => e = .returned (.string (S (stampL y mo d h mi s f))) ∧ Below w.heap.size w w' := by
  obtain ⟨Wa, hWa⟩ : ∃ W, w.alloc (.cells #[.int .i64 y, .int .i64 mo, .int .i64 d, .int .i64 h, .int .i64 mi, .int .i64 s, .string (S f)] 312) = W := ⟨_, rfl⟩
  obtain ⟨W0, hW0⟩ : ∃ W, Wa.alloc (.cells #[.pointer none, .slice none 0 0] 131) = W := ⟨_, rfl⟩
  have na : Wa.heap.size = w.heap.size + 1 := by rw [← hWa]; simp
  have pa : Wa.heap[w.heap.size]? = some (.cells #[.int .i64 y, .int .i64 mo, .int .i64 d, .int .i64 h, .int .i64 mi, .int .i64 s, .string (S f)] 312 (0, 0)) := by rw [← hWa]; exact heap_alloc_last w _
  have pb : W0.heap[w.heap.size]? = some (.cells #[.int .i64 y, .int .i64 mo, .int .i64 d, .int .i64 h, .int .i64 mi, .int .i64 s, .string (S f)] 312 (0, 0)) := by rw [← hW0, Below.heap_alloc _ _ _ (by omega)]; exact pa
  have hI0 : IsB (w.heap.size + 1) (w.heap.size + 1) [] W0 := by
    have h := Lib.fresh_isBuilder 131 5 Wa
    rw [hW0, na] at h
    exact h
  have hB0 : Below w.heap.size w W0 := by rw [← hW0, ← hWa]; exact ((Below.refl _ _).alloc (Nat.le_refl _) _).alloc (by simp) _
  have hn0 : W0.heap.size = w.heap.size + 2 := by rw [← hW0]; simp [na]
  have hT0 : Hid (TbW w) := ht
  obtain ⟨g, hg⟩ : ∃ g, five mo d h mi s = g := ⟨_, rfl⟩
  have hg100 : ∀ i, g i < 100 := fun i => by
    rw [← hg]
    match i with
    | 0 => exact hmo
    | 1 => exact hd
    | 2 => exact hh
    | 3 => exact hmi
    | _ + 4 => exact hs
  have hP4 : ∀ W, TbW W → Hid (Calls Tryz.prog 283 #[.int .i64 (y : Int), .int .i64 4] W fun e w' => e = .returned (.string (S (pad 4 y))) ∧ Below W.heap.size W w') := fun W h => padded_any 3 y hy (by decide) W h
  have hP2 : ∀ i W, TbW W → Hid (Calls Tryz.prog 283 #[.int .i64 (g i : Int), .int .i64 2] W fun e w' => e = .returned (.string (S (pad 2 (g i)))) ∧ Below W.heap.size W w') := fun i W h => padded_any 1 (g i) (hg100 i) (by decide) W h
  have hcells : Hid (∀ W, Below (w.heap.size + 1) W0 W → W.cell? ⟨w.heap.size, 0, none⟩ = some (.int .i64 y) ∧ W.cell? ⟨w.heap.size, 1, none⟩ = some (.int .i64 mo) ∧ W.cell? ⟨w.heap.size, 2, none⟩ = some (.int .i64 d) ∧ W.cell? ⟨w.heap.size, 3, none⟩ = some (.int .i64 h) ∧ W.cell? ⟨w.heap.size, 4, none⟩ = some (.int .i64 mi) ∧ W.cell? ⟨w.heap.size, 5, none⟩ = some (.int .i64 s) ∧ W.cell? ⟨w.heap.size, 6, none⟩ = some (.string (S f))) := fun W hb => by
    have pw : W.heap[w.heap.size]? = _ := (hb.block w.heap.size (Nat.lt_succ_self _)).trans pb
    exact ⟨(rowC pw (j := 0) (by simp)).1, (rowC pw (j := 1) (by simp)).1, (rowC pw (j := 2) (by simp)).1, (rowC pw (j := 3) (by simp)).1, (rowC pw (j := 4) (by simp)).1, (rowC pw (j := 5) (by simp)).1, (rowC pw (j := 6) (by simp)).1⟩
  have hB0' : Hid (Below w.heap.size w W0 ∧ W0.heap.size = w.heap.size + 2) := ⟨hB0, hn0⟩
  have hI0' : Hid (IsB (w.heap.size + 1) (w.heap.size + 1) [] W0) := hI0
  have hgs : Hid (g 0 = mo ∧ g 1 = d ∧ g 2 = h ∧ g 3 = mi ∧ g 4 = s ∧ five mo d h mi s = g) := by rw [← hg]; exact ⟨rfl, rfl, rfl, rfl, rfl, rfl⟩
  have hb : Hid (f.length ≤ 4194304 ∧ y < 10000 ∧ ∀ i, g i < 100) := ⟨hf, hy, hg100⟩
  obtain ⟨c0, c1, c2, c3, c4, c5, c6⟩ := hcells.out W0 (Below.refl _ _)
  have hP4' := hP4 W0 (hT0.out.below hB0)
  clear ht hy hmo hd hh hmi hs hf pa pb hI0 hB0 hn0 hg hg100 hP4
  obtain ⟨out, hout'⟩ : ∃ out, stampL y mo d h mi s f = out := ⟨_, rfl⟩
  have hout : Hid (stampL y mo d h mi s f = out) := hout'
  rw [hout']
  clear hout'
  unfold mV
  go_enter Tryz.func275, Tryz.ntmps275
  go_wp2_with fail
  refine hP4'.out.mono ?_
  rintro e w1 ⟨rfl, hb1⟩
  have hs1 : Hid (Below (w.heap.size + 1) W0 w1) := hb1.mono (by have := hB0'.out.2; omega)
  have hw1 : Hid (Calls Tryz.prog 65 #[.pointer (some ⟨w.heap.size + 1, 0, none⟩), .string (S (pad 4 y))] w1 fun e w' => e = .returned (.tuple #[.int .i64 ((S (pad 4 y)).size : Int), .nilIface]) ∧ IsB (w.heap.size + 1) (w.heap.size + 1) ([] ++ (S (pad 4 y)).data.toList) w' ∧ Below (w.heap.size + 1) w1 w') := writeString_any _ _ [] _ w1 (isB_below hI0'.out hb1) (by rw [S_size, pad_len 3 y hb.out.2.1]; decide) (by have := hs1.out.size; have := hB0'.out.2; omega)
  clear hb1 c0 c1 c2 c3 c4 c5 c6 hP4' hWa hW0 na
  go_wp2_with fail
  refine hw1.out.mono ?_
  rintro e w2 ⟨rfl, hI2, hb2⟩
  have hI2' : Hid (IsB (w.heap.size + 1) (w.heap.size + 1) (accT y g 0) w2) := by rw [S_l] at hI2; exact hI2
  have hb2' : Hid (Below (w.heap.size + 1) W0 w2) := hs1.out.trans hb2
  obtain ⟨c0, c1, c2, c3, c4, c5, c6⟩ := hcells.out w2 hb2'.out
  clear hI2 hb2 hw1 hs1 c0 c6
  go_wp2_with fail
  have hA : Hid (∀ (i : Nat) (W : World), i < 5 → (Instr.index 320 (.agg #[.int .i64 (mo : Int), .int .i64 (d : Int), .int .i64 (h : Int), .int .i64 (mi : Int), .int .i64 (s : Int)]) (.int .i64 (i : Int))).run Tryz.prog W = .ok (.int .i64 (g i : Int)) W) := fun i W hi => by
    obtain ⟨q0, q1, q2, q3, q4, _⟩ := hgs.out
    match i, hi with
    | 0, _ => rw [q0]; simp [Instr.index, run_underlying Tryz.underlying320, asIntOf, go_sem]
    | 1, _ => rw [q1]; simp [Instr.index, run_underlying Tryz.underlying320, asIntOf, go_sem]
    | 2, _ => rw [q2]; simp [Instr.index, run_underlying Tryz.underlying320, asIntOf, go_sem]
    | 3, _ => rw [q3]; simp [Instr.index, run_underlying Tryz.underlying320, asIntOf, go_sem]
    | 4, _ => rw [q4]; simp [Instr.index, run_underlying Tryz.underlying320, asIntOf, go_sem]
  obtain ⟨AV, hAV⟩ : ∃ AV : Value, .agg #[.int .i64 (mo : Int), .int .i64 (d : Int), .int .i64 (h : Int), .int .i64 (mi : Int), .int .i64 (s : Int)] = AV := ⟨_, rfl⟩
  rw [hAV] at hA ⊢
  clear hAV c1 c2 c3 c4 c5
  go_loopw [25] (fun iv wr => ∃ i : Nat, i ≤ 5 ∧ iv = .int .i64 (i : Int) ∧ Hid (IsB (w.heap.size + 1) (w.heap.size + 1) (accT y g i) wr) ∧ Hid (Below (w.heap.size + 1) W0 wr)) (fun iv _ => 5 - (intOf iv).toNat)
  case atStart => exact ⟨0, Nat.zero_le _, rfl, hI2', hb2'⟩
  case round =>
    obtain ⟨i, hi, rfl, hI, hB⟩ := hrel
    clear hI2' hb2'
    have hl := accT_len y g hb.out.2.1 hb.out.2.2 i
    have HB : Below w.heap.size w wr := hB0'.out.1.trans (hB.out.mono (Nat.le_succ _))
    have hnr : w.heap.size + 2 ≤ wr.heap.size := by have := hB.out.size; have := hB0'.out.2; omega
    by_cases hlt : i < 5
    · have i0 : (0 : Int) ≤ (i : Int) := Int.natCast_nonneg _
      have i1 : (i : Int) < 5 := by omega
      have hAi := fun W => hA.out i W hlt
      have hP := hP2 i wr (hT0.out.below HB)
      have hlen : Hid ((accT y g i).length + (S (pad 2 (g i))).size ≤ 1099511627776) := by unfold Hid; rw [S_size, pad_len 1 (g i) (hb.out.2.2 i), hl]; omega
      have hnr' : Hid (w.heap.size + 2 ≤ wr.heap.size) := hnr
      clear hl HB hnr
      go_wp2_with fail
      refine hP.out.mono ?_
      rintro e w3 ⟨rfl, hb3⟩
      have hI3 := isB_below hI.out hb3
      have hB3 : Hid (Below (w.heap.size + 1) W0 w3) := hB.out.trans (hb3.mono (by have := hnr'.out; omega))
      have hw3 : Hid (Calls Tryz.prog 65 #[.pointer (some ⟨w.heap.size + 1, 0, none⟩), .string (S (pad 2 (g i)))] w3 fun e w' => e = .returned (.tuple #[.int .i64 ((S (pad 2 (g i))).size : Int), .nilIface]) ∧ IsB (w.heap.size + 1) (w.heap.size + 1) (accT y g i ++ (S (pad 2 (g i))).data.toList) w' ∧ Below (w.heap.size + 1) w3 w') := writeString_any _ _ (accT y g i) _ w3 hI3 hlen.out (by have := hB3.out.size; have := hB0'.out.2; omega)
      clear hb3 hI3 hP
      go_wp2_with fail
      refine hw3.out.mono ?_
      rintro e w4 ⟨rfl, hI4, hb4⟩
      have hI4' : Hid (IsB (w.heap.size + 1) (w.heap.size + 1) (accT y g (i + 1)) w4) := by rw [S_l] at hI4; exact hI4
      have hB4 : Hid (Below (w.heap.size + 1) W0 w4) := hB3.out.trans hb4
      clear hI4 hb4 hw3 hAi
      go_wp2_with fail
      go_roundw
      case rel => exact ⟨i + 1, hlt, by simp, hI4', hB4⟩
      case measure => simp [intOf]; omega
    · have h5 : i = 5 := by omega
      subst h5
      obtain ⟨tr, htr⟩ : ∃ tr, Lib.trimRightB f 48 = tr := ⟨_, rfl⟩
      have hT : Hid (Calls Tryz.prog 284 #[.string (S f), .string ⟨#[48]⟩] wr fun e w' => e = .returned (.string (S tr)) ∧ w' = wr) := by
        have hq := Tryz.strings_TrimRight_one (S f) 48 (by decide) wr (by rw [S_size]; have := hb.out.1; omega)
        rw [S_l, htr] at hq
        exact hq
      have htl : tr.length ≤ 4194304 := by
        rw [← htr]
        exact Nat.le_trans (trimR_len f 48) hb.out.1
      have hfin : Hid (out = accT y g 5 ++ (if tr = [] then [] else [46] ++ tr)) := by
        unfold Hid
        rw [← hout.out]
        unfold stampL frac
        rw [hgs.out.2.2.2.2.2, htr]
      have c6 := (hcells.out wr hB.out).2.2.2.2.2.2
      have hnr' : Hid (w.heap.size + 1 ≤ wr.heap.size) := by unfold Hid; omega
      have HB' : Hid (Below w.heap.size w wr) := HB
      have hl5 : Hid ((accT y g 5).length = 14) := hl
      clear hl HB hnr hlt hi htr hB hout
      cases tr with
      | nil =>
        rw [show S ([] : List UInt8) = (⟨#[]⟩ : ByteArray) from rfl] at hT
        have hE : Hid (accT y g 5 = out) := by unfold Hid; rw [hfin.out, if_pos rfl, List.append_nil]
        clear hfin
        have hst : Hid (Calls Tryz.prog 66 #[.pointer (some ⟨w.heap.size + 1, 0, none⟩)] wr fun e w' => e = .returned (.string (S (accT y g 5))) ∧ Below (w.heap.size + 1) wr w') := bString_any _ _ _ wr hI.out hnr'.out
        generalize accT y g 5 = A5 at *
        go_wp2_with fail
        refine hT.out.mono ?_
        rintro e w3 ⟨rfl, rfl⟩
        go_wp2_with fail
        refine hst.out.mono ?_
        rintro e w4 ⟨rfl, hb4⟩
        go_wp2_with fail
        go_ret
        exact ⟨by rw [hE.out]; rfl, HB'.out.trans (hb4.mono (Nat.le_succ _))⟩
      | cons t0 tt =>
        have hne : (S (t0 :: tt)).toList.isEmpty = false := by rw [Lib.toList_data, S_l]; rfl
        generalize accT y g 5 = A5 at *
        have hI1 := hI.out
        have hw3 : Hid (Calls Tryz.prog 65 #[.pointer (some ⟨w.heap.size + 1, 0, none⟩), .string ⟨#[46]⟩] wr fun e w' => e = .returned (.tuple #[.int .i64 1, .nilIface]) ∧ IsB (w.heap.size + 1) (w.heap.size + 1) (A5 ++ [46]) w' ∧ Below (w.heap.size + 1) wr w') := writeString_any _ _ A5 ⟨#[46]⟩ wr hI1 (by rw [hl5.out]; decide) hnr'.out
        have hlen : Hid ((A5 ++ [46]).length + (S (t0 :: tt)).size ≤ 1099511627776) := by
          unfold Hid
          rw [S_size, List.length_append, hl5.out]
          have := htl
          simp only [List.length_cons, List.length_nil] at this ⊢
          omega
        have hE : Hid (A5 ++ [46] ++ (S (t0 :: tt)).data.toList = out) := by unfold Hid; rw [hfin.out, S_l, List.append_assoc, if_neg (by simp)]
        obtain ⟨T, hT'⟩ : ∃ T, S (t0 :: tt) = T := ⟨_, rfl⟩
        rw [hT'] at hT hne hlen hE
        clear hT' hfin hI1 htl
        go_wp2_with fail
        refine hT.out.mono ?_
        rintro e wr' ⟨rfl, hww⟩
        obtain rfl := hww.symm
        go_wp2_with fail
        refine hw3.out.mono ?_
        rintro e w4 ⟨rfl, hI4, hb4⟩
        have hw5 : Hid (Calls Tryz.prog 65 #[.pointer (some ⟨w.heap.size + 1, 0, none⟩), .string T] w4 fun e w' => e = .returned (.tuple #[.int .i64 (T.size : Int), .nilIface]) ∧ IsB (w.heap.size + 1) (w.heap.size + 1) (A5 ++ [46] ++ T.data.toList) w' ∧ Below (w.heap.size + 1) w4 w') := writeString_any _ _ _ T w4 hI4 hlen.out (Nat.le_trans hnr'.out hb4.size)
        have hb4' : Hid (Below (w.heap.size + 1) wr w4) := hb4
        clear hI4 hb4 hw3
        go_wp2_with fail
        refine hw5.out.mono ?_
        rintro e w6 ⟨rfl, hI6, hb6⟩
        have hst : Hid (Calls Tryz.prog 66 #[.pointer (some ⟨w.heap.size + 1, 0, none⟩)] w6 fun e w' => e = .returned (.string (S (A5 ++ [46] ++ T.data.toList))) ∧ Below (w.heap.size + 1) w6 w') := bString_any _ _ _ w6 hI6 (Nat.le_trans hnr'.out (hb4'.out.trans hb6).size)
        have hb6' : Hid (Below (w.heap.size + 1) wr w6) := hb4'.out.trans hb6
        clear hI6 hb6 hw5
        go_wp2_with fail
        refine hst.out.mono ?_
        rintro e w7 ⟨rfl, hb7⟩
        have hb7' : Hid (Below w.heap.size w w7) := HB'.out.trans ((hb6'.out.trans hb7).mono (Nat.le_succ _))
        clear hst hb7
        go_wp2_with fail
        go_ret
        exact ⟨by rw [← hE.out, List.append_assoc]; rfl, hb7'.out⟩
end Mt
end Go.Proofs.YtnjodplnbfmjeaaGreatDoor
