import Derived.Test.YtohkmjaaigaemabGreatMtRow
namespace Go.Proofs.YtohkmjaaigaemabGreat
open Go.RowKit
open FitM (gre progF)
set_option linter.unusedVariables false

set_option maxRecDepth 100000 in
set_option maxHeartbeats 1000000 in
theorem fits_any (v i f : ByteArray) (l : List (List UInt8)) (a : Option Addr) (c : Nat) (m : Int) (w : World) (hm : w.cell? ⟨0, 0, none⟩ = some (.int .i64 m)) (hr : Row w a l) (hv : v.size ≤ 4194304) (hl : l.length ≤ 4194304) :
    Calls Tryz.prog 5 #[.string v, .agg #[.string i, .slice a l.length c, .string f]] w fun e w' => e = .returned (.bool (progF v.data.toList i.data.toList l f.data.toList)) ∧ Below w.heap.size w w' := by
  obtain ⟨W0, hW0⟩ : ∃ W0, w.alloc (.cells #[.string i, .slice a l.length c, .string f] 24) = W0 := ⟨_, rfl⟩
  have hB0 : Below w.heap.size w W0 := by rw [← hW0]; exact (Below.refl _ _).alloc (Nat.le_refl _) _
  have hP0 : PatB W0 w.heap.size i a l.length c f := by rw [← hW0]; exact patB_new _ _ _ _ _ _
  have hm0 : Hid (W0.cell? ⟨0, 0, none⟩ = some (.int .i64 m)) := (hB0.cell (World.block_lt_of_cell? w _ hm)).trans hm
  have hr0 : Hid (Row W0 a l) := hr.below hB0
  obtain ⟨⟨c0, z0⟩, ⟨c1, z1⟩, ⟨c2, z2⟩⟩ := hP0.cells
  have hB0' : Hid (Below w.heap.size w W0) := hB0
  obtain ⟨rest, hrest⟩ : ∃ r, Lib.trimPrefix v.data.toList i.data.toList = r := ⟨_, rfl⟩
  obtain ⟨rest2, hrest2⟩ : ∃ r, Lib.trimSuffix rest f.data.toList = r := ⟨_, rfl⟩
  obtain ⟨b1, hb1⟩ : ∃ b, Lib.hasPrefix v.data.toList i.data.toList = b := ⟨_, rfl⟩
  obtain ⟨b2, hb2⟩ : ∃ b, Lib.hasSuffix rest f.data.toList = b := ⟨_, rfl⟩
  have hCP := Tryz.strings_CutPrefix v i W0
  rw [hrest, hb1] at hCP
  have hrl : rest.length ≤ v.size := by
    rw [← hrest, ← size_l]
    unfold Lib.trimPrefix
    split
    · rw [List.length_drop]; omega
    · exact Nat.le_refl _
  have hr2l : rest2.length ≤ v.size := by
    rw [← hrest2]
    unfold Lib.trimSuffix
    split
    · rw [List.length_take]; omega
    · exact hrl
  have hCS := Tryz.strings_CutSuffix (S rest) f W0 (by rw [← size_l, S_l]; omega)
  rw [S_l, hrest2, hb2] at hCS
  have hans : Hid (progF v.data.toList i.data.toList l f.data.toList = (b1 && b2 && gre l rest2)) := by
    unfold Hid progF
    rw [hb1]
    cases b1 with
    | false => rfl
    | true =>
      have e : v.data.toList.drop i.data.toList.length = rest := by rw [← hrest]; unfold Lib.trimPrefix; rw [if_pos hb1]
      rw [e, hb2, hrest2]
  obtain ⟨ans, hA⟩ : ∃ x, progF v.data.toList i.data.toList l f.data.toList = x := ⟨_, rfl⟩
  rw [hA]
  rw [hA] at hans
  have hr2l' : Hid (rest2.length ≤ 4194304) := by unfold Hid; omega
  clear hA hrest hrest2 hb1 hb2 hrl hr2l hv hr hm hP0 hB0
  go_enter Tryz.func5, Tryz.ntmps5
  go_wp2_with fail
  refine hCP.mono ?_
  rintro e w1 ⟨rfl, hw1⟩
  subst hw1
  clear hCP
  go_wp2_with fail
  refine hCS.mono ?_
  rintro e w1' ⟨rfl, hw1⟩
  subst hw1
  clear hCS
  cases b1 with
  | false =>
    go_wp2_with fail
    go_ret
    exact ⟨by rw [hans.out]; rfl, hB0'.out⟩
  | true =>
    cases b2 with
    | false =>
      go_wp2_with fail
      go_ret
      exact ⟨by rw [hans.out]; rfl, hB0'.out⟩
    | true =>
      have hans2 : Hid (ans = gre l rest2) := hans.out
      clear hans
      go_wp2_with fail
      go_loopw [5, 36] (fun rv iv wr => ∃ (k q : Nat) (x : List UInt8), k ≤ l.length ∧ rv = .string (S x) ∧ iv = .int .i64 (k : Int) ∧ Hid (gre l rest2 = gre (l.drop k) x) ∧ Hid (x.length ≤ 4194304) ∧ Hid (wr = w1'.drewN q)) (fun _ iv _ => l.length - (intOf iv).toNat)
      case atStart => exact ⟨0, 0, rest2, Nat.zero_le _, rfl, rfl, rfl, hr2l', rfl⟩
      case round =>
        obtain ⟨k, q, x, hk, rfl, rfl, hg, hx, hw⟩ := hrel
        have hbw : Below w1'.heap.size w1' wr := by rw [hw.out]; exact drewN_below _ _ _
        have oB : Hid (Below w.heap.size w wr) := hB0'.out.trans (hbw.mono hB0'.out.size)
        by_cases hlt : k < l.length
        · obtain ⟨b, off, rfl, hc⟩ := (hr0.out.below hbw) k hlt
          have hmr : wr.cell? ⟨0, 0, none⟩ = some (.int .i64 m) := by rw [hw.out]; exact hm0.out
          have hCut := Tryz.strings_Cut (S x) (S l[k]) m wr (by rw [← size_l, S_l]; have := hx.out; omega) hmr
          rw [S_l, S_l] at hCut
          have hgk : Hid (gre l rest2 = gre (l[k] :: l.drop (k + 1)) x) := by unfold Hid; rw [hg.out, List.drop_eq_getElem_cons hlt]
          have i0 : (0 : Int) ≤ (k : Int) := Int.natCast_nonneg _
          have i1 : (k : Int) < (l.length : Int) := Int.ofNat_lt.2 hlt
          obtain ⟨x1, hx1⟩ : ∃ y, (Lib.cut x l[k]).1 = y := ⟨_, rfl⟩
          obtain ⟨x2, hx2⟩ : ∃ y, (Lib.cut x l[k]).2.1 = y := ⟨_, rfl⟩
          obtain ⟨x3, hx3⟩ : ∃ y, (Lib.cut x l[k]).2.2 = y := ⟨_, rfl⟩
          rw [hx1, hx2, hx3] at hCut
          have hon : Hid ((x3 = false ∧ gre l rest2 = false) ∨ (x3 = true ∧ gre l rest2 = gre (l.drop (k + 1)) x2 ∧ x2.length ≤ 4194304)) := by
            unfold Hid
            rw [hgk.out, show gre (l[k] :: l.drop (k + 1)) x = (if 0 ≤ Lib.index x l[k] then gre (l.drop (k + 1)) (x.drop ((Lib.index x l[k]).toNat + l[k].length)) else false) from rfl]
            unfold Lib.cut at hx2 hx3
            by_cases h0 : 0 ≤ Lib.index x l[k]
            · rw [if_pos h0] at hx2 hx3
              rw [if_pos h0]
              exact Or.inr ⟨hx3.symm, by rw [← hx2], by rw [← hx2]; show (x.drop _).length ≤ _; rw [List.length_drop]; have := hx.out; omega⟩
            · rw [if_neg h0] at hx3
              rw [if_neg h0]
              exact Or.inl ⟨hx3.symm, rfl⟩
          clear hg hgk hmr hbw hx1 hx2 hx3
          go_wp2_with fail
          refine hCut.mono ?_
          rintro e w2 ⟨rfl, q2, hw2⟩
          have hw2' : Hid (w2 = w1'.drewN (q + q2)) := by unfold Hid; rw [hw2, hw.out, World.drewN_drewN]
          clear hCut hw2
          rcases hon.out with ⟨rfl, hgf⟩ | ⟨rfl, hgt, hx2l⟩
          · clear hon
            go_wp2_with fail
            go_ret
            refine ⟨by rw [hans2.out, hgf]; rfl, ?_⟩
            rw [hw2'.out]
            exact hB0'.out.trans ((drewN_below _ _ _).mono hB0'.out.size)
          · have hgt' : Hid (gre l rest2 = gre (l.drop (k + 1)) x2 ∧ x2.length ≤ 4194304) := ⟨hgt, hx2l⟩
            clear hon hgt hx2l
            go_wp2_with fail
            go_roundw
            case rel => exact ⟨k + 1, _, x2, hlt, rfl, by simp, hgt'.out.1, hgt'.out.2, hw2'⟩
            case measure => simp [intOf]; omega
        · have hke : Hid (gre l rest2 = true) := by
            unfold Hid
            rw [hg.out, List.drop_of_length_le (by omega)]
            rfl
          have i1 : ¬ (k : Int) < (l.length : Int) := by omega
          clear hg hbw
          go_wp2_with fail
          go_ret
          exact ⟨by rw [hans2.out, hke.out]; rfl, oB.out⟩
end Go.Proofs.YtohkmjaaigaemabGreat
