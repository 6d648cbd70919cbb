import Derived.Test.YtoofphmplfbjgaaGreatMtLsB
import Derived.Test.YtoofphmplfbjgaaGreatMtTxt
namespace Go.Proofs.YtoofphmplfbjgaaGreat
open Go.RowKit
open TextMath (fold squeeze check unhex wo normal)
set_option linter.unusedVariables false
set_option linter.unusedSimpArgs false
namespace Ml

theorem splitB_sum (sep : ByteArray) : ∀ (k : Nat) (s : ByteArray), Lib.lens ((Lib.splitB sep 0 k s).map (·.data.toList)) ≤ s.size
  | 0, s => by
    rw [Lib.splitB_zero]
    simp [Lib.lens, size_l]
  | k + 1, s => by
    by_cases hm : Lib.indexB s sep = -1
    · rw [Lib.splitB_miss _ _ _ _ hm]
      simp [Lib.lens, size_l]
    · obtain ⟨i, hi⟩ : ∃ i : Nat, Lib.indexB s sep = i := by
        have hge := Lib.index_ge s.data.toList sep.data.toList
        have hm' : ¬ Lib.index s.data.toList sep.data.toList = -1 := hm
        exact ⟨(Lib.index s.data.toList sep.data.toList).toNat, by show Lib.index s.data.toList sep.data.toList = _; omega⟩
      have hle : (i : Int) ≤ s.size := by
        have h := Lib.index_le s.data.toList sep.data.toList
        rw [show Lib.index s.data.toList sep.data.toList = (i : Int) from hi, size_l] at h
        exact h
      rw [Lib.splitB_hit _ _ _ _ _ hi]
      have ih := splitB_sum sep k (s.extract (i + sep.size) s.size)
      rw [ByteArray.size_extract] at ih
      unfold Lib.lens at ih ⊢
      rw [List.map_cons, List.map_cons, List.sum_cons, size_l, ByteArray.size_extract]
      omega
theorem mapO_len (f : ByteArray → Option ByteArray) : ∀ {l d : List ByteArray}, mapO f l = some d → d.length = l.length ∧ ∀ y ∈ d, ∃ x ∈ l, f x = some y
  | [], d, h => by
    injection h with h
    subst h
    exact ⟨rfl, fun y hy => by cases hy⟩
  | z :: l, d, h => by
    simp only [mapO] at h
    cases hz : f z with
    | none => rw [hz] at h; cases h
    | some u =>
      rw [hz] at h
      cases hl : mapO f l with
      | none => rw [hl] at h; cases h
      | some d' =>
        rw [hl] at h
        have h1 : some (u :: d') = some d := h
        injection h1 with h1
        subst h1
        obtain ⟨i1, i2⟩ := mapO_len f hl
        refine ⟨by simp [i1], fun y hy => ?_⟩
        rcases List.mem_cons.1 hy with rfl | hy
        · exact ⟨z, by simp, hz⟩
        · obtain ⟨x, hx, hf⟩ := i2 y hy
          exact ⟨x, List.mem_cons_of_mem _ hx, hf⟩
theorem lnE_len {p y : ByteArray} (h : lnE p = some y) : y.size ≤ 9 * p.size := by
  unfold lnE at h
  split at h
  · rename_i t ht
    have h1 := unE_len _ _ _ _ ht
    have h2 := normal_len t
    have h3 := escL_len (normal t)
    split at h
    · cases h
    · injection h with h
      rw [← h, S_size]
      rw [size_l] at h1
      omega
  · cases h
theorem lnE_sum : ∀ {l d : List ByteArray}, mapO lnE l = some d → Lib.lens (d.map (·.data.toList)) ≤ 9 * Lib.lens (l.map (·.data.toList))
  | [], d, h => by
    injection h with h
    subst h
    exact Nat.le_refl _
  | z :: l, d, h => by
    simp only [mapO] at h
    cases hz : lnE z with
    | none => rw [hz] at h; cases h
    | some u =>
      rw [hz] at h
      cases hl : mapO lnE l with
      | none => rw [hl] at h; cases h
      | some d' =>
        rw [hl] at h
        have h1 : some (u :: d') = some d := h
        injection h1 with h1
        subst h1
        have ih := lnE_sum hl
        have hu := lnE_len hz
        unfold Lib.lens at ih ⊢
        simp only [List.map_cons, List.sum_cons, size_l]
        omega
/-- A list of lines, joined again: short enough. -/
theorem join_le (v : ByteArray) (hv : v.size ≤ 8388608) (d : List ByteArray) (h : mapO lnE (lsP v) = some d) : (Lib.join (d.map (·.data.toList)) [36]).length ≤ 140737488355328 := by
  obtain ⟨h1, h2⟩ := mapO_len _ h
  have hn := lsP_len v
  have hc := Lib.countB_le dlS (Nat.le_refl 1) v.size v (Nat.le_refl _)
  have hl := lnE_sum h
  have hs := splitB_sum dlS (Lib.countB v dlS) v
  unfold lsP at hl
  cases hd : d.map (·.data.toList) with
  | nil => simp [Lib.join_nil]
  | cons x r =>
    have hr : r.length + 1 = d.length := by rw [← List.length_map (f := fun b : ByteArray => b.data.toList), hd]; rfl
    rw [Lib.join_length, ← hd]
    simp only [List.length_cons, List.length_nil]
    omega
/-- What holds between two lines. -/
def LsI (w : World) (g : Nat) (P : List ByteArray) (k : Nat) (W : World) : Prop := ∃ d, mapO lnE (P.take k) = some d ∧ LiRow W g P d ∧ Below w.heap.size w W ∧ d.length = k
theorem LsI.below {w W W' : World} {g k : Nat} {P : List ByteArray} (h : LsI w g P k W) (hb : Below W.heap.size W W') : LsI w g P k W' := by
  obtain ⟨d, h1, h2, h3, h4⟩ := h
  exact ⟨d, h1, World.rowIs.of_block h2 (hb.block _ (World.rowIs.lt h2)), h3.trans (hb.mono h3.size), h4⟩
theorem LsI.cell {w W : World} {g k : Nat} {P : List ByteArray} (h : LsI w g P k W) (hk : k < P.length) : W.cell? ⟨g, k, none⟩ = some (.string P[k]) ∧ W.frozen? ⟨g, k, none⟩ = false := by
  obtain ⟨d, h1, h2, h3, h4⟩ := h
  refine ⟨?_, World.rowIs.frozen h2 k⟩
  have := World.rowIs.cell h2 hk
  rw [this, if_neg (by omega)]
  simp [hk]
theorem LsI.next {w W : World} {g k : Nat} {P : List ByteArray} (h : LsI w g P k W) (hg : w.heap.size ≤ g) (hk : k < P.length) {y : ByteArray} (hy : lnE P[k] = some y) : LsI w g P (k + 1) (W.setCell ⟨g, k, none⟩ (.string y)) := by
  obtain ⟨d, h1, h2, h3, rfl⟩ := h
  refine ⟨d ++ [y], ?_, h2.set hk y, h3.setCell hg _, by simp⟩
  rw [List.take_succ_eq_append_getElem hk]
  exact mapO_snoc _ hy h1
set_option maxRecDepth 100000 in
set_option maxHeartbeats 8000000 in
theorem list_any (m : Int) (v : ByteArray) (hv : v.size ≤ 8388608) (w : World) (hM : MaxL m w) : Calls Tryz.prog 268 #[exX, .string v] w fun e w' => e = .returned (.tuple #[.string (lsT (lsR v)), .bool (lsO (lsR v))]) ∧ Below w.heap.size w w' := by
  obtain ⟨W0, hW0⟩ : ∃ W0, w.alloc (.cells #[] 76) = W0 := ⟨_, rfl⟩
  have hb0 : Hid (Below w.heap.size w W0) := by unfold Hid; rw [← hW0]; exact (Below.refl _ _).alloc (Nat.le_refl _) _
  have hU : Hid (Calls Tryz.prog 48 #[.string v] W0 fun e w' => e = .returned (.bool (check v.data.toList).1) ∧ w' = W0) := isUTF8_any v W0 (by unfold maxLen; omega)
  have hSp := Tryz.strings_Split v dlS m W0 (by omega) (hM.below hb0.out) (by decide)
  have hcl := lsP_len v
  have hcn := Lib.countB_le dlS (by decide) v.size v (Nat.le_refl _)
  have hJ := join_le v hv
  have hpz : ∀ p ∈ lsP v, p.size ≤ 8388608 := fun p hp => Nat.le_trans (splitB_sz _ _ _ _ hp) hv
  change Calls Tryz.prog 214 #[.string v, .string dlS] W0 (fun e w' => e = .returned (.slice (some ⟨W0.heap.size, 0, none⟩) (Lib.countB v dlS + 1) (Lib.countB v dlS + 1)) ∧ w' = W0.alloc (.cells ((lsP v).map Value.string).toArray 9)) at hSp
  rw [← hcl] at hSp
  have hR : lsR v = if (check v.data.toList).1 = true then mapO lnE (lsP v) else none := rfl
  generalize lsR v = R at *
  generalize lsP v = P at *
  generalize (check v.data.toList).1 = ok at *
  have hP : P.length ≤ 8388609 := by omega
  have hP1 : 1 ≤ P.length := by omega
  obtain ⟨W1, hW1⟩ : ∃ W1, W0.alloc (.cells (P.map Value.string).toArray 9) = W1 := ⟨_, rfl⟩
  have hb1 : Below W0.heap.size W0 W1 := by rw [← hW1]; exact (Below.refl _ _).alloc (Nat.le_refl _) _
  have hI0 : Hid (LsI w W0.heap.size P 0 W1) := ⟨[], rfl, by rw [← hW1]; exact LiRow.new W0 P, hb0.out.trans (hb1.mono hb0.out.size), rfl⟩
  rw [hW1] at hSp
  have hS' : Hid (Calls Tryz.prog 214 #[.string v, .string dlS] W0 (fun e w' => e = .returned (.slice (some ⟨W0.heap.size, 0, none⟩) P.length P.length) ∧ w' = W1)) := hSp
  have hM0 : Hid (∀ W, Below w.heap.size w W → MaxL m W) := fun W h => hM.below h
  have hJ' : Hid (∀ d, mapO lnE P = some d → (Lib.join (d.map (·.data.toList)) [36]).length ≤ 140737488355328) := hJ
  have hpz' : Hid (∀ p ∈ P, p.size ≤ 8388608) := hpz
  have hg : Hid (w.heap.size ≤ W0.heap.size) := hb0.out.size
  clear hSp hcl hcn hW1 hM hv hJ hpz hb1
  cases ok with
  | false =>
    have hR' : Hid (R = none) := hR.trans (if_neg (by simp))
    clear hR hS' hI0
    go_enter Tryz.func268, Tryz.ntmps268
    go_wp2_with fail
    refine hU.out.mono ?_
    rintro e w1 ⟨rfl, rfl⟩
    clear hU
    go_wp2_with fail
    go_ret2
    exact ⟨by rw [hR'.out]; rfl, hb0.out⟩
  | true =>
    have hR' : Hid (R = mapO lnE P) := hR.trans (if_pos rfl)
    have hPP : Hid (P.length ≤ 8388609 ∧ 1 ≤ P.length) := ⟨hP, hP1⟩
    clear hR
    go_enter Tryz.func268, Tryz.ntmps268
    go_wp2_with fail
    refine hU.out.mono ?_
    rintro e w1 ⟨rfl, rfl⟩
    clear hU
    go_wp2_with fail
    refine hS'.out.mono ?_
    rintro e w2 ⟨rfl, rfl⟩
    clear hS' hW0
    go_wp2_with fail
    generalize w1.heap.size = g at *
    go_loopw [18] (fun iv wr => ∃ (k : Nat), k ≤ P.length ∧ iv = .int .i64 (k : Int) ∧ Hid (LsI w g P k wr)) (fun iv _ => P.length - (intOf iv).toNat)
    case atStart => exact ⟨0, Nat.zero_le _, rfl, hI0⟩
    case round =>
      obtain ⟨k, hk, rfl, hI⟩ := hrel
      clear hI0
      have i0 : (0 : Int) ≤ (k : Int) := Int.natCast_nonneg _
      by_cases hlt : k < P.length
      · have i1 : (k : Int) < (P.length : Int) := Int.ofNat_lt.2 hlt
        have hck := (hI.out.cell hlt).1
        have hno : Hid (lnE P[k] = none → R = none) := fun h => by
          have e : P = P.take k ++ P[k] :: P.drop (k + 1) := by
            rw [← List.drop_eq_getElem_cons hlt, List.take_append_drop]
          rw [hR'.out, e]
          have h' := mapO_no lnE h (P.take k) (P.drop (k + 1))
          exact h'
        have hnx : Hid (∀ y, lnE P[k] = some y → ∀ W, LsI w g P k W → LsI w g P (k + 1) (W.setCell ⟨g, k, none⟩ (.string y))) := fun y hy W h => h.next hg.out hlt hy
        have hcl : Hid (∀ W, LsI w g P k W → W.cell? ⟨g, k, none⟩ = some (.string P[k]) ∧ W.frozen? ⟨g, k, none⟩ = false) := fun W h => h.cell hlt
        have hpk : Hid (P[k].size ≤ 8388608) := hpz'.out _ (List.getElem_mem hlt)
        have hUn : Hid (Calls Tryz.prog 269 #[.string P[k], .string dlS] wr fun e w' => e = .returned (unV (unE 36 (P[k].data.toList.length + 1) P[k].data.toList)) ∧ Below wr.heap.size wr w') := by
          have h := unescape_any m P[k].data.toList 36 wr (hM0.out _ (by obtain ⟨d, _, _, h3, _⟩ := hI.out; exact h3)) (by rw [size_l]; have := hpk.out; omega)
          rw [l_S] at h
          exact h
        have hln : lnE P[k] = match unE 36 (P[k].data.toList.length + 1) P[k].data.toList with
            | some t => if t = [] then none else some (S (escL (normal t)))
            | none => none := rfl
        have hlen : ∀ t, unE 36 (P[k].data.toList.length + 1) P[k].data.toList = some t → t.length ≤ 8388608 := fun t h => by
          have := unE_len _ _ _ _ h
          rw [size_l] at this
          have := hpk.out
          omega
        generalize unE 36 (P[k].data.toList.length + 1) P[k].data.toList = o at *
        generalize P[k] = p at *
        have hlt' : Hid (k < P.length) := hlt
        clear hpk
        cases o with
        | none =>
          have hn : Hid (R = none) := hno.out hln
          have hUn' : Hid (Calls Tryz.prog 269 #[.string p, .string dlS] wr fun e w' => e = .returned (.tuple #[.string ⟨#[]⟩, .bool false]) ∧ Below wr.heap.size wr w') := hUn
          clear hno hnx hln hlen hUn hcl
          go_wp2_with fail
          refine hUn'.out.mono ?_
          rintro e w3 ⟨rfl, hb3⟩
          have o3 : Hid (Below w.heap.size w w3) := by
            obtain ⟨d, _, _, h3, _⟩ := hI.out
            exact h3.trans (hb3.mono h3.size)
          clear hUn' hb3 hck
          go_wp2_with fail
          go_ret2
          exact ⟨by rw [hn.out]; rfl, o3.out⟩
        | some t =>
          have htl := hlen t rfl
          have hUn' : Hid (Calls Tryz.prog 269 #[.string p, .string dlS] wr fun e w' => e = .returned (.tuple #[.string (S t), .bool true]) ∧ Below wr.heap.size wr w') := hUn
          have hne : (S t).toList.isEmpty = t.isEmpty := by rw [Lib.toList_data, S_l]
          by_cases ht : t = []
          · have hn : Hid (R = none) := hno.out (hln.trans (if_pos ht))
            have hne' : (S t).toList.isEmpty = true := by rw [hne, ht]; rfl
            clear hno hnx hln hlen hUn hcl hne htl ht
            generalize S t = st at *
            go_wp2_with fail
            refine hUn'.out.mono ?_
            rintro e w3 ⟨rfl, hb3⟩
            have o3 : Hid (Below w.heap.size w w3) := by
              obtain ⟨d, _, _, h3, _⟩ := hI.out
              exact h3.trans (hb3.mono h3.size)
            clear hUn' hb3 hck
            go_wp2_with fail
            go_ret2
            exact ⟨by rw [hn.out]; rfl, o3.out⟩
          · have hne' : (S t).toList.isEmpty = false := by rw [hne]; cases t; exact absurd rfl ht; rfl
            have hnx' : Hid (∀ W, LsI w g P k W → LsI w g P (k + 1) (W.setCell ⟨g, k, none⟩ (.string (S (escL (normal t)))))) := hnx.out _ (hln.trans (if_neg ht))
            have hN : Hid (∀ W, Calls Tryz.prog 138 #[.string (S t)] W fun e w' => e = .returned (.string (S (normal t))) ∧ Below W.heap.size W w') := fun W => by
              have h := normal_any (S t) W (by rw [S_size]; omega)
              rw [S_l] at h
              exact h
            have hE : Hid (∀ W, Below w.heap.size w W → Calls Tryz.prog 270 #[.string (S (normal t))] W fun e w' => e = .returned (.string (S (escL (normal t)))) ∧ Below W.heap.size W w') := fun W h => escapeLine_any m _ W (hM0.out W h) (by have := normal_len t; omega)
            clear hno hnx hln hlen hUn hne htl ht
            generalize S (escL (normal t)) = s3 at *
            generalize S (normal t) = s2 at *
            generalize S t = s1 at *
            go_wp2_with fail
            refine hUn'.out.mono ?_
            rintro e w3 ⟨rfl, hb3⟩
            have hI3 : Hid (LsI w g P k w3) := hI.out.below hb3
            have hN3 : Hid (Calls Tryz.prog 138 #[.string s1] w3 fun e w' => e = .returned (.string s2) ∧ Below w3.heap.size w3 w') := hN.out w3
            clear hUn' hb3 hck hI hN
            go_wp2_with fail
            refine hN3.out.mono ?_
            rintro e w4 ⟨rfl, hb4⟩
            have hI4 : Hid (LsI w g P k w4) := hI3.out.below hb4
            have hE4 : Hid (Calls Tryz.prog 270 #[.string s2] w4 fun e w' => e = .returned (.string s3) ∧ Below w4.heap.size w4 w') := hE.out w4 (by obtain ⟨d, _, _, h3, _⟩ := hI4.out; exact h3)
            clear hN3 hb4 hI3 hE
            go_wp2_with fail
            refine hE4.out.mono ?_
            rintro e w5 ⟨rfl, hb5⟩
            have hI5 : Hid (LsI w g P k w5) := hI4.out.below hb5
            obtain ⟨c5, z5⟩ := hcl.out w5 hI5.out
            have hI6 : Hid (LsI w g P (k + 1) (w5.setCell ⟨g, k, none⟩ (.string s3))) := hnx'.out w5 hI5.out
            clear hE4 hb5 hI4 hcl hnx' hI5
            go_wp2_with fail
            go_roundw
            case rel =>
              exact ⟨k + 1, hlt'.out, by simp, hI6⟩
            case measure => have := hlt'.out; simp [intOf]; omega
      · obtain rfl : k = P.length := by omega
        obtain ⟨d, h1, h2, h3, h4⟩ := hI.out
        rw [List.take_length] at h1
        have hRd : Hid (R = some d) := hR'.out.trans h1
        have hJ : Hid (Calls Tryz.prog 129 #[.slice (some ⟨g, 0, none⟩) P.length P.length, .string dlS] wr fun e w' => e = .returned (.string (lsT (some d))) ∧ Below wr.heap.size wr w') := by
          have h := Tryz.strings_Join g 0 P.length d dlS wr (fun j x hj => by
            have hjl : j < d.length := (List.getElem?_eq_some_iff.1 hj).1
            have hc := World.rowIs.cell h2 (i := j) (by omega)
            rw [if_pos hjl] at hc
            rw [Nat.zero_add, hc]
            simp [List.getD, hj]) (World.rowIs.lt h2) (by have := hPP.out; omega) (by omega) (hJ'.out d h1)
          rw [h4] at h
          exact h
        have o3 : Hid (Below w.heap.size w wr) := h3
        clear h1 h2 h3 h4 hI hJ' hpz' hR'
        go_wp2_with fail
        refine hJ.out.mono ?_
        rintro e w3 ⟨rfl, hb3⟩
        have o4 : Hid (Below w.heap.size w w3) := o3.out.trans (hb3.mono o3.out.size)
        clear hJ hb3
        go_wp2_with fail
        go_ret2
        exact ⟨by rw [hRd.out]; rfl, o4.out⟩
end Ml
end Go.Proofs.YtoofphmplfbjgaaGreat
