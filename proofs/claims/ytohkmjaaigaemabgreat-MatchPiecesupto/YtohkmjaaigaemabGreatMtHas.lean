import Derived.Test.YtohkmjaaigaemabGreatMtHold
import Derived.Deep.RegionHeld3
import Derived.Test.YtohkmjaaigaemabGreatMtPcM
namespace Go.Proofs.YtohkmjaaigaemabGreat
open Go.RowKit
open FitM (gre progF St idx_st)
set_option linter.unusedVariables false

theorem truth_any (b : Bool) (w : World) : Calls Tryz.prog 6 #[.bool b] w fun e w' => e = .returned (tv b) ∧ w' = w := by
  cases b
  · go_enter Tryz.func6, Tryz.ntmps6
    go_wp2_with fail
    go_ret
    exact ⟨rfl, rfl⟩
  · go_enter Tryz.func6, Tryz.ntmps6
    go_wp2_with fail
    go_ret
    exact ⟨rfl, rfl⟩
set_option maxRecDepth 100000 in
set_option maxHeartbeats 1000000 in
theorem contains_any (v i f : ByteArray) (l : List (List UInt8)) (a : Option Addr) (c : Nat) (m : Int) (w : World) (hm : w.cell? ⟨0, 0, none⟩ = some (.int .i64 m)) (hr : Row w a l) (hv : v.size ≤ 4194304) (hl : l.length ≤ 4194304) (hne : ¬ (i.toList.isEmpty = true ∧ f.toList.isEmpty = true ∧ l = [])) :
    Calls Tryz.prog 4 #[.int .i64 9, .string v, .agg #[.string i, .slice a l.length c, .string f]] w fun e w' => e = .returned (tv (progF v.data.toList i.data.toList l f.data.toList)) ∧ Below w.heap.size w w' := by
  obtain ⟨W0, hW0⟩ : ∃ W, w.alloc (.cells #[.string i, .slice a l.length c, .string f] 24) = W := ⟨_, rfl⟩
  have b0 : Below w.heap.size w W0 := by rw [← hW0]; exact (Below.refl _ _).alloc (Nat.le_refl _) _
  have p0 : PatV W0 w.heap.size i (.slice a l.length c) f := by rw [← hW0]; exact heap_alloc_last w _
  have cH : ∀ W', Below W0.heap.size W0 W' → Hid (Calls Tryz.prog 10 #[octV, .agg #[.string i, .slice a l.length c, .string f]] W' fun e w' => (∃ c, e = .returned (.tuple #[c, .bool true]) ∧ HoldCls w' c i f l) ∧ Below W'.heap.size W' w') := fun W' hb => holding_any i f l a c W' ((hr.below b0).below hb) hl hne
  have hk : ∀ W', Below W0.heap.size W0 W' → W'.cell? ⟨w.heap.size, 0, none⟩ = some (.string i) ∧ W'.cell? ⟨w.heap.size, 1, none⟩ = some (.slice a l.length c) ∧ W'.cell? ⟨w.heap.size, 2, none⟩ = some (.string f) := fun W' hb =>
    have q := (p0.of_block (hb.block _ p0.lt)).cells
    ⟨q.1.1, q.2.1.1, q.2.2.1⟩
  have o0 : Hid (Below w.heap.size w W0 ∧ w.cell? ⟨0, 0, none⟩ = some (.int .i64 m)) := ⟨b0, hm⟩
  obtain ⟨⟨c0, z0⟩, ⟨c1, z1⟩, ⟨c2, z2⟩⟩ := p0.cells
  have HB0 : Below W0.heap.size W0 W0.drew := (Below.refl _ _).drew
  have hvl : Hid (v.size ≤ 4194304 ∧ l.length ≤ 4194304) := ⟨hv, hl⟩
  clear hm hr hne b0 p0 hv hl
  go_enter Tryz.func4, Tryz.ntmps4
  go_wp2_with fail
  go_region_held3 (fun w' => w'.cell? ⟨w.heap.size, 0, none⟩ = some (.string i) ∧ w'.cell? ⟨w.heap.size, 1, none⟩ = some (.slice a l.length c) ∧ w'.cell? ⟨w.heap.size, 2, none⟩ = some (.string f))
    (first
      | exact hk _ HB0
      | exact hk _ HB2)
    (first
      | (go_at_call 11; refine (synOct _).mono ?_; rintro e w1 ⟨rfl, rfl⟩)
      | (go_at_call 10; refine (cH _ HB0).out.mono ?_; rintro e w2 ⟨⟨cl, rfl, hcl⟩, hb2⟩; have HB2 : Below W0.heap.size W0 w2 := HB0.trans (hb2.mono HB0.size); clear hb2))
  have hmm : w2.cell? ⟨0, 0, none⟩ = some (.int .i64 m) := by
    have hbw : Below w.heap.size w w2 := o0.out.1.trans (HB2.mono o0.out.1.size)
    exact (hbw.cell (World.block_lt_of_cell? w _ o0.out.2)).trans o0.out.2
  have hV := verdict_any cl v i f l m w2 hcl hmm hvl.out.1 hvl.out.2
  have o2 : Hid (Below w.heap.size w w2) := o0.out.1.trans (HB2.mono o0.out.1.size)
  clear hcl hmm hvl cH hk c0 z0 c1 z1 c2 z2 HB0 HB2 o0 hW0
  go_wp2_with fail
  refine hV.mono ?_
  rintro e w3 ⟨rfl, hb3⟩
  have o3 : Hid (Below w.heap.size w w3) := o2.out.trans (hb3.mono o2.out.size)
  clear hV hb3
  go_wp2_with fail
  go_ret
  exact ⟨rfl, o3.out⟩
theorem begins_any (v p : ByteArray) (w : World) : Calls Tryz.prog 8 #[.string v, .string p] w fun e w' => e = .returned (.bool (Lib.hasPrefix v.data.toList p.data.toList)) ∧ w' = w := by
  have hraw := Lib.hasPrefix_raw v p
  by_cases h : p.size ≤ v.size
  · have h1 : (p.size : Int) ≤ (v.size : Int) := Int.ofNat_le.2 h
    have hr : Hid (((v.extract 0 p.size).toList == p.toList) = Lib.hasPrefix v.data.toList p.data.toList) := by unfold Hid; rw [← hraw, decide_eq_true h, Bool.true_and]
    clear hraw
    go_enter Tryz.func8, Tryz.ntmps8
    go_wp2_with fail
    go_ret
    exact ⟨ret_bool hr.out, rfl⟩
  · have h1 : ¬ (p.size : Int) ≤ (v.size : Int) := by omega
    have hr : Hid (false = Lib.hasPrefix v.data.toList p.data.toList) := by unfold Hid; rw [← hraw, decide_eq_false h, Bool.false_and]
    clear hraw
    go_enter Tryz.func8, Tryz.ntmps8
    go_wp2_with fail
    go_ret
    exact ⟨ret_bool hr.out, rfl⟩
theorem ends_any (v p : ByteArray) (w : World) (hv : v.size ≤ 4194304) : Calls Tryz.prog 9 #[.string v, .string p] w fun e w' => e = .returned (.bool (Lib.hasSuffix v.data.toList p.data.toList)) ∧ w' = w := by
  have hraw := Lib.hasSuffix_raw v p
  by_cases h : p.size ≤ v.size
  · have h1 : (p.size : Int) ≤ (v.size : Int) := Int.ofNat_le.2 h
    have h2 : wrap64 ((v.size : Int) - (p.size : Int)) = ((v.size - p.size : Nat) : Int) := by unfold wrap64; omega
    obtain ⟨d, hd⟩ : ∃ d, v.size - p.size = d := ⟨_, rfl⟩
    rw [hd] at h2 hraw
    have h3 : (d : Int) ≤ (v.size : Int) := by omega
    have h4 : (0 : Int) ≤ (d : Int) := by omega
    have hr : Hid (((v.extract d v.size).toList == p.toList) = Lib.hasSuffix v.data.toList p.data.toList) := by unfold Hid; rw [← hraw, decide_eq_true h, Bool.true_and]
    clear hraw
    go_enter Tryz.func9, Tryz.ntmps9
    go_wp2_with fail
    go_ret
    exact ⟨ret_bool hr.out, rfl⟩
  · have h1 : ¬ (p.size : Int) ≤ (v.size : Int) := by omega
    have hr : Hid (false = Lib.hasSuffix v.data.toList p.data.toList) := by unfold Hid; rw [← hraw, decide_eq_false h, Bool.false_and]
    clear hraw
    go_enter Tryz.func9, Tryz.ntmps9
    go_wp2_with fail
    go_ret
    exact ⟨ret_bool hr.out, rfl⟩
theorem st_raw (v p : ByteArray) (k : Nat) (h : k + p.size ≤ v.size) : ((v.extract k (k + p.size)).toList == p.toList) = true ↔ St v.data.toList k p.data.toList := by
  unfold St
  rw [Lib.extract_toList, Lib.toList_data, beq_iff_eq, size_l, size_l, Nat.add_sub_cancel_left]
  exact ⟨fun q => ⟨h, q⟩, fun q => q.2⟩
set_option maxRecDepth 100000 in
theorem has_any (v p : ByteArray) (w : World) (hv : v.size ≤ 4194304) (hp : p.size ≤ 4194304) : Calls Tryz.prog 7 #[.string v, .string p] w fun e w' => e = .returned (.bool (decide (0 ≤ Lib.index v.data.toList p.data.toList))) ∧ w' = w := by
  go_enter Tryz.func7, Tryz.ntmps7
  go_wp2_with fail
  go_loopw [5] (fun iv wr => ∃ (k : Nat), iv = .int .i64 (k : Int) ∧ Hid (k ≤ v.size + 1 ∧ ∀ j, j < k → ¬ St v.data.toList j p.data.toList) ∧ wr = w) (fun iv _ => v.size + 2 - (intOf iv).toNat)
  case atStart => exact ⟨0, rfl, ⟨Nat.zero_le _, fun j hj => absurd hj (Nat.not_lt_zero _)⟩, rfl⟩
  case round =>
    obtain ⟨k, rfl, hI, rfl⟩ := hrel
    obtain ⟨E, hE⟩ : ∃ E : Int, (k : Int) + (p.size : Int) = E := ⟨_, rfl⟩
    have hw : wrap64 ((k : Int) + (p.size : Int)) = E := by have := hI.out.1; rw [← hE]; unfold wrap64; omega
    have hn : E.toNat = k + p.size := by omega
    have h0 : (0 : Int) ≤ (k : Int) := Int.natCast_nonneg _
    have h4 : (0 : Int) ≤ E := by omega
    have h2 : (k : Int) ≤ E := by omega
    by_cases h : k + p.size ≤ v.size
    · have h1 : E ≤ (v.size : Int) := by omega
      have hst := st_raw v p k h
      obtain ⟨b, hb⟩ : ∃ b, ((v.extract k (k + p.size)).toList == p.toList) = b := ⟨_, rfl⟩
      rw [hb] at hst
      have hle : Hid (k + p.size ≤ v.size) := h
      clear hE h
      cases b with
      | true =>
        have hyes : Hid (St v.data.toList k p.data.toList) := hst.1 rfl
        clear hst
        go_wp2_with fail
        go_ret
        exact ⟨ret_bool (decide_eq_true ((idx_st _ _).2 ⟨k, hyes.out⟩)).symm, rfl⟩
      | false =>
        have hnx : Hid (k + 1 ≤ v.size + 1 ∧ ∀ j, j < k + 1 → ¬ St v.data.toList j p.data.toList) := ⟨by have := hle.out; omega, fun j hj => by
          rcases Nat.lt_succ_iff_lt_or_eq.1 hj with q | q
          · exact hI.out.2 j q
          · subst q; exact fun z => absurd (hst.2 z) (by decide)⟩
        clear hst hI
        go_wp2_with fail
        go_roundw
        case rel => exact ⟨k + 1, by simp, hnx, by trivial⟩
        case measure => have := hle.out; simp [intOf]; omega
    · have h1 : ¬ E ≤ (v.size : Int) := by omega
      have hno : Hid (decide (0 ≤ Lib.index v.data.toList p.data.toList) = false) := by
        refine decide_eq_false ?_
        rw [idx_st]
        rintro ⟨j, hj⟩
        refine hI.out.2 j ?_ hj
        have := hj.1
        rw [size_l, size_l] at this
        omega
      obtain ⟨d, hd⟩ : ∃ d, decide (0 ≤ Lib.index v.data.toList p.data.toList) = d := ⟨_, rfl⟩
      rw [hd] at hno
      clear h hE
      go_wp2_with fail
      go_ret
      exact ⟨ret_bool hno.out.symm, rfl⟩
end Go.Proofs.YtohkmjaaigaemabGreat
