import Derived.Test.YtkecaeceeldcaaaGreatDoorMtFrmN
namespace Go.Proofs.YtkecaeceeldcaaaGreatDoor
open Go.RowKit
open TextMath (fold squeeze check lo bl sqA sqB)
set_option linter.unusedVariables false

abbrev leL : List UInt8 := [65, 66, 67, 68, 69, 70, 71, 72, 73, 74, 75, 76, 77, 78, 79, 80, 81, 82, 83, 84, 85, 86, 87, 88, 89, 90, 97, 98, 99, 100, 101, 102, 103, 104, 105, 106, 107, 108, 109, 110, 111, 112, 113, 114, 115, 116, 117, 118, 119, 120, 121, 122]
abbrev leS : ByteArray := ⟨leL.toArray⟩
abbrev lwL1 : List UInt8 := [65, 66, 67, 68, 69, 70, 71, 72, 73, 74, 75, 76, 77, 78, 79, 80, 81, 82, 83, 84, 85, 86, 87, 88, 89, 90, 97, 98, 99, 100, 101]
abbrev lwL2 : List UInt8 := [102, 103, 104, 105, 106, 107, 108, 109, 110, 111, 112, 113, 114, 115, 116, 117, 118, 119, 120, 121, 122, 48, 49, 50, 51, 52, 53, 54, 55, 56, 57, 45]
abbrev lwS : ByteArray := ⟨(lwL1.append lwL2).toArray⟩
abbrev lwL : List UInt8 := lwL1 ++ lwL2
theorem madeLe_any (l : List UInt8) (w : World) : Calls Tryz.prog 237 #[.string (S l), .string leS] w fun e w' => e = .returned (.bool (l.all fun c => leL.contains c)) ∧ Below w.heap.size w w' := by
  have := madeOfG_any leL leS (fun s w => Any.strings_TrimLeft_laid Tryz.lays161 (by kernel_rfl) s leS w (by decide) (ascii_of_all rfl)) l w
  rw [MtFrmM.trim_all] at this
  exact this
theorem madeLw_any (l : List UInt8) (w : World) : Calls Tryz.prog 237 #[.string (S l), .string lwS] w fun e w' => e = .returned (.bool (l.all fun c => lwL.contains c)) ∧ Below w.heap.size w w' := by
  have := madeOfG_any lwL lwS (fun s w => Any.strings_TrimLeft_laid Tryz.lays161 (by kernel_rfl) s lwS w (by decide) (ascii_of_all rfl)) l w
  rw [MtFrmM.trim_all] at this
  exact this
/-- A letter, then letters, digits and hyphens. -/
def wdOk (l : List UInt8) : Bool := !l.isEmpty && ((l.take 1).all (fun c => leL.contains c) && l.all fun c => lwL.contains c)
set_option maxRecDepth 100000 in
set_option maxHeartbeats 1000000 in
theorem isWord_any (l : List UInt8) (w : World) : Calls Tryz.prog 273 #[.string (S l)] w fun e w' => e = .returned (.bool (wdOk l)) ∧ Below w.heap.size w w' := by
  unfold wdOk
  cases l with
  | nil =>
    rw [show S [] = (⟨#[]⟩ : ByteArray) from rfl]
    go_enter Tryz.func273, Tryz.ntmps273
    go_wp2_with fail
    go_ret
    exact ⟨rfl, Below.refl _ _⟩
  | cons c t =>
    have hne : (S (c :: t)).toList.isEmpty = false := by rw [Lib.toList_data, S_l]; rfl
    have hsz : 1 ≤ (S (c :: t)).size := by rw [S_size]; simp
    have hx : (S (c :: t)).extract 0 1 = S [c] := S_eq _ _ (by rw [take_l, S_l]; rfl)
    have h1 : Hid (Calls Tryz.prog 237 #[.string (S [c]), .string leS] w fun e w' => e = .returned (.bool ([c].all fun c => leL.contains c)) ∧ Below w.heap.size w w') := madeLe_any [c] w
    have h2 : ∀ W, Hid (Calls Tryz.prog 237 #[.string (S (c :: t)), .string lwS] W fun e w' => e = .returned (.bool ((c :: t).all fun c => lwL.contains c)) ∧ Below W.heap.size W w') := fun W => madeLw_any (c :: t) W
    rw [show (!(c :: t).isEmpty && (((c :: t).take 1).all (fun c => leL.contains c) && (c :: t).all fun c => lwL.contains c)) = ([c].all (fun c => leL.contains c) && (c :: t).all fun c => lwL.contains c) from rfl]
    generalize [c].all (fun c => leL.contains c) = b1 at *
    generalize (c :: t).all (fun c => lwL.contains c) = b2 at *
    generalize S [c] = X at *
    generalize S (c :: t) = V at *
    cases b1
    · go_enter Tryz.func273, Tryz.ntmps273
      go_wp2_with fail
      refine h1.out.mono ?_
      rintro e w1 ⟨rfl, hb1⟩
      have o1 : Hid (Below w.heap.size w w1) := hb1
      clear h1 hb1
      go_wp2_with fail
      go_ret
      exact ⟨rfl, o1.out⟩
    · go_enter Tryz.func273, Tryz.ntmps273
      go_wp2_with fail
      refine h1.out.mono ?_
      rintro e w1 ⟨rfl, hb1⟩
      have o1 : Hid (Below w.heap.size w w1) := hb1
      clear h1 hb1
      go_wp2_with fail
      refine (h2 _).out.mono ?_
      rintro e w2 ⟨rfl, hb2⟩
      have o2 : Hid (Below w.heap.size w w2) := o1.out.trans (hb2.mono o1.out.size)
      clear h2 hb2
      go_wp2_with fail
      go_ret
      exact ⟨rfl, o2.out⟩
abbrev ptS : ByteArray := ⟨#[46]⟩
def idP (v : ByteArray) : List ByteArray := Lib.splitB ptS 0 (Lib.countB v ptS) v
/-- Two numbers or more, with points between. -/
def idOk (v : ByteArray) : Bool := (idP v).all (fun p => numOk p.data.toList) && decide (2 ≤ (idP v).length)
theorem idP_len (v : ByteArray) : (idP v).length = Lib.countB v ptS + 1 := Lib.splitB_all ptS (by decide) 0 _ v rfl
theorem pts_cell (P : List ByteArray) (w : World) (T : TypeId) (k : Nat) (hk : k < P.length) : (w.alloc (.cells (P.map Value.string).toArray T)).cell? ⟨w.heap.size, k, none⟩ = some (.string P[k]) := by
  simp [go_sem, hk]
set_option maxRecDepth 100000 in
set_option maxHeartbeats 1000000 in
theorem isIdentifier_any (m : Int) (v : ByteArray) (hv : v.size ≤ 1048576) (w : World) (hM : MaxL m w) : Calls Tryz.prog 274 #[.string v] w fun e w' => e = .returned (.bool (idOk v)) ∧ Below w.heap.size w w' := by
  have hS := Tryz.strings_Split v ptS m w (by omega) hM (by decide)
  have hcl := idP_len v
  have hcn := Lib.countB_le ptS (by decide) v.size v (Nat.le_refl _)
  change Calls Tryz.prog 53 #[.string v, .string ptS] w (fun e w' => e = .returned (.slice (some ⟨w.heap.size, 0, none⟩) (Lib.countB v ptS + 1) (Lib.countB v ptS + 1)) ∧ w' = w.alloc (.cells ((idP v).map Value.string).toArray 9)) at hS
  rw [← hcl] at hS
  unfold idOk
  generalize idP v = P at *
  have hP : P.length ≤ 1048577 := by omega
  have hP1 : 1 ≤ P.length := by omega
  obtain ⟨W1, hW1⟩ : ∃ W1, w.alloc (.cells (P.map Value.string).toArray 9) = W1 := ⟨_, rfl⟩
  have hb1 : Hid (Below w.heap.size w W1) := by unfold Hid; rw [← hW1]; exact (Below.refl _ _).alloc (Nat.le_refl _) _
  have hc : ∀ k (hk : k < P.length), W1.cell? ⟨w.heap.size, k, none⟩ = some (.string P[k]) := fun k hk => by rw [← hW1]; exact pts_cell P w _ k hk
  have hc' : Hid (∀ k (hk : k < P.length), W1.cell? ⟨w.heap.size, k, none⟩ = some (.string P[k])) := hc
  rw [hW1] at hS
  have hS' : Hid (Calls Tryz.prog 53 #[.string v, .string ptS] w (fun e w' => e = .returned (.slice (some ⟨w.heap.size, 0, none⟩) P.length P.length) ∧ w' = W1)) := hS
  clear hS hcl hcn hc hW1 hM hv
  obtain ⟨r, hr⟩ : ∃ r, (P.all (fun p => numOk p.data.toList) && decide (2 ≤ P.length)) = r := ⟨_, rfl⟩
  rw [hr]
  have hr' : Hid ((P.all (fun p => numOk p.data.toList) && decide (2 ≤ P.length)) = r) := hr
  clear hr
  go_enter Tryz.func274, Tryz.ntmps274
  go_wp2_with fail
  refine hS'.out.mono ?_
  rintro e w0 ⟨rfl, rfl⟩
  clear hS'
  go_wp2_with fail
  go_loopw [10] (fun iv wr => ∃ (k : Nat), k ≤ P.length ∧ iv = .int .i64 (k : Int) ∧ Hid ((P.take k).all (fun p => numOk p.data.toList) = true) ∧ Hid (Below w0.heap.size w0 wr)) (fun iv _ => P.length - (intOf iv).toNat)
  case atStart => exact ⟨0, Nat.zero_le _, rfl, by unfold Hid; rfl, by unfold Hid; exact Below.refl _ _⟩
  case round =>
    obtain ⟨k, hk, rfl, ha, hb⟩ := hrel
    have oB : Hid (Below w.heap.size w wr) := hb1.out.trans (hb.out.mono hb1.out.size)
    have i0 : (0 : Int) ≤ (k : Int) := Int.natCast_nonneg _
    by_cases hlt : k < P.length
    · have i1 : (k : Int) < (P.length : Int) := Int.ofNat_lt.2 hlt
      have hck : wr.cell? ⟨w.heap.size, k, none⟩ = some (.string P[k]) := (hb.out.cell (World.block_lt_of_cell? w0 _ (hc'.out k hlt))).trans (hc'.out k hlt)
      have hNum : Hid (Calls Tryz.prog 261 #[.string P[k]] wr fun e w' => e = .returned (.bool (numOk P[k].data.toList)) ∧ Below wr.heap.size wr w') := by
        have := isNumber_any P[k].data.toList wr
        rw [l_S] at this
        exact this
      have ht : Hid ((P.take (k + 1)).all (fun p => numOk p.data.toList) = numOk P[k].data.toList) := by
        unfold Hid
        rw [List.take_succ_eq_append_getElem hlt, List.all_append, ha.out]
        simp
      have hf : Hid (numOk P[k].data.toList = false → r = false) := fun h => by
        rw [← hr'.out, Bool.and_eq_false_iff]
        left
        rw [List.all_eq_false]
        exact ⟨P[k], List.getElem_mem hlt, by rw [h]; simp⟩
      generalize numOk P[k].data.toList = bn at *
      generalize P[k] = pk at *
      clear ha
      cases bn
      · have hf' : Hid (r = false) := hf.out rfl
        clear hf
        go_wp2_with fail
        refine hNum.out.mono ?_
        rintro e w2 ⟨rfl, hb2⟩
        have o2 : Hid (Below w.heap.size w w2) := oB.out.trans (hb2.mono oB.out.size)
        clear hNum hb2 hck
        go_wp2_with fail
        go_ret
        exact ⟨by rw [hf'.out]; rfl, o2.out⟩
      · go_wp2_with fail
        refine hNum.out.mono ?_
        rintro e w2 ⟨rfl, hb2⟩
        have o2 : Hid (Below w0.heap.size w0 w2) := hb.out.trans (hb2.mono hb.out.size)
        clear hNum hb2 hck hf
        have hlt' : Hid (k < P.length) := hlt
        go_wp2_with fail
        go_roundw
        case rel => exact ⟨k + 1, hlt'.out, by simp, ht, o2⟩
        case measure => have := hlt'.out; simp [intOf]; omega
    · obtain rfl : k = P.length := by omega
      have hrr : Hid (r = decide (2 ≤ P.length)) := by
        have := ha.out
        rw [List.take_length] at this
        unfold Hid
        rw [← hr'.out, this, Bool.true_and]
      clear ha hb hr' hc'
      by_cases h2 : 2 ≤ P.length
      · have i2 : (2 : Int) ≤ (P.length : Int) := by omega
        go_wp2_with fail
        go_ret
        exact ⟨by rw [hrr.out, decide_eq_true h2]; rfl, oB.out⟩
      · have i2 : ¬ (2 : Int) ≤ (P.length : Int) := by omega
        go_wp2_with fail
        go_ret
        exact ⟨by rw [hrr.out, decide_eq_false h2]; rfl, oB.out⟩
/-- A descriptor, or an identifier. -/
def oiOk (v : ByteArray) : Bool := wdOk v.data.toList || idOk v
set_option maxRecDepth 100000 in
set_option maxHeartbeats 1000000 in
theorem oiN_any (m : Int) (v : ByteArray) (hv : v.size ≤ 1048576) (W : World) (hM : MaxL m W) : NormAt exX 272 v (nrmL (oiOk v) (fold v.data.toList)) (oiOk v) W := by
  have hB : Hid (Below W.heap.size W (W.alloc (.cells #[] 85))) := (Below.refl _ _).alloc (Nat.le_refl _) _
  have hM0 : Hid (MaxL m (W.alloc (.cells #[] 85))) := hM.below hB.out
  have h1 : ∀ W, Hid (Calls Tryz.prog 273 #[.string v] W fun e w' => e = .returned (.bool (wdOk v.data.toList)) ∧ Below W.heap.size W w') := fun W => by
    have := isWord_any v.data.toList W
    rw [l_S] at this
    exact this
  have h2 : ∀ W, MaxL m W → Hid (Calls Tryz.prog 274 #[.string v] W fun e w' => e = .returned (.bool (idOk v)) ∧ Below W.heap.size W w') := fun W h => isIdentifier_any m v hv W h
  have h3 : ∀ W, Hid (Calls Tryz.prog 115 #[.string v] W fun e w' => e = .returned (.string (S (fold v.data.toList))) ∧ Below W.heap.size W w') := fun W => fold_any v W (by unfold maxLen; omega)
  unfold oiOk
  generalize wdOk v.data.toList = b1 at *
  generalize idOk v = b2 at *
  generalize fold v.data.toList = F at *
  clear hM hv
  show Calls _ _ _ _ _
  go_enter Tryz.func272, Tryz.ntmps272
  go_wp2_with fail
  refine (h1 _).out.mono ?_
  rintro e w1 ⟨rfl, hb1⟩
  have o1 : Hid (Below W.heap.size W w1) := hB.out.trans (hb1.mono hB.out.size)
  have m1 : Hid (MaxL m w1) := hM0.out.below hb1
  clear h1 hM0 hB hb1
  cases b1
  · go_wp2_with fail
    refine (h2 w1 m1.out).out.mono ?_
    rintro e w2 ⟨rfl, hb2⟩
    have o2 : Hid (Below W.heap.size W w2) := o1.out.trans (hb2.mono o1.out.size)
    clear h2 hb2 m1
    cases b2
    · go_wp2_with fail
      go_ret2
      exact ⟨rfl, o2.out⟩
    · go_wp2_with fail
      refine (h3 w2).out.mono ?_
      rintro e w3 ⟨rfl, hb3⟩
      have o3 : Hid (Below W.heap.size W w3) := o2.out.trans (hb3.mono o2.out.size)
      clear h3 hb3
      go_wp2_with fail
      go_ret2
      exact ⟨rfl, o3.out⟩
  · go_wp2_with fail
    refine (h3 w1).out.mono ?_
    rintro e w3 ⟨rfl, hb3⟩
    have o3 : Hid (Below W.heap.size W w3) := o1.out.trans (hb3.mono o1.out.size)
    clear h3 hb3 h2 m1
    go_wp2_with fail
    go_ret2
    exact ⟨rfl, o3.out⟩
theorem word_lo (c : UInt8) : leL.contains (lo c) = leL.contains c ∧ lwL.contains (lo c) = lwL.contains c ∧ (dgs.contains c = true → lo c = c) :=
  MtFrmM.all_fin (Q := fun c => leL.contains (lo c) = leL.contains c ∧ lwL.contains (lo c) = lwL.contains c ∧ (dgs.contains c = true → lo c = c)) (by decide +kernel) c
theorem wdOk_fold (l : List UInt8) : wdOk (fold l) = wdOk l := by
  unfold wdOk fold
  rw [← List.map_take, List.all_map, List.all_map]
  have e1 : ((fun c => leL.contains c) ∘ lo) = fun c => leL.contains c := by funext c; exact (word_lo c).1
  have e2 : ((fun c => lwL.contains c) ∘ lo) = fun c => lwL.contains c := by funext c; exact (word_lo c).2.1
  rw [e1, e2]
  cases l <;> rfl
theorem num_lo (l : List UInt8) (h : numOk l = true) : ∀ c ∈ l, lo c = c := by
  unfold numOk at h
  rw [Bool.or_eq_true] at h
  rcases h with h | h
  · intro c hc
    rw [beq_iff_eq.1 h] at hc
    rw [List.mem_singleton.1 hc]
    decide
  · rw [Bool.and_eq_true, Bool.and_eq_true, MtFrmM.trim_all, List.all_eq_true] at h
    exact fun c hc => (word_lo c).2.2 (h.2.2 c hc)
theorem id_fold (v : ByteArray) (h : idOk v = true) : fold v.data.toList = v.data.toList := by
  unfold idOk at h
  rw [Bool.and_eq_true, List.all_eq_true] at h
  have hd := Lib.splitB_data ptS 0 (Lib.countB v ptS) v
  have hm := MtFrmM.split_mem (fun c => lo c = c) (by decide) (Lib.countB v ptS) v.data.toList (fun p hp => by
    rw [show ([46] : List UInt8) = ptS.data.toList from rfl, ← hd] at hp
    obtain ⟨q, hq, rfl⟩ := List.mem_map.1 hp
    exact num_lo _ (h.1 q hq))
  unfold fold
  rw [List.map_congr_left hm]
  simp
theorem oiOk_fold (v : ByteArray) (h : oiOk v = true) : oiOk (S (fold v.data.toList)) = true := by
  unfold oiOk at h ⊢
  rw [S_l, wdOk_fold]
  rw [Bool.or_eq_true] at h ⊢
  rcases h with h | h
  · exact Or.inl h
  · right
    rw [id_fold v h, l_S]
    exact h
end Go.Proofs.YtkecaeceeldcaaaGreatDoor
