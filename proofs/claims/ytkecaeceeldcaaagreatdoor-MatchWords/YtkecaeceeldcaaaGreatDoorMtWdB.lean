import Derived.Test.YtkecaeceeldcaaaGreatDoorMtWdA
import Derived.Test.YtkecaeceeldcaaaGreatDoorMtFrmO
import Derived.Test.YtkecaeceeldcaaaGreatDoorMtTxt4
import Derived.Deep.RegionHeld3
namespace Go.Proofs.YtkecaeceeldcaaaGreatDoor
open Go.RowKit
set_option linter.unusedVariables false
set_option linter.unusedSimpArgs false
namespace Wd

abbrev spS : ByteArray := ⟨#[32]⟩
def spP (v : ByteArray) : List ByteArray := Lib.splitB spS 0 (Lib.countB v spS) v
/-- A text's pieces between blanks. -/
def spL (v : ByteArray) : List (List UInt8) := (spP v).map (·.data.toList)
theorem spP_len (v : ByteArray) : (spP v).length = Lib.countB v spS + 1 := Lib.splitB_all spS (by decide) 0 _ v rfl
theorem spL_len (v : ByteArray) : (spL v).length = (spP v).length := List.length_map ..
theorem split_any (m : Int) (v : ByteArray) (hv : v.size ≤ 1048576) (w : World) (hM : MaxL m w) : Calls Tryz.prog 53 #[.string v, .string spS] w fun e w' => e = .returned (.slice (some ⟨w.heap.size, 0, none⟩) (spL v).length (spL v).length) ∧ Rw w' w.heap.size (spL v) ∧ Below w.heap.size w w' := by
  have hS := Tryz.strings_Split v spS m w (by omega) hM (by decide)
  change Calls Tryz.prog 53 #[.string v, .string spS] w (fun e w' => e = .returned (.slice (some ⟨w.heap.size, 0, none⟩) (Lib.countB v spS + 1) (Lib.countB v spS + 1)) ∧ w' = w.alloc (.cells ((spP v).map Value.string).toArray 9)) at hS
  rw [← spP_len, ← spL_len] at hS
  refine hS.mono ?_
  rintro e w' ⟨rfl, rfl⟩
  refine ⟨rfl, ?_, (Below.refl _ _).alloc (Nat.le_refl _) _⟩
  intro i h
  have h' : i < (spP v).length := by rw [← spL_len]; exact h
  have hp := pts_cell (spP v) w 9 i h'
  have e1 : (spL v)[i] = (spP v)[i].data.toList := List.getElem_map _
  have e : S ((spL v)[i]) = (spP v)[i] := by
    rw [e1]
    exact (S_eq _ _ rfl).symm
  rw [e]
  exact hp
/-- A word stands between a text's blanks. -/
def wdIn (s : ByteArray) (v : List UInt8) : Bool := decide (v ∈ spL s)
set_option maxRecDepth 100000 in
set_option maxHeartbeats 2000000 in
theorem word1_any (m : Int) (s : ByteArray) (hs : s.size ≤ 1048576) (v : List UInt8) (g3 : Nat) (w : World) (hM : MaxL m w) (h3 : w.cell? ⟨g3, 0, none⟩ = some (.string (S v))) :
    Calls Tryz.prog 51 #[.string s, .pointer (some ⟨g3, 0, none⟩)] w fun e w' => e = .returned (.bool (wdIn s v)) ∧ Below w.heap.size w w' := by
  have z3 := World.block_lt_of_cell? w _ h3
  have hb0 : Hid (Below w.heap.size w w.drew) := ⟨rfl, rfl, rfl, Nat.le_refl _, fun _ _ => rfl⟩
  have hSp : Hid (Calls Tryz.prog 53 #[.string s, .string spS] w.drew fun e w' => e = .returned (.slice (some ⟨w.heap.size, 0, none⟩) (spL s).length (spL s).length) ∧ Rw w' w.heap.size (spL s) ∧ Below w.heap.size w.drew w') := split_any m s hs w.drew (hM.below hb0.out)
  have hl : (spL s).length ≤ 4194304 := by
    have h1 := Lib.countB_le spS (by decide) s.size s (Nat.le_refl _)
    rw [spL_len, spP_len]; omega
  have hC : ∀ W, Rw W w.heap.size (spL s) → Hid (Calls Tryz.prog 52 #[.slice (some ⟨w.heap.size, 0, none⟩) (spL s).length (spL s).length, .string (S v)] W fun e w' => e = .returned (.bool (wdIn s v)) ∧ w' = W) := fun W h => contains_any w.heap.size (spL s).length (spL s) v W h hl
  generalize wdIn s v = r at *
  generalize spL s = l at *
  obtain ⟨n, hn⟩ : ∃ n, l.length = n := ⟨_, rfl⟩
  rw [hn] at hSp hC
  clear hn hl hM
  generalize S v = V at *
  go_enter Tryz.func51, Tryz.ntmps51
  go_upto_region 1 with fail
  go_region_held3 (fun w' => w'.cell? ⟨g3, 0, none⟩ = some (.string V))
    (first | go_keep | exact (hb4.cell (by simpa using z3)).trans (by simpa using h3))
    (first | (go_at_call 53; refine hSp.out.mono ?_; rintro e W4 ⟨rfl, hr4, hb4⟩) | (go_at_call 52; refine (hC _ hr4).out.mono ?_; rintro e W5 ⟨rfl, rfl⟩))
  have hb5 : Hid (Below w.heap.size w W5) := hb0.out.trans hb4
  clear hb4 hSp hC h3 z3 hb0
  go_wp2_with fail
  go_ret
  exact ⟨rfl, hb5.out⟩
/-- A word to ask for: a text that is not empty and has no blank. -/
def wdOk (v : List UInt8) : Bool := !v.isEmpty && !(Lib.contains v [32])
/-- The closure that 'word' lays. -/
def WdCls (W : World) (c : Value) (V : Value) (a : List UInt8) : Prop := ∃ g1 g2 g3, c = .func (.func 38) #[] #[.pointer (some ⟨g1, 0, none⟩), .pointer (some ⟨g2, 0, none⟩)] ∧ W.cell? ⟨g1, 0, none⟩ = some V ∧ W.cell? ⟨g2, 0, none⟩ = some (.func (.func 51) #[] #[.pointer (some ⟨g3, 0, none⟩)]) ∧ W.cell? ⟨g3, 0, none⟩ = some (.string (S a))
set_option maxRecDepth 100000 in
theorem wordWalked : WalkedAt 36 := fun args W => by kernel_rfl
set_option maxRecDepth 100000 in
set_option maxHeartbeats 1000000 in
theorem word_any (m : Int) (T : TypeId) (x : Value) (fn : FuncId) (hD : SynAt T x fn) (hE : WalkedAt fn) (a : ByteArray) (na : List UInt8) (hna : na.length ≤ 1048576) (b : Bool) (hN : NormIs x fn a (S na) b) (w : World) (hM : MaxL m w) : Calls Tryz.prog 36 #[.iface T x, .string a] w fun e w' => (∃ c, e = .returned (.tuple #[c, .bool (b && wdOk na)]) ∧ WdCls w' c (.iface T x) na) ∧ Below w.heap.size w w' := by
  have hCo : ∀ W, MaxL m W → Hid (Calls Tryz.prog 54 #[.string (S na), .string spS] W fun e w' => e = .returned (.bool (Lib.contains na [32])) ∧ w' = W) := fun W h => by
    have h1 := Tryz.strings_Contains (S na) spS m W (by rw [S_size]; omega) h
    rw [S_l] at h1
    exact h1
  have hM' : ∀ W, Below w.heap.size w W → Hid (MaxL m W) := fun W h => hM.below h
  have hz : (S na).size = 0 ↔ na.isEmpty = true := by rw [S_size, List.isEmpty_iff_length_eq_zero]
  have hzz : ((S na).toList == (ByteArray.mk #[]).toList) = na.isEmpty := by
    rw [Bool.eq_iff_iff, Lib.toList_data, Lib.toList_data, S_l]
    simp
  have hok : Hid (wdOk na = (!na.isEmpty && !(Lib.contains na [32]))) := rfl
  generalize wdOk na = ok at *
  generalize Lib.contains na [32] = q at *
  clear hM hz hna
  go_enter Tryz.func36, Tryz.ntmps36
  go_wp2_with fail
  rw [hD]
  go_wp2_with fail
  rw [hE]
  go_wp2_with fail
  refine (hN w).mono ?_
  rintro e W1 ⟨rfl, hb1⟩
  have o1 : Hid (Below w.heap.size w W1) := hb1
  clear hb1
  obtain ⟨W2, hW2⟩ : ∃ W2, W1.alloc (.cells #[.string (S na)] 9) = W2 := ⟨_, rfl⟩
  have hB2 : Below W1.heap.size W1 W2 := by rw [← hW2]; exact (Below.refl _ _).alloc (Nat.le_refl _) _
  have c2' : Hid (W2.cell? ⟨W1.heap.size, 0, none⟩ = some (.string (S na))) := by unfold Hid; rw [← hW2]; simp [go_sem]
  have o2 : Hid (Below w.heap.size w W2) := o1.out.trans (hB2.mono o1.out.size)
  clear hB2
  go_wp2_with fail
  refine (ofNormalG_any T x 51 #[.pointer (some ⟨W1.heap.size, 0, none⟩)] W2).mono ?_
  rintro e W3 ⟨rfl, h1, h2, hb3⟩
  have o3 : Hid (Below w.heap.size w W3) := o2.out.trans (hb3.mono o2.out.size)
  have d3 := (hb3.cell (World.block_lt_of_cell? W2 _ c2'.out)).trans c2'.out
  have hc : Hid (WdCls W3 (.func (.func 38) #[] #[.pointer (some ⟨W2.heap.size, 0, none⟩), .pointer (some ⟨W2.heap.size + 1, 0, none⟩)]) (.iface T x) na) := ⟨_, _, _, rfl, h1, h2, d3⟩
  have hC3 := hCo W3 (hM' W3 o3.out).out
  clear h1 h2 hb3 hW2 hCo hM' hN
  cases b
  · go_wp2_with fail
    go_ret2
    exact ⟨⟨_, rfl, hc.out⟩, o3.out⟩
  · cases hne : na.isEmpty
    · rw [hne] at hok
      have hA1 : (S na).toList.isEmpty = false := by rw [Lib.toList_data, S_l]; exact hne
      have hA2 : ¬ (S na).toList = [] := by intro h; rw [h] at hA1; cases hA1
      clear hzz hne
      go_wp2_with fail
      refine hC3.out.mono ?_
      rintro e w4 ⟨rfl, hww⟩
      obtain rfl := hww.symm
      clear hC3 hww
      cases q
      · go_wp2_with fail
        go_ret2
        exact ⟨⟨_, by rw [hok.out]; rfl, hc.out⟩, o3.out⟩
      · go_wp2_with fail
        go_ret2
        exact ⟨⟨_, by rw [hok.out]; rfl, hc.out⟩, o3.out⟩
    · rw [hne] at hok
      have hA1 : (S na).toList.isEmpty = true := by rw [Lib.toList_data, S_l]; exact hne
      have hA2 : (S na).toList = [] := List.isEmpty_iff.1 hA1
      clear hzz hne hC3
      go_wp2_with fail
      go_ret2
      exact ⟨⟨_, by rw [hok.out]; rfl, hc.out⟩, o3.out⟩
end Wd
end Go.Proofs.YtkecaeceeldcaaaGreatDoor
