import Derived.Test.YtkecaeceeldcaaaGreatDoorMtTxt
import Derived.BigQuiet
namespace Go.Proofs.YtkecaeceeldcaaaGreatDoor
open Go.RowKit
open TextMath (fold squeeze check)
set_option linter.unusedVariables false

/-- Bytes below 128 alone. -/
def asc (l : List UInt8) : Bool := l.all fun c => decide (c.toNat < 128)
theorem asc_take (l : List UInt8) (k : Nat) (hk : k < l.length) (h : asc (l.take k) = true) (hc : l[k].toNat < 128) : asc (l.take (k + 1)) = true := by
  unfold asc at h ⊢
  rw [List.take_succ_eq_append_getElem hk, List.all_append, h]
  simp [hc]
theorem asc_bad (l : List UInt8) (k : Nat) (hk : k < l.length) (hc : ¬ l[k].toNat < 128) : asc l = false := by
  unfold asc
  rw [List.all_eq_false]
  exact ⟨l[k], List.getElem_mem hk, by simpa using hc⟩
set_option maxHeartbeats 1000000 in
theorem isASCII_any (v : ByteArray) (w : World) (hm : v.size ≤ maxLen) : Calls Tryz.prog 232 #[.string v] w fun e w' => e = .returned (.bool (asc v.data.toList)) ∧ w' = w := by
  unfold maxLen at hm
  have hL : Hid (v.data.toList.length = v.size) := size_l v
  go_enter Tryz.func232, Tryz.ntmps232
  go_wp2_with fail
  go_loopw [6] (fun iv wr => ∃ k : Nat, k ≤ v.size ∧ iv = .int .i64 (k : Int) ∧ Hid (asc (v.data.toList.take k) = true) ∧ wr = w) (fun iv _ => v.size - (intOf iv).toNat)
  case atStart => exact ⟨0, Nat.zero_le _, rfl, by unfold Hid; rfl, rfl⟩
  case round =>
    obtain ⟨k, hk, rfl, ha, rfl⟩ := hrel
    have i0 : (0 : Int) ≤ (k : Int) := Int.natCast_nonneg _
    by_cases hlt : k < v.size
    · have i1 : (k : Int) < (v.size : Int) := Int.ofNat_lt.2 hlt
      have hlt2 : k < v.data.toList.length := by rw [hL.out]; exact hlt
      have hg : (v[k]'hlt) = v.data.toList[k] := rfl
      by_cases hc : (v[k]'hlt).toNat < 128
      · have hb : ¬ (128 : Int) ≤ ((v[k]'hlt).toNat : Int) := by omega
        have ha' : Hid (asc (v.data.toList.take (k + 1)) = true) := asc_take _ _ hlt2 ha.out (by rw [← hg]; exact hc)
        have hlt' : Hid (k < v.size) := hlt
        clear hc hg hlt2 hk ha
        go_wp2_with fail
        go_roundw
        case rel => exact ⟨k + 1, hlt'.out, by simp, ha', trivial⟩
        case measure => have := hlt'.out; simp [intOf]; omega
      · have hb : (128 : Int) ≤ ((v[k]'hlt).toNat : Int) := by omega
        have e : Hid (asc v.data.toList = false) := asc_bad _ _ hlt2 (by rw [← hg]; exact hc)
        clear hc hg hlt2 hk ha
        go_wp2_with fail
        go_ret
        exact ⟨by rw [e.out]; rfl, rfl⟩
    · obtain rfl : k = v.size := by omega
      have e : Hid (asc v.data.toList = true) := by
        have := ha.out
        rw [← hL.out, List.take_length] at this
        exact this
      clear hk ha hlt
      go_wp2_with fail
      go_ret
      exact ⟨by rw [e.out]; rfl, rfl⟩
theorem synEi (w : World) : Calls Tryz.prog 21 #[.int .i64 4] w fun e w' => e = .returned (.iface 71 exX) ∧ w' = w := by
  go_enter Tryz.func21, Tryz.ntmps21
  go_wp2_with fail
  go_ret
  exact ⟨rfl, rfl⟩
theorem synFi (w : World) : Calls Tryz.prog 21 #[.int .i64 3] w fun e w' => e = .returned (.iface 73 exX) ∧ w' = w := by
  go_enter Tryz.func21, Tryz.ntmps21
  go_wp2_with fail
  go_ret
  exact ⟨rfl, rfl⟩
set_option maxRecDepth 100000 in
theorem eiAt : SynAt 71 exX 230 := fun n W => by kernel_rfl
set_option maxRecDepth 100000 in
theorem eiWalked : WalkedAt 230 := fun args W => by kernel_rfl
set_option maxRecDepth 100000 in
theorem fiAt : SynAt 73 exX 233 := fun n W => by kernel_rfl
set_option maxRecDepth 100000 in
theorem fiWalked : WalkedAt 233 := fun args W => by kernel_rfl
set_option maxRecDepth 100000 in
set_option maxHeartbeats 1000000 in
theorem eiN_any (v : ByteArray) (hv : v.size ≤ 281474976710656) : NormIs exX 230 v (nrmL (asc v.data.toList) (squeeze v.data.toList)) (asc v.data.toList) := fun W => by
  have hB : Hid (Below W.heap.size W (W.alloc (.cells #[] 71))) := (Below.refl _ _).alloc (Nat.le_refl _) _
  have h1 : ∀ W, Hid (Calls Tryz.prog 232 #[.string v] W fun e w' => e = .returned (.bool (asc v.data.toList)) ∧ w' = W) := fun W => isASCII_any v W (by unfold maxLen; omega)
  have h2 : ∀ W, Hid (Calls Tryz.prog 114 #[.string v] W fun e w' => e = .returned (.string (S (squeeze v.data.toList))) ∧ Below W.heap.size W w') := fun W => squeeze_any v W hv
  generalize asc v.data.toList = bu at *
  generalize squeeze v.data.toList = q at *
  cases bu
  · go_enter Tryz.func230, Tryz.ntmps230
    go_wp2_with (go_at_call 232; refine (h1 _).out.mono ?_; rintro e w' ⟨rfl, rfl⟩)
    go_ret2
    exact ⟨rfl, hB.out⟩
  · go_enter Tryz.func230, Tryz.ntmps230
    go_wp2_with (first | (go_at_call 232; refine (h1 _).out.mono ?_; rintro e w' ⟨rfl, rfl⟩) | (go_at_call 114; refine (h2 _).out.mono ?_; rintro e w3 ⟨rfl, hb3⟩))
    go_ret2
    exact ⟨rfl, hB.out.trans (hb3.mono hB.out.size)⟩
set_option maxRecDepth 100000 in
set_option maxHeartbeats 1000000 in
theorem fiN_any (v : ByteArray) (hv : v.size ≤ 281474976710656) : NormIs exX 233 v (nrmL (asc (fold v.data.toList)) (squeeze (fold v.data.toList))) (asc (fold v.data.toList)) := fun W => by
  have hB : Hid (Below W.heap.size W (W.alloc (.cells #[] 73))) := (Below.refl _ _).alloc (Nat.le_refl _) _
  have h1 : ∀ W, Hid (Calls Tryz.prog 115 #[.string v] W fun e w' => e = .returned (.string (S (fold v.data.toList))) ∧ Below W.heap.size W w') := fun W => fold_any v W (by unfold maxLen; omega)
  have hl : (S (fold v.data.toList)).size ≤ 281474976710656 := by rw [S_size]; unfold fold; rw [List.length_map, size_l]; exact hv
  have h2 := eiN_any (S (fold v.data.toList)) hl
  rw [S_l] at h2
  generalize nrmL (asc (fold v.data.toList)) (squeeze (fold v.data.toList)) = r at *
  generalize asc (fold v.data.toList) = b at *
  generalize S (fold v.data.toList) = F at *
  have h2' : ∀ W, Hid (Calls Tryz.prog 230 #[exX, .string F] W fun e w' => e = .returned (.tuple #[.string r, .bool b]) ∧ Below W.heap.size W w') := h2
  clear h2 hl
  have hcz : Tryz.prog.cellsOf 73 = 0 := by kernel_rfl
  have hpt := part_at _ W.heap.size 73 hcz (shape_new W 73)
  go_enter Tryz.func233, Tryz.ntmps233
  go_upto_region 1 with fail
  go_region_held3 (fun w' => Sem.run Tryz.prog (partAt ⟨W.heap.size, 0, none⟩ 0 0) w' = .ok ⟨W.heap.size, 0, none⟩ w') (first | go_keep | exact hpt | exact part_below hcz hb1 | exact part_below hcz (hb1.trans (hb2.mono hb1.size)) | trivial) (first | (go_at_call 115; refine (h1 _).out.mono ?_; rintro e w1 ⟨rfl, hb1⟩) | (go_at_call 230; refine (h2' _).out.mono ?_; rintro e w2 ⟨rfl, hb2⟩))
  have o2 : Hid (Below W.heap.size W w2) := hB.out.drew.trans ((hb1.trans (hb2.mono hb1.size)).mono hB.out.drew.size)
  clear hpt h1 h2' hb1 hb2 hB
  go_wp2_with fail
  go_ret2
  exact ⟨rfl, o2.out⟩
end Go.Proofs.YtkecaeceeldcaaaGreatDoor
