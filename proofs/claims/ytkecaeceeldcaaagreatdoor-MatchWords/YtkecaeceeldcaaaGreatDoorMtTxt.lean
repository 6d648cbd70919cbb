import Derived.Test.YtkecaeceeldcaaaGreatDoorMtEqO
import Derived.Test.YtkecaeceeldcaaaGreatDoorChkLoop
import Derived.Test.YtkecaeceeldcaaaGreatDoorTrim
import Derived.Deep.DeepCutAuto
import Derived.Deep.RegionHeld3
namespace Go.Proofs.YtkecaeceeldcaaaGreatDoor
open Go.RowKit
open TextMath (fold squeeze check)
set_option linter.unusedVariables false

set_option linter.unusedSimpArgs false in
/-- The place of a field of no cells, in a block of such a type. -/
theorem part_at (V : World) (n : Nat) (T : TypeId) (hT : Tryz.prog.cellsOf T = 0) (hs : V.shape? n = some (T, 0)) : Sem.run Tryz.prog (partAt ⟨n, 0, none⟩ 0 0) V = .ok ⟨n, 0, none⟩ V := by
  have h1 : Sem.run Tryz.prog (byteOf ⟨n, 0, none⟩) V = .ok 0 V := by
    unfold byteOf noView viewAt
    simp [go_sem, hs, hT]
  unfold partAt
  simp [go_sem, h1]
theorem shape_new (W : World) (T : TypeId) : (W.alloc (.cells #[] T)).drew.shape? W.heap.size = some (T, 0) := by
  show (W.alloc (.cells #[] T)).shape? W.heap.size = _
  unfold World.shape?
  rw [heap_alloc_last W]
  rfl
theorem shape_below {V V' : World} {n : Nat} (hb : Below V.heap.size V V') (hn : n < V.heap.size) : V'.shape? n = V.shape? n := by
  unfold World.shape?
  rw [hb.block n hn]
theorem part_below {W w1 : World} {T : TypeId} (hT : Tryz.prog.cellsOf T = 0) (hb : Below (W.alloc (.cells #[] T)).drew.heap.size (W.alloc (.cells #[] T)).drew w1) : Sem.run Tryz.prog (partAt ⟨W.heap.size, 0, none⟩ 0 0) w1 = .ok ⟨W.heap.size, 0, none⟩ w1 :=
  part_at w1 _ T hT ((shape_below hb (by show W.heap.size < (W.heap.push _).size; simp)).trans (shape_new W T))
theorem isUTF8_any (v : ByteArray) (w : World) (hm : v.size ≤ maxLen) : Calls Tryz.prog 224 #[.string v] w fun e w' => e = .returned (.bool (check v.data.toList).1) ∧ w' = w := by
  have h := check_any v w hm
  unfold chkV at h
  generalize ((check v.data.toList).2 : Nat) = n at *
  generalize (check v.data.toList).1 = b at *
  have h' : Hid (Calls Tryz.prog 72 #[.string v] w fun e w' => e = .returned (.tuple #[.int .i64 (if b = true then 0 else 10), .int .i64 (n : Nat)]) ∧ w' = w) := h
  clear h hm
  cases b
  · go_enter Tryz.func224, Tryz.ntmps224
    go_wp2_with (go_at_call 72; refine h'.out.mono ?_; rintro e w' ⟨rfl, rfl⟩)
    go_ret
    exact ⟨by rfl, rfl⟩
  · go_enter Tryz.func224, Tryz.ntmps224
    go_wp2_with (go_at_call 72; refine h'.out.mono ?_; rintro e w' ⟨rfl, rfl⟩)
    go_ret
    exact ⟨by rfl, rfl⟩
/-- Is a text of SynExact? -/
def exOk (l : List UInt8) : Bool := !l.isEmpty && (check l).1
/-- A normal form, told by whether the text is of the syntax. -/
def nrmL (b : Bool) (l : List UInt8) : ByteArray := if b then S l else ⟨#[]⟩
abbrev exX : Value := .agg #[]
theorem synEx (w : World) : Calls Tryz.prog 21 #[.int .i64 2] w fun e w' => e = .returned (.iface 66 exX) ∧ w' = w := by
  go_enter Tryz.func21, Tryz.ntmps21
  go_wp2_with fail
  go_ret
  exact ⟨rfl, rfl⟩
theorem synFo (w : World) : Calls Tryz.prog 21 #[.int .i64 1] w fun e w' => e = .returned (.iface 68 exX) ∧ w' = w := by
  go_enter Tryz.func21, Tryz.ntmps21
  go_wp2_with fail
  go_ret
  exact ⟨rfl, rfl⟩
set_option maxRecDepth 100000 in
theorem exAt : SynAt 66 exX 222 := fun n W => by kernel_rfl
set_option maxRecDepth 100000 in
theorem exWalked : WalkedAt 222 := fun args W => by kernel_rfl
set_option maxRecDepth 100000 in
theorem foAt : SynAt 68 exX 226 := fun n W => by kernel_rfl
set_option maxRecDepth 100000 in
theorem foWalked : WalkedAt 226 := fun args W => by kernel_rfl
set_option maxRecDepth 100000 in
set_option maxHeartbeats 1000000 in
theorem exN_any (v : ByteArray) (hv : v.size ≤ 281474976710656) : NormIs exX 222 v (nrmL (exOk v.data.toList) (squeeze v.data.toList)) (exOk v.data.toList) := fun W => by
  have hB : Hid (Below W.heap.size W (W.alloc (.cells #[] 66))) := (Below.refl _ _).alloc (Nat.le_refl _) _
  have h1 : ∀ W, Hid (Calls Tryz.prog 224 #[.string v] W fun e w' => e = .returned (.bool (check v.data.toList).1) ∧ w' = W) := fun W => isUTF8_any v W (by unfold maxLen; omega)
  have h2 : ∀ W, Hid (Calls Tryz.prog 114 #[.string v] W fun e w' => e = .returned (.string (S (squeeze v.data.toList))) ∧ Below W.heap.size W w') := fun W => squeeze_any v W hv
  have he : v.toList.isEmpty = v.data.toList.isEmpty := by rw [Lib.toList_data]
  unfold exOk
  generalize v.data.toList.isEmpty = be at *
  generalize (check v.data.toList).1 = bu at *
  generalize squeeze v.data.toList = q at *
  cases be
  · cases bu
    · go_enter Tryz.func222, Tryz.ntmps222
      go_wp2_with (go_at_call 224; refine (h1 _).out.mono ?_; rintro e w' ⟨rfl, rfl⟩)
      go_ret2
      exact ⟨rfl, hB.out⟩
    · go_enter Tryz.func222, Tryz.ntmps222
      go_wp2_with (first | (go_at_call 224; refine (h1 _).out.mono ?_; rintro e w' ⟨rfl, rfl⟩) | (go_at_call 114; refine (h2 _).out.mono ?_; rintro e w3 ⟨rfl, hb3⟩))
      go_ret2
      exact ⟨rfl, hB.out.trans (hb3.mono hB.out.size)⟩
  · go_enter Tryz.func222, Tryz.ntmps222
    go_wp2_with fail
    go_ret2
    exact ⟨rfl, hB.out⟩
set_option maxRecDepth 100000 in
set_option maxHeartbeats 1000000 in
theorem foN_any (v : ByteArray) (hv : v.size ≤ 281474976710656) : NormIs exX 226 v (nrmL (exOk (fold v.data.toList)) (squeeze (fold v.data.toList))) (exOk (fold v.data.toList)) := fun W => by
  have hB : Hid (Below W.heap.size W (W.alloc (.cells #[] 68))) := (Below.refl _ _).alloc (Nat.le_refl _) _
  have h1 : ∀ W, Hid (Calls Tryz.prog 115 #[.string v] W fun e w' => e = .returned (.string (S (fold v.data.toList))) ∧ Below W.heap.size W w') := fun W => fold_any v W (by unfold maxLen; omega)
  have hl : (S (fold v.data.toList)).size ≤ 281474976710656 := by rw [S_size]; unfold fold; rw [List.length_map, size_l]; exact hv
  have h2 := exN_any (S (fold v.data.toList)) hl
  rw [S_l] at h2
  generalize nrmL (exOk (fold v.data.toList)) (squeeze (fold v.data.toList)) = r at *
  generalize exOk (fold v.data.toList) = b at *
  generalize S (fold v.data.toList) = F at *
  have h2' : ∀ W, Hid (Calls Tryz.prog 222 #[exX, .string F] W fun e w' => e = .returned (.tuple #[.string r, .bool b]) ∧ Below W.heap.size W w') := h2
  clear h2 hl
  have hcz : Tryz.prog.cellsOf 68 = 0 := by kernel_rfl
  have hpt := part_at _ W.heap.size 68 hcz (shape_new W 68)
  go_enter Tryz.func226, Tryz.ntmps226
  go_upto_region 1 with fail
  go_region_held3 (fun w' => Sem.run Tryz.prog (partAt ⟨W.heap.size, 0, none⟩ 0 0) w' = .ok ⟨W.heap.size, 0, none⟩ w') (first | go_keep | exact hpt | exact part_below hcz hb1 | exact part_below hcz (hb1.trans (hb2.mono hb1.size)) | trivial) (first | (go_at_call 115; refine (h1 _).out.mono ?_; rintro e w1 ⟨rfl, hb1⟩) | (go_at_call 222; refine (h2' _).out.mono ?_; rintro e w2 ⟨rfl, hb2⟩))
  have o2 : Hid (Below W.heap.size W w2) := hB.out.drew.trans ((hb1.trans (hb2.mono hb1.size)).mono hB.out.drew.size)
  clear hpt h1 h2' hb1 hb2 hB
  go_wp2_with fail
  go_ret2
  exact ⟨rfl, o2.out⟩
end Go.Proofs.YtkecaeceeldcaaaGreatDoor
