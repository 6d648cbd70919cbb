import Derived.Test.YtohkmjaaigaemabMtPush
namespace Go.Proofs.Ytohkmjaaigaemab
open Go.RowKit
set_option linter.unusedVariables false

set_option maxRecDepth 100000 in
theorem spared_any (i f : ByteArray) (l : List (List UInt8)) (g cap B : Nat) (w : World) (h : OwnS w B (.slice (some ⟨g, 0, none⟩) (l.length + 1) cap) (l ++ [spL])) (hl : l.length ≤ 4194304) :
    Calls Try.prog 9 #[.agg #[.string i, .slice (some ⟨g, 0, none⟩) l.length cap, .string f]] w fun e w' => e = .returned (.bool true) ∧ Below w.heap.size w w' := by
  obtain ⟨W0, hW0⟩ : ∃ W0, w.alloc (.cells #[.string i, .slice (some ⟨g, 0, none⟩) l.length cap, .string f] 24) = W0 := ⟨_, rfl⟩
  have hB0 : Below w.heap.size w W0 := by rw [← hW0]; exact (Below.refl _ _).alloc (Nat.le_refl _) _
  have p0 : PatV W0 w.heap.size i (.slice (some ⟨g, 0, none⟩) l.length cap) f := by rw [← hW0]; exact heap_alloc_last w _
  obtain ⟨⟨c0, z0⟩, ⟨c1, z1⟩, ⟨c2, z2⟩⟩ := p0.cells
  have hcap := (ownS_cap h).1
  have hce : W0.cell? ⟨g, l.length, none⟩ = some (.string ⟨#[115, 112, 97, 114, 101]⟩) := by
    rw [hB0.cell (show g < w.heap.size from (ownS_cap h).2.2)]
    have h2 : OwnS w B (.slice (some ⟨g, 0, none⟩) (l ++ [spL]).length cap) (l ++ [spL]) := by rw [List.length_append]; exact h
    have := ownS_cell h2 l.length (by simp)
    rw [this, List.getElem_append_right (Nat.le_refl _)]
    simp [spS]
  have hB0' : Hid (Below w.heap.size w W0) := hB0
  have k0 : (0 : Int) ≤ (l.length : Int) + 1 := by omega
  have k1 : (l.length : Int) + 1 ≤ (cap : Int) := by omega
  have k2 : (0 : Int) ≤ (l.length : Int) := by omega
  have k3 : (l.length : Int) < (l.length : Int) + 1 := by omega
  clear h hB0 p0 hcap
  go_enter Try.func9, Try.ntmps9
  go_wp2_with fail
  go_ret
  exact ⟨rfl, hB0'.out⟩

set_option maxRecDepth 100000 in
set_option maxHeartbeats 1000000 in
theorem samePat_any (i f : ByteArray) (l : List (List UInt8)) (a b : Option Addr) (c d : Nat) (w : World) (hl : l.length ≤ 4194304) (h1 : Row w a l) (h2 : Row w b l) :
    Calls Try.prog 8 #[.agg #[.string i, .slice a l.length c, .string f], .agg #[.string i, .slice b l.length d, .string f]] w fun e w' => e = .returned (.bool true) ∧ Below w.heap.size w w' := by
  obtain ⟨Wa, hWa⟩ : ∃ W, w.alloc (.cells #[.string i, .slice a l.length c, .string f] 24) = W := ⟨_, rfl⟩
  obtain ⟨Wb, hWb⟩ : ∃ W, Wa.alloc (.cells #[.string i, .slice b l.length d, .string f] 24) = W := ⟨_, rfl⟩
  have na : Wa.heap.size = w.heap.size + 1 := by rw [← hWa]; simp
  have pa : PatV Wa w.heap.size i (.slice a l.length c) f := by rw [← hWa]; exact heap_alloc_last w _
  have pb1 : PatV Wb w.heap.size i (.slice a l.length c) f := by rw [← hWb]; exact pa.of_block (Below.heap_alloc _ _ _ pa.lt)
  have pb2 : PatV Wb (w.heap.size + 1) i (.slice b l.length d) f := by rw [← hWb, ← na]; exact heap_alloc_last Wa _
  have hBb : Below w.heap.size w Wb := by
    rw [← hWb, ← hWa]
    exact ((Below.refl _ _).alloc (Nat.le_refl _) _).alloc (by simp) _
  have hI : Hid (PatV Wb w.heap.size i (.slice a l.length c) f ∧ PatV Wb (w.heap.size + 1) i (.slice b l.length d) f ∧ Below w.heap.size w Wb ∧ Row Wb a l ∧ Row Wb b l) := ⟨pb1, pb2, hBb, h1.below hBb, h2.below hBb⟩
  obtain ⟨⟨c0, z0⟩, ⟨c1, z1⟩, ⟨c2, z2⟩⟩ := pb1.cells
  obtain ⟨⟨d0, y0⟩, ⟨d1, y1⟩, ⟨d2, y2⟩⟩ := pb2.cells
  clear h1 h2 pa pb1 pb2 hBb
  go_enter Try.func8, Try.ntmps8
  go_wp2_with fail
  clear c0 c1 c2 d0 d1 d2 z0 z1 z2 y0 y1 y2 hWa hWb na
  go_loopw [5] (fun iv wr => ∃ k q : Nat, k ≤ l.length ∧ iv = .int .i64 (k : Int) ∧ Hid (wr = Wb.drewN q)) (fun iv _ => l.length - (intOf iv).toNat)
  case atStart => exact ⟨0, 0, Nat.zero_le _, rfl, rfl⟩
  case round =>
    obtain ⟨k, q, hk, rfl, hw⟩ := hrel
    have hbw : Below Wb.heap.size Wb wr := by rw [hw.out]; exact drewN_below _ _ _
    obtain ⟨⟨c0, z0⟩, ⟨c1, z1⟩, ⟨c2, z2⟩⟩ := (hI.out.1.of_block (hbw.block _ hI.out.1.lt)).cells
    obtain ⟨⟨d0, y0⟩, ⟨d1, y1⟩, ⟨d2, y2⟩⟩ := (hI.out.2.1.of_block (hbw.block _ hI.out.2.1.lt)).cells
    have oB : Hid (Below w.heap.size w wr) := hI.out.2.2.1.trans (hbw.mono hI.out.2.2.1.size)
    by_cases hlt : k < l.length
    · obtain ⟨b1, o1, e1, g1⟩ := (hI.out.2.2.2.1.below hbw) k hlt
      obtain ⟨b2, o2, e2, g2⟩ := (hI.out.2.2.2.2.below hbw) k hlt
      subst e1 e2
      have k0 : (0 : Int) ≤ (k : Int) := Int.natCast_nonneg _
      have k1 : (k : Int) < (l.length : Int) := Int.ofNat_lt.2 hlt
      generalize S l[k] = X at *
      clear hbw
      go_wp2_with fail
      go_quiet (fail)
      go_wp2_with fail
      go_roundw
      case rel => exact ⟨k + 1, _, hlt, by simp, by unfold Hid; rw [hw.out, World.drewN_drewN]⟩
      case measure => simp [intOf]; omega
    · have k1 : ¬ (k : Int) < (l.length : Int) := by omega
      clear hbw
      go_wp2_with fail
      go_ret
      exact ⟨rfl, oB.out⟩
end Go.Proofs.Ytohkmjaaigaemab
