import Derived.Test.YtddkefjcpgdomaaFrSplit
import Derived.BigQuiet
namespace Go.Proofs.Ytddkefjcpgdomaa
open Go.RowKit

/-- What is written into a list that was given out, as a mark holds it. -/
def MarkAt (W : World) (m : Value) (wd : ByteArray) : Prop :=
  ∃ g c g2 c2, m = .agg #[.slice (some ⟨g, 0, none⟩) 2 c, .slice (some ⟨g2, 0, none⟩) 3 c2, .string wd] ∧
    W.cell? ⟨g, 0, none⟩ = some (.string wd) ∧ W.cell? ⟨g, 1, none⟩ = some (.string (wd ++ ⟨#[120]⟩)) ∧
    W.cell? ⟨g2, 0, none⟩ = some (.string wd) ∧ W.cell? ⟨g2, 1, none⟩ = some (.string (wd ++ ⟨#[120]⟩)) ∧ W.cell? ⟨g2, 2, none⟩ = some (.string (wd ++ ⟨#[121]⟩))
theorem MarkAt.below {W W' : World} {m : Value} {wd : ByteArray} (h : MarkAt W m wd) (hb : ∀ x, x < W.heap.size → W'.heap[x]? = W.heap[x]?) : MarkAt W' m wd := by
  obtain ⟨g, c, g2, c2, rfl, h0, h1, k0, k1, k2⟩ := h
  have e1 := hb g (World.block_lt_of_cell? W _ h0)
  have e2 := hb g2 (World.block_lt_of_cell? W _ k0)
  refine ⟨g, c, g2, c2, rfl, ?_, ?_, ?_, ?_, ?_⟩
  · rw [World.cell?_of_block (w := W) (a := ⟨g, 0, none⟩) e1]; exact h0
  · rw [World.cell?_of_block (w := W) (a := ⟨g, 1, none⟩) e1]; exact h1
  · rw [World.cell?_of_block (w := W) (a := ⟨g2, 0, none⟩) e2]; exact k0
  · rw [World.cell?_of_block (w := W) (a := ⟨g2, 1, none⟩) e2]; exact k1
  · rw [World.cell?_of_block (w := W) (a := ⟨g2, 2, none⟩) e2]; exact k2

set_option maxHeartbeats 1000000 in
theorem whole_any (m : Value) (wd : ByteArray) (w : World) (h : MarkAt w m wd) (hs : wd.size ≤ 4096) :
    Calls Try.prog 19 #[m] w fun e w' => e = .returned (.bool true) ∧ Below w.heap.size w w' := by
  obtain ⟨g, c, g2, c2, rfl, h0, h1, k0, k1, k2⟩ := h
  obtain ⟨X, hX⟩ : ∃ X, wd ++ (⟨#[120]⟩ : ByteArray) = X := ⟨_, rfl⟩
  obtain ⟨Y, hY⟩ : ∃ Y, wd ++ (⟨#[121]⟩ : ByteArray) = Y := ⟨_, rfl⟩
  rw [hX] at h1 k1
  rw [hY] at k2
  have hg := World.block_lt_of_cell? w _ h0
  have hg2 := World.block_lt_of_cell? w _ k0
  simp only at hg hg2
  have hC := cells3_new w (.slice (some ⟨g, 0, none⟩) 2 c) (.slice (some ⟨g2, 0, none⟩) 3 c2) (.string wd) 48
  have B : Below w.heap.size w (w.alloc (.cells #[.slice (some ⟨g, 0, none⟩) 2 c, .slice (some ⟨g2, 0, none⟩) 3 c2, .string wd] 48)) := (Below.refl _ _).alloc (Nat.le_refl _) _
  rw [← World.cell?_of_block (w := w) (a := ⟨g, 0, none⟩) (B.block g hg)] at h0
  rw [← World.cell?_of_block (w := w) (a := ⟨g, 1, none⟩) (B.block g hg)] at h1
  rw [← World.cell?_of_block (w := w) (a := ⟨g2, 0, none⟩) (B.block g2 hg2)] at k0
  rw [← World.cell?_of_block (w := w) (a := ⟨g2, 1, none⟩) (B.block g2 hg2)] at k1
  rw [← World.cell?_of_block (w := w) (a := ⟨g2, 2, none⟩) (B.block g2 hg2)] at k2
  go_enter Try.func19, Try.ntmps19
  go_wp2_with fail
  obtain ⟨c0, c1, c2', _, _, _⟩ := cells3 hC
  generalize w.alloc (.cells #[.slice (some ⟨g, 0, none⟩) 2 c, .slice (some ⟨g2, 0, none⟩) 3 c2, .string wd] 48) = wb at *
  clear hC
  go_quiet (fail)
  go_wp2_with fail
  go_quiet (fail)
  go_wp2_with fail
  go_ret
  exact ⟨rfl, below_drewN (below_drewN B _) _⟩
end Go.Proofs.Ytddkefjcpgdomaa
