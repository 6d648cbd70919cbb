import Derived.Test.YtcmdmkajpbhcaaaDoorAkW
import Derived.Test.YtcmdmkajpbhcaaaDoorRows
import Derived.OpenShut
import Derived.ShutString
import Derived.Deep.Slices
namespace Go.Proofs.YtcmdmkajpbhcaaaDoor
namespace Ak
open Go.RowKit Go.WideShapes
set_option linter.unusedVariables false

def wsum (l : List (List UInt8)) : Nat := (l.map (fun t => t.length + 1)).sum
theorem wsum_len : ∀ l : List (List UInt8), l.length ≤ wsum l
  | [] => Nat.le_refl _
  | b :: l => by
    have := wsum_len l
    show l.length + 1 ≤ (b.length + 1) + wsum l
    omega
theorem wsum_mem : ∀ (l : List (List UInt8)) (b : List UInt8), b ∈ l → b.length + 1 ≤ wsum l
  | x :: l, b, h => by
    show b.length + 1 ≤ (x.length + 1) + wsum l
    rcases List.mem_cons.1 h with rfl | h
    · omega
    · have := wsum_mem l b h; omega
theorem bulk_sum {H : Type} : ∀ l : List (DataW H), Rows.uptoBulkAll l = (l.map Rows.uptoBulk).sum
  | [] => by simp [Rows.uptoBulkAll]
  | d :: l => by
    have := bulk_sum l
    simp only [Rows.uptoBulkAll, List.map_cons, List.sum_cons]
    omega
set_option maxRecDepth 100000 in
theorem wrow_of {H : Type} {enc : TypeId × Value → H} {w : World} {base : Nat} {spare : Nat → Bool} {held : Bool} {a : Option Addr} {len cap : Nat} {d : DataW H} {p : List MemPlace}
    (h : DataW.Trod enc Tryd.prog w base spare held 22 (.slice a len cap) d p) :
    ∃ l, len = l.length ∧ Row w a l ∧ wsum l ≤ Rows.uptoBulk d := by
  obtain ⟨fuel, hf⟩ := h
  have e1 : Tryd.prog.cellsOf 9 = 1 := by kernel_rfl
  rcases Deep.open_slice1 Tryd.underlying22 e1 hf with ⟨hcs, hx⟩ | ⟨x, l, c, m, n, V, D, Pl, hcs, _, hl, _, hm, hxd, hx⟩
  · simp [Value.cells] at hcs
    obtain ⟨_, rfl, rfl⟩ := hcs
    exact ⟨[], rfl, fun i hi => by simp at hi, Nat.zero_le _⟩
  · simp [Value.cells] at hcs
    obtain ⟨rfl, rfl, rfl⟩ := hcs
    have key : ∀ i, i < len → ∃ q : ByteArray, w.cell? (x.add i) = some (.string q) ∧ Rows.uptoBulk (D i) = q.size + 1 := fun i hi => by
      have him : i < m := by rw [hm]; split <;> omega
      obtain ⟨h1, h2⟩ := hx i him
      obtain ⟨s, hs, hs2, _⟩ := DataW.trod_string Tryd.underlying9 h2
      simp at hs
      refine ⟨s, by rw [h1, hs], ?_⟩
      replace hs2 := congrArg Prod.fst hs2
      simp only at hs2
      rw [hs2]
      simp [Rows.uptoBulk]
    obtain ⟨Q, hQ⟩ := Deep.choose_lt key
    injection hxd with hxd _
    have hle : Rows.uptoBulkAll ((List.range len).map D) ≤ Rows.uptoBulk d := by
      rw [hxd]
      simp only [Rows.uptoBulk]
      omega
    refine ⟨(List.range len).map fun i => (Q i).data.toList, by simp, ?_, ?_⟩
    · intro i hi
      have hi' : i < len := by simpa using hi
      have h1 := (hQ i hi').1
      obtain ⟨b, off, spot⟩ := x
      have hspot : spot = none := by
        have h0 := (hQ 0 (by omega)).1
        have := World.cell?_spot h0
        simpa [Addr.add] using this
      subst hspot
      rw [add_off] at h1
      refine ⟨b, off, rfl, ?_⟩
      rw [h1]
      simp [S_of]
    · refine Nat.le_trans (Nat.le_of_eq ?_) hle
      unfold wsum
      rw [bulk_sum, List.map_map, List.map_map]
      congr 1
      refine List.map_congr_left (fun i hi => ?_)
      have h1 := (hQ i (List.mem_range.1 hi)).2
      simp only [Function.comp]
      rw [h1, size_l]

end Ak
end Go.Proofs.YtcmdmkajpbhcaaaDoor
