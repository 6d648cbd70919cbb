import Derived.Test.YtkknenmpdimdbaaGreatDoorQW
import Derived.Test.YtkknenmpdimdbaaGreatDoorQM
namespace Go.Proofs.YtkknenmpdimdbaaGreatDoor
namespace Ke
open Go.RowKit Go.Lib
open Du (PRow DRow PX sd sd_len drow_at pV pV_len xV_len prow_at CpQ copyDN_any PO)
set_option linter.unusedVariables false
set_option linter.unusedSimpArgs false
set_option maxRecDepth 100000

theorem po_row {B : Nat} {r : PX} {W : World} (h : PO B r W) : PRow W r.1 r.2.2 ∧ r.2.2.length + 1 ≤ r.2.1 ∧ r.2.1 ≤ maxLen := by
  obtain ⟨g, e, h1⟩ := h
  obtain ⟨a, c, h2, h3, h4, h5⟩ := h1.row pV_len
  injection h2 with e1 _ e2
  subst e1 e2
  rw [List.length_append] at h3
  rw [e]
  exact ⟨h5.front, h3, h4⟩
/-- copyDN's answer is a name that says the same. -/
theorem cp_row {w w' : World} {L : List PX} {n : Nat} {a : Option Addr} {c : Nat} {Os : List PX} (h : CpQ w L n a c Os w') (hn : L.length = n) : DRow w' a Os ∧ sd Os = sd L ∧ Os.length = n ∧ Below w.heap.size w w' := by
  obtain ⟨h1, h2, h3, ⟨g, zg, rfl, h4, h4'⟩, h5, h6, h7, h8⟩ := h
  obtain ⟨a, c, e, _, _, hr⟩ := h4.row xV_len
  injection e with e1 _ e2
  subst e1
  refine ⟨⟨hr.front, fun r hr => ⟨(po_row (h6 r hr)).1, by have := (po_row (h6 r hr)).2.1; omega, (po_row (h6 r hr)).2.2⟩⟩, ?_, h1, h7⟩
  unfold Du.sd
  refine List.ext_getElem (by rw [List.length_map, List.length_map, h1, hn]) (fun i q1 q2 => ?_)
  rw [List.getElem_map, List.getElem_map]
  exact h5 i (by simpa using q1) (by simpa using q2)
theorem szs_of {L M : List PX} (h : Szs L) (e : sd M = sd L) : Szs M := by
  have key : ∀ r ∈ M, ∃ r' ∈ L, r'.2.2 = r.2.2 := fun r hr => by
    have h1 : r.2.2 ∈ sd M := List.mem_map.2 ⟨r, hr, rfl⟩
    rw [e] at h1
    obtain ⟨r', h2, h3⟩ := List.mem_map.1 h1
    exact ⟨r', h2, h3⟩
  have hl : M.length = L.length := by rw [← sd_len M, e, sd_len]
  refine ⟨fun r hr => ?_, fun r hr => ?_, by rw [hl]; exact h.2.2⟩
  · obtain ⟨r', h2, h3⟩ := key r hr
    rw [← h3]
    exact h.1 r' h2
  · obtain ⟨r', h2, h3⟩ := key r hr
    rw [← h3]
    exact h.2.1 r' h2
end Ke
end Go.Proofs.YtkknenmpdimdbaaGreatDoor
