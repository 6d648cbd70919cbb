import Derived.Test.YtoiilplnhecokaaDoorKeQ
import Derived.Deep.RegionHeld3
namespace Go.Proofs.YtoiilplnhecokaaDoor
namespace Ke
open Go.RowKit Go.Lib
open Du (PRow DRow PX sd sd_len drow_at pV pV_len xV_len prow_at CpQ copyDN_any PO)
set_option linter.unusedVariables false
set_option linter.unusedSimpArgs false
set_option maxRecDepth 100000

theorem po_row {B : Nat} {r : PX} {W : World} (h : PO B r W) : PRow W r.1 r.2.2 ∧ r.2.2.length + 1 ≤ r.2.1 ∧ r.2.1 ≤ maxLen := by
  obtain ⟨g, e, h1⟩ := h
  obtain ⟨a, c, h2, h3, h4, h5⟩ := h1.row pV_len
  injection h2 with e1 _ e2
  subst e1 e2
  rw [List.length_append] at h3
  rw [e]
  exact ⟨h5.front, h3, h4⟩
/-- copyDN's answer is a name that says the same. -/
theorem cp_row {w w' : World} {L : List PX} {n : Nat} {a : Option Addr} {c : Nat} {Os : List PX} (h : CpQ w L n a c Os w') (hn : L.length = n) : DRow w' a Os ∧ sd Os = sd L ∧ Os.length = n ∧ Below w.heap.size w w' := by
  obtain ⟨h1, h2, h3, ⟨g, zg, rfl, h4, h4'⟩, h5, h6, h7, h8⟩ := h
  obtain ⟨a, c, e, _, _, hr⟩ := h4.row xV_len
  injection e with e1 _ e2
  subst e1
  refine ⟨⟨hr.front, fun r hr => ⟨(po_row (h6 r hr)).1, by have := (po_row (h6 r hr)).2.1; omega, (po_row (h6 r hr)).2.2⟩⟩, ?_, h1, h7⟩
  unfold Du.sd
  refine List.ext_getElem (by rw [List.length_map, List.length_map, h1, hn]) (fun i q1 q2 => ?_)
  rw [List.getElem_map, List.getElem_map]
  exact h5 i (by simpa using q1) (by simpa using q2)
theorem szs_of {L M : List PX} (h : Szs L) (e : sd M = sd L) : Szs M := by
  have key : ∀ r ∈ M, ∃ r' ∈ L, r'.2.2 = r.2.2 := fun r hr => by
    have h1 : r.2.2 ∈ sd M := List.mem_map.2 ⟨r, hr, rfl⟩
    rw [e] at h1
    obtain ⟨r', h2, h3⟩ := List.mem_map.1 h1
    exact ⟨r', h2, h3⟩
  have hl : M.length = L.length := by rw [← sd_len M, e, sd_len]
  refine ⟨fun r hr => ?_, fun r hr => ?_, by rw [hl]; exact h.2.2⟩
  · obtain ⟨r', h2, h3⟩ := key r hr
    rw [← h3]
    exact h.1 r' h2
  · obtain ⟨r', h2, h3⟩ := key r hr
    rw [← h3]
    exact h.2.1 r' h2
/-- Key of a copy. -/
theorem copy_key (sa : Option Addr) (sc n : Nat) (L : List PX) (w : World) (hn : L.length = n) (hr : DRow w sa L) (hz : Szs L) (hG : ErrsG w) :
    Calls Tryd.prog 6 #[.slice sa n sc] w fun e w' => ∃ a c, e = .returned (.slice a n c) ∧ Below w.heap.size w w' ∧ Calls Tryd.prog 5 #[.slice a n c] w' fun e w'' => KeyQ w' (sd L) n e w'' := by
  refine (copyDN_any sa sc L n w hn hr (fun r hr => by have := hz.2.1 r hr; omega) (by have := hz.2.2; omega)).mono ?_
  rintro e w' ⟨a, c, Os, rfl, h⟩
  obtain ⟨h1, h2, h3, h4⟩ := cp_row h hn
  have hz' := szs_of hz h2
  refine ⟨a, c, rfl, h4, ?_⟩
  rw [← h2]
  exact key_any a c n Os w' (hG.below h4) h3 h1 hz'.1 hz'.2.1 (by have := hz'.2.2; omega)
theorem keys_at (D : List (List PR)) (i : Nat) (h : i < D.length) : (keys D)[i]'(by unfold keys; rw [List.length_reverse, List.length_map]; exact h) = keyTx (D[D.length - 1 - i]'(by omega)) := by
  unfold keys
  rw [List.getElem_reverse]
  simp
theorem keys_len (D : List (List PR)) : (keys D).length = D.length := by unfold keys; rw [List.length_reverse, List.length_map]

end Ke
end Go.Proofs.YtoiilplnhecokaaDoor
