import Derived.Test.YthpfnajgbocpnaaPtSet
namespace Go.Proofs.Ythpfnajgbocpnaa
namespace Pt
open Go.RowKit Go.Sort Go.Lib
open PtMath (Inc setOf cnt)
open PtHpM (Hd)
set_option linter.unusedVariables false
set_option maxRecDepth 100000
open PtT (Rk TB en)
variable {Tk : PtT.Rk}

/-- A list of lists of the call's own. -/
def OwnL (W : World) (B : Nat) (v : Value) (H : List Hd) : Prop := W.ownsRow B 23 1 v H.length (H.map hv)
theorem ownL_nil (W : World) (B : Nat) : OwnL W B (.slice none 0 0) [] := ⟨rfl, Or.inl ⟨rfl, rfl⟩⟩
theorem ownL_slice {W : World} {B : Nat} {v : Value} {H : List Hd} (h : OwnL W B v H) : ∃ a c, v = .slice a H.length c ∧ SRow W a H ∧ H.length ≤ c ∧ c ≤ maxLen := by
  rcases h.2 with ⟨rfl, hn⟩ | ⟨g, cap, cur, rfl, h3, h4, h5, h6, h7, h8⟩
  · have := List.eq_nil_of_length_eq_zero hn
    subst this
    exact ⟨none, 0, rfl, fun i hi => by simp at hi, Nat.le_refl _, by unfold maxLen; omega⟩
  · refine ⟨some ⟨g, 0, none⟩, cap, rfl, fun i hi => ⟨g, 0, rfl, ?_⟩, h5, h6⟩
    have hc := World.ownsRow.cellAt (show W.ownsRow B 23 1 _ H.length (H.map hv) from h) i (by omega)
    rw [Nat.zero_add, hc]
    simp [hi]
theorem ownL_below {W W' : World} {B : Nat} {v : Value} {H : List Hd} (h : OwnL W B v H) (hb : Below W.heap.size W W') : OwnL W' B v H := by
  rcases h with ⟨h1, ⟨rfl, h2⟩ | ⟨g, cap, cur, rfl, h3, h4, h5⟩⟩
  · exact ⟨h1, Or.inl ⟨rfl, h2⟩⟩
  · exact ⟨h1, Or.inr ⟨g, cap, cur, rfl, h3, by rw [hb.block g (Array.getElem?_eq_some_iff.1 h4).1]; exact h4, h5⟩⟩
/-- A row of lists appended to a list of lists of the call's own. -/
theorem appendL_row (w : World) (B : Nat) (v : Value) (H K : List Hd) (a : Option Addr) (c : Nat) (hown : OwnL w B v H) (hk : SRow w a K) (hB : B ≤ w.heap.size) (hsz : (H.length + K.length) * 24 ≤ 140737488355328) :
    ∃ v' w', (Builtin.append_ #[22, 22] 22 #[v, .slice a K.length c]).run Try.prog w = .ok v' w' ∧ OwnL w' B v' (H ++ K) ∧ w.grownBy w' v.ownBlock := by
  obtain ⟨i0, hi, hz0, hz1, hz2⟩ := info_parts info_is
  by_cases h0 : K.length = 0
  · have hk0 := List.eq_nil_of_length_eq_zero h0
    subst hk0
    refine ⟨v, w, ?_, by rw [List.append_nil]; exact hown, ⟨rfl, rfl, rfl, Nat.le_refl _, fun _ _ _ => rfl⟩⟩
    obtain ⟨va, vc, rfl, _, hvc, _⟩ := ownL_slice hown
    have hn : va = none → vc = 0 ∧ H = [] := fun e => by
      subst e
      rcases hown.2 with ⟨e1, e2⟩ | ⟨g, cap, cur, e1, _⟩
      · injection e1 with _ _ e1; exact ⟨e1, List.eq_nil_of_length_eq_zero e2⟩
      · cases e1
    cases a with
    | none =>
      cases va with
      | none => obtain ⟨rfl, rfl⟩ := hn rfl; simp [Builtin.append_, run_underlying Try.underlying22, sizeOf, typeInfo, hi, Builtin.lenOf, Builtin.firstCells]
      | some g => simp [Builtin.append_, run_underlying Try.underlying22, sizeOf, typeInfo, hi, Builtin.lenOf, Builtin.firstCells, hvc, storeCells]
    | some d =>
      cases va with
      | none => obtain ⟨rfl, rfl⟩ := hn rfl; simp [Builtin.append_, run_underlying Try.underlying22, sizeOf, typeInfo, hi, Builtin.lenOf, Builtin.firstCells, loadCells, loadCellsFrom]
      | some g => simp [Builtin.append_, run_underlying Try.underlying22, sizeOf, typeInfo, hi, Builtin.lenOf, Builtin.firstCells, loadCells, loadCellsFrom, hvc, storeCells]
  · obtain ⟨b, off, rfl, _⟩ := hk 0 (by omega)
    have hnews : ∀ j u, (K.map hv)[j]? = some u → w.cell? ((⟨b, off, none⟩ : Addr).add j) = some u := by
      intro j u hj
      have hjn : j < K.length := by
        rcases Nat.lt_or_ge j K.length with h' | h'
        · exact h'
        · rw [List.getElem?_eq_none (by simpa using h')] at hj; cases hj
      obtain ⟨b', off', e, hc⟩ := hk j hjn
      injection e with e
      injection e with e1 e2
      subst e1 e2
      rw [add_off, hc, ← hj]
      simp [hjn]
    obtain ⟨g, cap, w', hr, h2, h3, _, _⟩ := run_append_lies (P := Try.prog) w 22 22 B 23 i0 _ 1 24 Try.underlying22 hi hz0 hz1 hz2 rfl (by decide) v H.length (H.map hv) hown ⟨b, off, none⟩ K.length c (K.map hv) (by simp) hnews (by intro u hu; obtain ⟨y, _, rfl⟩ := List.mem_map.1 hu; rfl) (by omega) (by unfold maxLen; omega) hsz hB w.heap.size rfl
    refine ⟨_, w', hr, ?_, h3⟩
    unfold OwnL
    rw [List.map_append, List.length_append]
    exact h2
theorem grown_below {w w' : World} {B : Nat} {v : Value} {H : List Hd} (h : OwnL w B v H) (hg : w.grownBy w' v.ownBlock) (hB : B ≤ w.heap.size) : Below B w w' :=
  (Below.refl _ _).grown hg hB (fun k hk => (World.ownsRow.lt (show w.ownsRow B 23 1 v H.length (H.map hv) from h) _ hk).1)
end Pt
end Go.Proofs.Ythpfnajgbocpnaa
