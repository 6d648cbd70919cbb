import Derived.Test.YtohkmjaaigaemabMtFitW
import Derived.Test.YtohkmjaaigaemabRows
import Derived.OpenShut
import Derived.ShutString
import Derived.Deep.Slices
namespace Go.Proofs.Ytohkmjaaigaemab
open Go.RowKit Go.WideShapes
set_option linter.unusedVariables false

def tot (X : Nat → ByteArray) : Nat → Nat
  | 0 => 0
  | i + 1 => tot X i + ((X i).size + 1)
theorem tot_le (X : Nat → ByteArray) : ∀ n i, i < n → (X i).size + 1 ≤ tot X n
  | 0, i, h => by omega
  | n + 1, i, h => by
    show _ ≤ tot X n + ((X n).size + 1)
    rcases Nat.lt_or_ge i n with q | q
    · have := tot_le X n i q; omega
    · have : i = n := by omega
      subst this
      omega
theorem tot_ge (X : Nat → ByteArray) : ∀ n, n ≤ tot X n
  | 0 => Nat.zero_le _
  | n + 1 => by have := tot_ge X n; show _ ≤ tot X n + ((X n).size + 1); omega
theorem add_offM (b o j : Nat) : (⟨b, o, none⟩ : Addr).add j = ⟨b, o + j, none⟩ := by
  simp [Addr.add]
def lstM (X : Nat → ByteArray) (n : Nat) : List (List UInt8) := (List.range n).map (fun j => (X j).data.toList)
theorem lstM_len (X : Nat → ByteArray) (n : Nat) : (lstM X n).length = n := by simp [lstM]
theorem bulk_totM {H : Type} (D : Nat → DataW H) (X : Nat → ByteArray) (l : Nat) (h : ∀ i, i < l → Rows.uptoBulk (D i) = (X i).size + 1) : tot X l ≤ Rows.uptoBulkAll ((List.range l).map D) := by
  have app : ∀ (a b : List (DataW H)), Rows.uptoBulkAll (a ++ b) = Rows.uptoBulkAll a + Rows.uptoBulkAll b := by
    intro a b
    induction a with
    | nil => simp [Rows.uptoBulkAll]
    | cons d a ih => simp only [List.cons_append, Rows.uptoBulkAll, ih]; omega
  induction l with
  | zero => exact Nat.zero_le _
  | succ l ih =>
    rw [List.range_succ, List.map_append, app]
    have h1 := ih (fun i hi => h i (by omega))
    have h2 := h l (by omega)
    show tot X l + ((X l).size + 1) ≤ _
    simp only [List.map_cons, List.map_nil, Rows.uptoBulkAll]
    omega
theorem texts_of {H : Type} {enc : TypeId × Value → H} {w : World} {base : Nat} {spare : Nat → Bool} {held : Bool} {fuel : Nat} {v : Value} {d : DataW H} {p : List MemPlace}
    (hf : DataW.trod enc Try.prog w base spare held fuel 22 [v] = some (d, p)) : ∃ a l cap, v = .slice a l.length cap ∧ Row w a l ∧ l.length ≤ Rows.uptoBulk d ∧ ∀ x ∈ l, x.length ≤ Rows.uptoBulk d := by
  have e1 : Try.prog.cellsOf 9 = 1 := by kernel_rfl
  rcases Deep.open_slice1 Try.underlying22 e1 hf with ⟨hcs, hx⟩ | ⟨x, l, c, m, n, V, D, Pl, hcs, _, hl, _, hm, hxd, hx⟩
  · simp at hcs
    subst hcs
    exact ⟨none, [], 0, rfl, fun i hi => by simp at hi, Nat.zero_le _, fun x hx => by simp at hx⟩
  · simp at hcs
    subst hcs
    have key : ∀ i, i < l → ∃ q : ByteArray, w.cell? (x.add i) = some (.string q) ∧ Rows.uptoBulk (D i) = q.size + 1 := fun i hi => by
      have him : i < m := by rw [hm]; split <;> omega
      obtain ⟨h1, h2⟩ := hx i him
      obtain ⟨s, hs, hs2, _⟩ := DataW.trod_string Try.underlying9 h2
      simp at hs
      refine ⟨s, by rw [h1, hs], ?_⟩
      injection hs2 with hs2 _
      rw [hs2]
      simp [Rows.uptoBulk]
    obtain ⟨Q, hQ⟩ := Deep.choose_lt key
    have htt : tot Q l ≤ Rows.uptoBulk d := by
      injection hxd with hxd _
      rw [hxd]
      have := bulk_totM D Q l (fun i hi => (hQ i hi).2)
      simp only [Rows.uptoBulk]
      omega
    refine ⟨some x, lstM Q l, c, by rw [lstM_len], fun i hi => ?_, by rw [lstM_len]; have := tot_ge Q l; omega, fun y hy => ?_⟩
    · rw [lstM_len] at hi
      obtain ⟨h1, _⟩ := hQ i hi
      obtain ⟨b, off, spot⟩ := x
      have hspot : spot = none := by
        have h0 := (hQ 0 (by omega)).1
        have := World.cell?_spot h0
        simpa [Addr.add] using this
      subst hspot
      rw [add_offM] at h1
      refine ⟨b, off, rfl, ?_⟩
      rw [h1]
      simp [lstM, S_of]
    · obtain ⟨j, hj, rfl⟩ := List.mem_map.1 hy
      have := tot_le Q l j (List.mem_range.1 hj)
      rw [size_l]
      omega
set_option maxRecDepth 100000 in
theorem pat_of {H : Type} {enc : TypeId × Value → H} {w : World} {base : Nat} {spare : Nat → Bool} {held : Bool} {r : Reach} {b0 : Nat} {v : Value} {d : DataW H} {p : List MemPlace}
    (hval : Value.okWide Try.prog w r b0 24 v) (h : DataW.Trod enc Try.prog w base spare held 24 v d p) : ∃ i f a l cap, v = .agg #[.string i, .slice a l.length cap, .string f] ∧ Row w a l ∧ i.size ≤ Rows.uptoBulk d ∧ f.size ≤ Rows.uptoBulk d ∧ l.length ≤ Rows.uptoBulk d ∧ ∀ x ∈ l, x.length ≤ Rows.uptoBulk d := by
  obtain ⟨cs, rfl, hsz⟩ := okWide_struct Try.underlying24 hval
  obtain ⟨fuel, hf⟩ := h
  obtain ⟨xs, n, rfl, hx, hl, hxl, hfi⟩ := DataW.trod_struct Try.underlying24 hf
  have e3 : Try.prog.cellsOf 24 = 3 := by kernel_rfl
  rw [e3] at hsz
  obtain ⟨l, rfl⟩ : ∃ l : List Value, cs = l.toArray := ⟨cs.toList, by simp⟩
  have hl3 : l.length = 3 := by simpa using hsz
  match l, hl3 with
  | [x0, x1, x2], _ =>
    match xs, hxl with
    | [y0, y1, y2], _ =>
      have g0 := hfi 0 _ rfl
      have g1 := hfi 1 _ rfl
      have g2 := hfi 2 _ rfl
      have z0 : Try.prog.cellsOf 9 = 1 := by kernel_rfl
      have z2 : Try.prog.cellsOf 22 = 1 := by kernel_rfl
      simp [Value.cells, z0] at g0
      simp [Value.cells, z2] at g1
      simp [Value.cells, z0] at g2
      obtain ⟨i, hi, hi2, _⟩ := DataW.trod_string Try.underlying9 g0
      obtain ⟨a, l, cap, hs, hb, h1, h2⟩ := texts_of (d := y1.1) (p := y1.2) g1
      obtain ⟨f, hf, hf2, _⟩ := DataW.trod_string Try.underlying9 g2
      simp at hi hf
      injection hx with hx _
      have hbu : Rows.uptoBulk y0.1 + Rows.uptoBulk y1.1 + Rows.uptoBulk y2.1 ≤ Rows.uptoBulk d := by
        rw [hx]
        simp [Rows.uptoBulk, Rows.uptoBulkAll]
        omega
      have hbi : i.size ≤ Rows.uptoBulk y0.1 := by rw [hi2]; simp [Rows.uptoBulk]
      have hbf : f.size ≤ Rows.uptoBulk y2.1 := by rw [hf2]; simp [Rows.uptoBulk]
      refine ⟨i, f, a, l, cap, by rw [hi, hs, hf], hb, by omega, by omega, by omega, fun x hx => by have := h2 x hx; omega⟩
end Go.Proofs.Ytohkmjaaigaemab
