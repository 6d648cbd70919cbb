import Derived.Test.YthpfnajgbocpnaaPtTxW
import Derived.Test.YthpfnajgbocpnaaRows
import Derived.OpenShut
import Derived.ShutString
import Derived.Deep.Slices
namespace Go.Proofs.Ythpfnajgbocpnaa
namespace Pt
open Go.RowKit Go.WideShapes
open PtHpM (Hd)
open PtT (Rk TB en)
set_option linter.unusedVariables false
set_option maxRecDepth 100000

theorem bulk_pos {H : Type} : ∀ d : DataW H, 1 ≤ Rows.uptoBulk d
  | .lit l => by cases l <;> simp [Rows.uptoBulk]
  | .nil => by simp [Rows.uptoBulk]
  | .ptr d => by simp [Rows.uptoBulk]
  | .slice a b => by simp [Rows.uptoBulk]
  | .agg a => by simp [Rows.uptoBulk]
  | .iface _ d => by simp [Rows.uptoBulk]
  | .map e => by simp [Rows.uptoBulk]
  | .held _ => by simp [Rows.uptoBulk]
theorem bulk_len {H : Type} (l : List (DataW H)) : l.length ≤ Rows.uptoBulkAll l := by
  induction l with
  | nil => simp
  | cons d l ih =>
    have := bulk_pos d
    simp only [List.length_cons, Rows.uptoBulkAll]
    omega
/-- A list of texts that came in. -/
theorem rt_trod {H : Type} {enc : TypeId × Value → H} {w : World} {base : Nat} {spare : Nat → Bool} {held : Bool} {fuel : Nat} {cs : List Value} {d : DataW H} {p : List MemPlace}
    (hf : DataW.trod enc Try.prog w base spare held fuel 23 cs = some (d, p)) (hb : Rows.uptoBulk d ≤ 1048576) : ∃ a c L, cs = [.slice a (L : List (List UInt8)).length c] ∧ Row w a L ∧ L.length ≤ c ∧ c ≤ maxLen ∧ L.length + 1 ≤ Rows.uptoBulk d := by
  have hc1 : Try.prog.cellsOf 9 = 1 := by kernel_rfl
  rcases Deep.open_slice1 Try.underlying23 hc1 hf with ⟨hcs, hx⟩ | ⟨x, l, c, m, n, V, D, Pl, hcs, _, hl, hcm, hm, hxd, hx⟩
  · injection hx with hx _
    subst hx
    exact ⟨none, 0, [], hcs, Row.nil _ _, Nat.le_refl _, by unfold maxLen; omega, by simp [Rows.uptoBulk]⟩
  · injection hxd with hxd _
    have key : ∀ i, i < l → ∃ q : ByteArray, w.cell? (x.add i) = some (.string q) := fun i hi => by
      have him : i < m := by rw [hm]; split <;> omega
      obtain ⟨h1, h2⟩ := hx i him
      obtain ⟨v, hv, _, _⟩ := DataW.trod_string Try.underlying9 h2
      simp at hv
      exact ⟨v, by rw [h1, hv]⟩
    obtain ⟨Q, hQ⟩ := Deep.choose_lt key
    have hlen : l + 1 ≤ Rows.uptoBulk d := by
      rw [hxd]
      have := bulk_len ((List.range l).map D)
      simp only [Rows.uptoBulk]
      simp at this ⊢
      omega
    refine ⟨some x, c, (List.range l).map fun i => (Q i).data.toList, by simpa using hcs, fun i hi => ?_, by simpa using hl, hcm, by simpa using hlen⟩
    have hi' : i < l := by simpa using hi
    obtain ⟨b, off, spot⟩ := x
    have hspot : spot = none := by
      have := World.cell?_spot (hQ 0 (by omega))
      simpa [Addr.add] using this
    subst hspot
    refine ⟨b, off, rfl, ?_⟩
    have h0 := hQ i hi'
    rw [add_off] at h0
    rw [h0]
    simp [S_of]
theorem bulk_at {H : Type} (l : Nat) (D : Nat → DataW H) (i : Nat) (h : i < l) : Rows.uptoBulk (D i) ≤ Rows.uptoBulkAll ((List.range l).map D) := by
  have hmem : D i ∈ (List.range l).map D := List.mem_map_of_mem (List.mem_range.2 h)
  generalize (List.range l).map D = L at hmem ⊢
  induction L with
  | nil => simp at hmem
  | cons y L ih =>
    simp only [Rows.uptoBulkAll]
    rcases List.mem_cons.1 hmem with e | e
    · rw [e]; omega
    · have := ih e; omega
theorem bulk_sum {H : Type} (D : Nat → DataW H) (f : Nat → Nat) : ∀ l, (∀ i, i < l → f i + 1 ≤ Rows.uptoBulk (D i)) → ((List.range l).map f).sum + l ≤ Rows.uptoBulkAll ((List.range l).map D) := by
  intro l
  induction l with
  | zero => intro _; simp [Rows.uptoBulkAll]
  | succ l ih =>
    intro h
    have h1 := ih (fun i hi => h i (by omega))
    have h2 := h l (by omega)
    have h3 : ∀ (A : List (DataW H)) (d : DataW H), Rows.uptoBulkAll (A ++ [d]) = Rows.uptoBulkAll A + Rows.uptoBulk d := fun A d => by
      induction A with
      | nil => simp [Rows.uptoBulkAll]
      | cons y A ih => simp only [List.cons_append, Rows.uptoBulkAll, ih]; omega
    rw [List.range_succ, List.map_append, List.map_append, List.map_cons, List.map_nil, List.map_cons, List.map_nil, h3, List.sum_append]
    simp
    omega
/-- The spare text's bytes. -/
def spB : List UInt8 := [115, 112, 97, 114, 101]
/-- A list of lists of texts that came in: their texts by ranks, the spare one's among them. -/
theorem lists_upto {H : Type} {enc : TypeId × Value → H} {w : World} {base : Nat} {spare : Nat → Bool} {held : Bool} {a : Option Addr} {l c : Nat} {d : DataW H} {p : List MemPlace}
    (h : DataW.Trod enc Try.prog w base spare held 22 (.slice a l c) d p) (hb : Rows.uptoBulk d ≤ 1048576) : ∃ (Tk : Rk) (sp : Nat) (Ss : List Hd), TB Tk sp = { data := #[115, 112, 97, 114, 101] } ∧ l = Ss.length ∧ SRow w a Ss ∧ (∀ x ∈ Ss, Rd Tk w x.1 x.2.1 x.2.2) ∧ Ss.length ≤ c ∧ c ≤ maxLen ∧ tot (lsts Ss) + Ss.length ≤ Rows.uptoBulk d := by
  obtain ⟨fuel, hf⟩ := h
  have hc1 : Try.prog.cellsOf 23 = 1 := by kernel_rfl
  rcases Deep.open_slice1 Try.underlying22 hc1 hf with ⟨hcs, hx⟩ | ⟨x, l', c', m, n, V, D, Pl, hcs, _, hl, hcm, hm, hxd, hx⟩
  · simp [Value.cells] at hcs
    obtain ⟨rfl, rfl, rfl⟩ := hcs
    obtain ⟨Tk, hT⟩ := PtT.rank [spB]
    obtain ⟨z, hz⟩ := hT spB (List.mem_singleton.2 rfl)
    exact ⟨Tk, z, [], by unfold TB; rw [hz]; rfl, rfl, fun i hi => by simp at hi, fun x hx => by simp at hx, Nat.le_refl _, by unfold maxLen; omega, by have := bulk_pos d; simp [lsts, tot]⟩
  · simp [Value.cells] at hcs
    obtain ⟨rfl, rfl, rfl⟩ := hcs
    injection hxd with hxd _
    have hall : Rows.uptoBulkAll ((List.range l).map D) ≤ 1048576 := by
      rw [hxd] at hb
      simp only [Rows.uptoBulk] at hb
      omega
    have key : ∀ i, i < l → ∃ q : Option Addr × Nat × List (List UInt8), w.cell? (x.add i) = some (.slice q.1 q.2.2.length q.2.1) ∧ Row w q.1 q.2.2 ∧ q.2.2.length ≤ q.2.1 ∧ q.2.1 ≤ maxLen ∧ q.2.2.length + 1 ≤ Rows.uptoBulk (D i) := fun i hi => by
      have him : i < m := by rw [hm]; split <;> omega
      obtain ⟨h1, h2⟩ := hx i him
      have hbi := bulk_at l D i hi
      obtain ⟨a', c', L, e, h3, h4, h5, h6⟩ := rt_trod h2 (by omega)
      injection e with e
      exact ⟨(a', c', L), by rw [h1, e], h3, h4, h5, h6⟩
    obtain ⟨Q, hQ⟩ := Deep.choose_lt key
    obtain ⟨Tk, hT⟩ := PtT.rank (spB :: ((List.range l).map fun i => (Q i).2.2).flatten)
    obtain ⟨z, hz⟩ := hT spB (List.mem_cons_self ..)
    have key2 : ∀ i, i < l → ∃ k : List Nat, k.map Tk.1 = (Q i).2.2 := fun i hi => PtT.lift Tk _ (fun s hs => hT s (List.mem_cons_of_mem _ (List.mem_flatten.2 ⟨_, List.mem_map_of_mem (List.mem_range.2 hi), hs⟩)))
    obtain ⟨K, hK⟩ := Deep.choose_lt key2
    have hKl : ∀ i, i < l → (K i).length = (Q i).2.2.length := fun i hi => by rw [← hK i hi, List.length_map]
    refine ⟨Tk, z, (List.range l).map fun i => ((Q i).1, (Q i).2.1, K i), by unfold TB; rw [hz]; rfl, by simp, fun i hi => ?_, fun y hy => ?_, by simpa using hl, hcm, ?_⟩
    · have hi' : i < l := by simpa using hi
      obtain ⟨b, off, spot⟩ := x
      have hspot : spot = none := by
        have := World.cell?_spot (hQ 0 (by omega)).1
        simpa [Addr.add] using this
      subst hspot
      refine ⟨b, off, rfl, ?_⟩
      have h0 := (hQ i hi').1
      rw [add_off] at h0
      rw [h0, ← hKl i hi']
      simp [hv]
    · obtain ⟨i, hi, rfl⟩ := List.mem_map.1 hy
      have hi' := List.mem_range.1 hi
      obtain ⟨q1, q2, q3, q4, q5⟩ := hQ i hi'
      have hbi := bulk_at l D i hi'
      have hkl := hKl i hi'
      refine ⟨of_row (by rw [hK i hi']; exact q2), by show (K i).length ≤ (Q i).2.1; omega, q4, by show (K i).length ≤ 4194304; omega⟩
    · have h5 := bulk_sum D (fun i => (K i).length) l (fun i hi => by have := (hQ i hi).2.2.2.2; have := hKl i hi; omega)
      have h6 : tot (lsts ((List.range l).map fun i => ((Q i).1, (Q i).2.1, K i))) = ((List.range l).map fun i => (K i).length).sum := by
        unfold tot lsts
        rw [List.map_map, List.map_map]
        rfl
      rw [h6, hxd]
      simp only [Rows.uptoBulk, List.length_map, List.length_range]
      omega
end Pt
end Go.Proofs.Ythpfnajgbocpnaa
