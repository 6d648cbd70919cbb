import Derived.Test.YtilglidhlcmfbaaDoorAllPlay2
import Derived.Test.YtilglidhlcmfbaaDoorRows
import Derived.OpenShut
import Derived.ShutString
import Derived.Deep.Slices
namespace Go.Proofs.YtilglidhlcmfbaaDoor
open Go.RowKit Go.WideShapes
set_option linter.unusedVariables false

theorem add_offA (b o j : Nat) : (⟨b, o, none⟩ : Addr).add j = ⟨b, o + j, none⟩ := by
  unfold Addr.add
  by_cases h : j = 0
  · subst h; rfl
  · simp [h]
/-- A row of steps: a number and a text each. -/
def IsOps (w : World) (a : Option Addr) (l : Nat) (F : Nat → Int) (X : Nat → ByteArray) : Prop := ∀ i, i < l → ∃ b off, a = some ⟨b, off, none⟩ ∧ w.cell? ⟨b, off + i * 2, none⟩ = some (.int .i64 (F i)) ∧ w.cell? ⟨b, off + i * 2 + 1, none⟩ = some (.string (X i))
theorem IsOps.below {w w' : World} {a : Option Addr} {l : Nat} {F : Nat → Int} {X : Nat → ByteArray} (h : IsOps w a l F X) (hb : Below w.heap.size w w') : IsOps w' a l F X := fun i hi => by
  obtain ⟨b, off, e, h1, h2⟩ := h i hi
  refine ⟨b, off, e, ?_, ?_⟩
  · rw [hb.cell (World.block_lt_of_cell? w _ h1)]; exact h1
  · rw [hb.cell (World.block_lt_of_cell? w _ h2)]; exact h2

set_option maxHeartbeats 1000000 in
theorem textAll_walk (a : Option Addr) (l c : Nat) (F : Nat → Int) (X : Nat → ByteArray) (w : World) (hi : IsOps w a l F X) (hl : l ≤ 1048576) (hX : ∀ i, i < l → (X i).size ≤ 1048576) (hH : HexTab w) (hA : AlTab w) (hW : WTab w) (hR : RowTab w) :
    Calls Tryd.prog 4 #[.slice a l c] w fun e w' => e = .returned (.bool true) ∧ Below w.heap.size w w' := by
  have hT : Hid (HexTab w ∧ AlTab w ∧ WTab w ∧ RowTab w) := ⟨hH, hA, hW, hR⟩
  have hX' : Hid (∀ i, i < l → (X i).size ≤ 1048576) := hX
  have hi' : Hid (IsOps w a l F X) := hi
  clear hH hA hW hR hX hi
  go_enter Tryd.func4, Tryd.ntmps4
  go_wp2_with fail
  go_loopw [3] (fun iv wr => ∃ i : Nat, i ≤ l ∧ iv = .int .i64 (i : Int) ∧ Hid (Below w.heap.size w wr)) (fun iv _ => l - (intOf iv).toNat)
  case atStart => exact ⟨0, Nat.zero_le _, rfl, Below.refl _ _⟩
  case round =>
    obtain ⟨i, hil, rfl, hB⟩ := hrel
    by_cases hlt : i < l
    · obtain ⟨b, off, ha, c1, c2⟩ := (hi'.out.below hB.out) i hlt
      subst ha
      have hp := plays_any (F i) (X i) wr (hX'.out i hlt) (hT.out.1.below hB.out) (hT.out.2.1.below hB.out) (hT.out.2.2.1.below hB.out) (hT.out.2.2.2.below hB.out)
      have i0 : (0 : Int) ≤ (i : Int) := Int.natCast_nonneg _
      have i1 : (i : Int) < (l : Int) := Int.ofNat_lt.2 hlt
      generalize F i = f at *
      generalize X i = x at *
      go_wp2_with (go_at_call 8; refine hp.mono ?_; rintro e w1 ⟨rfl, hb1⟩)
      go_roundw
      case rel => exact ⟨i + 1, hlt, by simp, hB.out.trans (hb1.mono hB.out.size)⟩
      case measure => simp [intOf]; omega
    · have i1 : ¬ (i : Int) < (l : Int) := by omega
      go_wp2_with fail
      go_ret
      exact ⟨rfl, hB.out⟩

set_option maxRecDepth 100000 in
theorem op_ofA {H : Type} {enc : TypeId × Value → H} {w : World} {base : Nat} {spare : Nat → Bool} {held : Bool} {n : Nat} {cs : List Value} {d : DataW H} {p : List MemPlace}
    (h : DataW.trod enc Tryd.prog w base spare held n 27 cs = some (d, p)) : ∃ (f : Int) (s : ByteArray), cs = [.int .i64 f, .string s] ∧ Rows.uptoBulk d = s.size + 3 := by
  obtain ⟨xs, n', rfl, hx, hl, hxl, hfi⟩ := DataW.trod_struct Tryd.underlying27 h
  have e2 : Tryd.prog.cellsOf 27 = 2 := by kernel_rfl
  rw [e2] at hl
  match cs, hl with
  | [x0, x1], _ =>
    match xs, hxl with
    | [y0, y1], _ =>
      have g0 := hfi 0 _ rfl
      have g1 := hfi 1 _ rfl
      have z0 : Tryd.prog.cellsOf 3 = 1 := by kernel_rfl
      have z1 : Tryd.prog.cellsOf 9 = 1 := by kernel_rfl
      simp [z0] at g0
      simp [z1] at g1
      obtain ⟨f, hf, hf2, _⟩ := DataW.trod_int Tryd.underlying3 g0
      obtain ⟨s, hs, hs2, _⟩ := DataW.trod_string Tryd.underlying9 g1
      simp at hf hs
      refine ⟨f, s, by rw [hf, hs], ?_⟩
      injection hx with hx _
      rw [hx, hf2, hs2]
      simp [Rows.uptoBulk, Rows.uptoBulkAll]
      omega
theorem bulk_each {H : Type} (D : Nat → DataW H) (l : Nat) : ∀ i, i < l → Rows.uptoBulk (D i) ≤ Rows.uptoBulkAll ((List.range l).map D) := by
  have app : ∀ (a b : List (DataW H)), Rows.uptoBulkAll (a ++ b) = Rows.uptoBulkAll a + Rows.uptoBulkAll b := by
    intro a b
    induction a with
    | nil => simp [Rows.uptoBulkAll]
    | cons d a ih => simp only [List.cons_append, Rows.uptoBulkAll, ih]; omega
  induction l with
  | zero => intro i hi; omega
  | succ l ih =>
    intro i hi
    rw [List.range_succ, List.map_append, app]
    simp only [List.map_cons, List.map_nil, Rows.uptoBulkAll]
    by_cases e : i = l
    · subst e; omega
    · have := ih i (by omega); omega
theorem bulk_many {H : Type} (D : Nat → DataW H) (l : Nat) (h : ∀ i, i < l → 1 ≤ Rows.uptoBulk (D i)) : l ≤ Rows.uptoBulkAll ((List.range l).map D) := by
  have app : ∀ (a b : List (DataW H)), Rows.uptoBulkAll (a ++ b) = Rows.uptoBulkAll a + Rows.uptoBulkAll b := by
    intro a b
    induction a with
    | nil => simp [Rows.uptoBulkAll]
    | cons d a ih => simp only [List.cons_append, Rows.uptoBulkAll, ih]; omega
  induction l with
  | zero => exact Nat.zero_le _
  | succ l ih =>
    rw [List.range_succ, List.map_append, app]
    simp only [List.map_cons, List.map_nil, Rows.uptoBulkAll]
    have h1 := ih (fun i hi => h i (by omega))
    have h2 := h l (by omega)
    omega

theorem ops_ofA {H : Type} {enc : TypeId × Value → H} {w : World} {base : Nat} {spare : Nat → Bool} {held : Bool} {a : Option Addr} {len cap : Nat} {d : DataW H} {p : List MemPlace}
    (h : DataW.Trod enc Tryd.prog w base spare held 24 (.slice a len cap) d p) : ∃ F X, IsOps w a len F X ∧ len ≤ Rows.uptoBulk d ∧ ∀ i, i < len → (X i).size ≤ Rows.uptoBulk d := by
  obtain ⟨fuel, hf⟩ := h
  have e2 : Tryd.prog.cellsOf 27 = 2 := by kernel_rfl
  rcases Deep.open_slice Tryd.underlying24 hf with ⟨hcs, hx⟩ | ⟨x, l, c, m, n, D, Pl, hcs, _, hl, _, hm, hxd, hx⟩
  · simp [Value.cells] at hcs
    obtain ⟨_, rfl, _⟩ := hcs
    exact ⟨fun _ => 0, fun _ => ⟨#[]⟩, fun i hi => by omega, Nat.zero_le _, fun i hi => by omega⟩
  · simp [Value.cells] at hcs
    obtain ⟨rfl, rfl, rfl⟩ := hcs
    rw [e2] at hx
    have key : ∀ i, i < len → ∃ q : Int × ByteArray, w.cell? ((x.add (i * 2)).add 0) = some (.int .i64 q.1) ∧ w.cell? ((x.add (i * 2)).add 1) = some (.string q.2) ∧ Rows.uptoBulk (D i) = q.2.size + 3 := fun i hi => by
      have him : i < m := by rw [hm]; split <;> omega
      obtain ⟨cs', h1, h2⟩ := hx i him
      obtain ⟨f, s, rfl, hb⟩ := op_ofA h2
      obtain ⟨_, _, h3⟩ := World.cells?_some h1
      exact ⟨(f, s), h3 0 (by omega), h3 1 (by omega), hb⟩
    obtain ⟨Q, hQ⟩ := Deep.choose_lt key
    injection hxd with hxd _
    have hall : Rows.uptoBulkAll ((List.range len).map D) ≤ Rows.uptoBulk d := by
      rw [hxd]
      simp only [Rows.uptoBulk]
      omega
    refine ⟨fun i => (Q i).1, fun i => (Q i).2, fun i hi => ?_, ?_, fun i hi => ?_⟩
    · obtain ⟨h1, h2, _⟩ := hQ i hi
      obtain ⟨b, off, spot⟩ := x
      have hspot : spot = none := by
        have h0 := (hQ 0 (by omega)).1
        have := World.cell?_spot h0
        simpa [Addr.add] using this
      subst hspot
      rw [add_offA, add_offA] at h1 h2
      exact ⟨b, off, rfl, h1, by rw [← h2]⟩
    · have := bulk_many D len (fun i hi => by rw [(hQ i hi).2.2]; omega)
      omega
    · have h1 := bulk_each D len i hi
      rw [(hQ i hi).2.2] at h1
      show (Q i).2.size ≤ _
      omega
end Go.Proofs.YtilglidhlcmfbaaDoor
