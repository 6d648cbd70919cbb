import Derived.Test.YtgdinncdhjeokaaGreatDoorFNorm
import Derived.Test.YtgdinncdhjeokaaGreatDoorAtRead2
import Derived.Test.YtgdinncdhjeokaaGreatDoorAtOwn
import Derived.Test.YtgdinncdhjeokaaGreatDoorAtBook
import Derived.Maps.OwnSet
import Derived.Maps.RangeWalk
import Derived.Maps.Ext
import Derived.Maps.AppendAt
namespace Go.Proofs.YtgdinncdhjeokaaGreatDoor
open Go.RowKit
open TextMath (fold lo)

/-- What ParseType answers of a folded text: the canonical type, the error, the place. -/
def parsT (f : ByteArray) : ByteArray × Int × Nat := if (typE f.data.toList).2 = true ∧ ¬ (typE f.data.toList).1 < f.size then (canN f, 0, (typE f.data.toList).1) else (⟨#[]⟩, 40, (typE f.data.toList).1)
end Go.Proofs.YtgdinncdhjeokaaGreatDoor

namespace Go.Proofs.YtgdinncdhjeokaaGreatDoor
open Go.RowKit
set_option linter.unusedVariables false

theorem mk_set (n : Nat) (w : World) : (Instr.makeMap 144 (some (.int .i64 (n : Int)))).run Tryz.prog w = .ok (.map (some w.heap.size)) (w.alloc (.map #[] 0)) := by
  simp [Instr.makeMap, run_underlying Tryz.underlying144, asInt]
  rfl
theorem lit_ne {x y : List UInt8} (h : ¬ x = y) : (Lit.string x) ≠ .string y := fun e => h (by injection e)
/-- A row of texts by its cells: nothing, or a block. -/
def TRow (w : World) (a : Option Addr) (l : List (List UInt8)) : Prop := ∀ i (hi : i < l.length), ∃ g, a = some ⟨g, 0, none⟩ ∧ w.cell? ⟨g, i, none⟩ = some (.string (S l[i]))
theorem ownS_trow {w : World} {B : Nat} {v : Value} {l : List (List UInt8)} (h : OwnS w B v l) : ∃ a c, v = .slice a l.length c ∧ TRow w a l := by
  rcases ownS_form h with ⟨rfl, rfl⟩ | ⟨g, cap, rfl⟩
  · exact ⟨none, 0, rfl, fun i hi => by simp at hi⟩
  · exact ⟨_, _, rfl, fun i hi => ⟨g, rfl, ownS_cell h i hi⟩⟩
theorem TRow.below {w w' : World} {a : Option Addr} {l : List (List UInt8)} (h : TRow w a l) (hb : Below w.heap.size w w') : TRow w' a l := fun i hi => by
  obtain ⟨g, e, h1⟩ := h i hi
  refine ⟨g, e, ?_⟩
  rw [hb.cell (World.block_lt_of_cell? w _ h1)]
  exact h1

/-- A map that holds just the texts of a list, none twice. -/
def SetIs (D : DataW Unit) (L : List (List UInt8)) : Prop := (∀ x, Maps.has D (.string x) = decide (x ∈ L)) ∧ L.Nodup ∧ Maps.size D = L.length
theorem SetIs.zero : SetIs (.map []) [] := ⟨fun x => rfl, List.nodup_nil, rfl⟩
theorem SetIs.put {D : DataW Unit} {L : List (List UInt8)} (h : SetIs D L) (hm : Maps.IsMap D) (ht : Maps.Tidy D) (x : List UInt8) : ∃ L', SetIs (D.put (.string x) (.agg [])) L' ∧ ∀ y, y ∈ L' ↔ y ∈ L ∨ y = x := by
  have hx := h.1 x
  by_cases e : x ∈ L
  · refine ⟨L, ⟨fun y => ?_, h.2.1, ?_⟩, fun y => ⟨Or.inl, fun q => by rcases q with q | rfl <;> assumption⟩⟩
    · by_cases ey : y = x
      · subst ey; rw [Maps.has_put_same hm (show WideAt.IsKeyLit (Lit.string _) from trivial)]; simp [e]
      · rw [Maps.has_put_other (lit_ne ey), h.1 y]
    · rw [Maps.size_put ht, hx, if_pos (by simp [e])]; exact h.2.2
  · refine ⟨L ++ [x], ⟨fun y => ?_, ?_, ?_⟩, fun y => by simp⟩
    · by_cases ey : y = x
      · subst ey; rw [Maps.has_put_same hm (show WideAt.IsKeyLit (Lit.string _) from trivial)]; simp
      · rw [Maps.has_put_other (lit_ne ey), h.1 y]; simp [ey]
    · rw [List.nodup_append]
      refine ⟨h.2.1, by simp, ?_⟩
      intro a ha b hb
      simp at hb
      subst hb
      intro q
      subst q
      exact e ha
    · rw [Maps.size_put ht, hx, if_neg (by simp [e]), h.2.2]; simp
theorem SetIs.del {D : DataW Unit} {L : List (List UInt8)} (h : SetIs D L) (ht : Maps.Tidy D) (x : List UInt8) : SetIs (D.del (.string x)) (L.erase x) := by
  have hx := h.1 x
  have hs := Maps.size_del (k := .string x) ht
  refine ⟨fun y => ?_, h.2.1.erase x, ?_⟩
  · by_cases ey : y = x
    · subst ey; rw [Maps.has_del_same]; simp [h.2.1.mem_erase_iff]
    · rw [Maps.has_del_other (lit_ne ey), h.1 y]; simp [h.2.1.mem_erase_iff, ey]
  · rw [hx, h.2.2] at hs
    by_cases e : x ∈ L
    · rw [if_pos (by simp [e])] at hs
      rw [List.length_erase_of_mem e]
      omega
    · rw [if_neg (by simp [e])] at hs
      rw [List.erase_of_not_mem e]
      omega

/-- What gather leaves behind. -/
def GatherIs (w w' : World) (l : List (List UInt8)) : Prop := ∃ D L, w'.ownsMap Tryz.prog 9 (unitElem (H := Unit)) w.heap.size l.length D ∧ SetIs D L ∧ (∀ x, x ∈ L ↔ x ∈ l) ∧ Below w.heap.size w w' ∧ w.heap.size < w'.heap.size
set_option maxRecDepth 100000 in
set_option maxHeartbeats 1000000 in
theorem gather_any (a : Option Addr) (l : List (List UInt8)) (c : Nat) (w : World) (hv : TRow w a l) (hl : l.length ≤ 4194304) (hz : ∀ x ∈ l, x.length ≤ 4194304) :
    Calls Tryz.prog 81 #[.slice a l.length c] w fun e w' => e = .returned (.map (some w.heap.size)) ∧ GatherIs w w' l := by
  have hmm := mk_set l.length
  have hv' : Hid (TRow w a l) := hv
  have hz' : Hid (∀ x ∈ l, x.length ≤ 4194304) := hz
  clear hv hz
  go_enter Tryz.func81, Tryz.ntmps81
  go_wp2_with fail
  clear hmm
  go_loopw [11] (fun iv wr => ∃ (k : Nat) (D : DataW Unit) (L : List (List UInt8)), k ≤ l.length ∧ iv = .int .i64 (k : Int) ∧ Hid (wr.ownsMap Tryz.prog 9 (unitElem (H := Unit)) w.heap.size k D) ∧ Hid (SetIs D L ∧ ∀ x, x ∈ L ↔ x ∈ l.take k) ∧ Hid (Below w.heap.size w wr ∧ w.heap.size < wr.heap.size)) (fun iv _ => l.length - (intOf iv).toNat)
  case atStart =>
    exact ⟨0, .map [], [], Nat.zero_le _, rfl, World.ownsMap_made _ _ _ _, ⟨SetIs.zero, fun x => by simp⟩, (Below.refl _ _).alloc (Nat.le_refl _) _, by simp⟩
  case round =>
    obtain ⟨k, D, L, hk, rfl, hM, hD, hB⟩ := hrel
    by_cases hlt : k < l.length
    · obtain ⟨g, rfl, hc⟩ := (hv'.out.below hB.out.1) k hlt
      have k0 : (0 : Int) ≤ (k : Int) := Int.natCast_nonneg _
      have k1 : (k : Int) < (l.length : Int) := Int.ofNat_lt.2 hlt
      have hkey : Hid (keyOf Tryz.prog 9 (.string (S l[k])) = some (.string l[k])) := by
        have h := key_str (S l[k]) (by rw [S_size]; have := hz'.out _ (List.getElem_mem hlt); unfold maxLen; omega)
        rw [S_l] at h
        exact h
      obtain ⟨L', hL1, hL2⟩ := hD.out.1.put hM.out.isMap (hM.out.tidy (Maps.string_keyed Tryz.underlying9)) l[k]
      have hD' : Hid (SetIs (D.put (.string l[k]) (.agg [])) L' ∧ ∀ x, x ∈ L' ↔ x ∈ l.take (k + 1)) := by
        refine ⟨hL1, fun x => ?_⟩
        rw [hL2, hD.out.2, List.take_succ_eq_append_getElem hlt, List.mem_append, List.mem_singleton]
      have hkm : k < maxLen := by unfold maxLen; omega
      clear hD hL1 hL2
      generalize S l[k] = X at *
      go_wp2_with (at_mapUpdate; refine wpList_mapUpdate_own _ rfl _ _ _ 144 rfl 9 157 (Maps.string_keyed Tryz.underlying9) Tryz.underlying144 (unitElem (H := Unit)) w.heap.size k D rfl hM.out hkm _ _ _ rfl rfl hkey.out _ [] unitElem_mk ?_; intro w1 hown1 hgrow1)
      go_roundw
      case rel =>
        refine ⟨k + 1, _, L', hlt, by simp, hown1, hD', ?_⟩
        exact ⟨hB.out.1.grown hgrow1 hB.out.1.size (fun j hj => by cases hj; exact Nat.le_refl _), Nat.lt_of_lt_of_le hB.out.2 hgrow1.size⟩
      case measure => simp [intOf]; omega
    · have hke : k = l.length := by omega
      have k1 : ¬ (k : Int) < (l.length : Int) := by omega
      have hfin : Hid (wr.ownsMap Tryz.prog 9 (unitElem (H := Unit)) w.heap.size l.length D ∧ SetIs D L ∧ (∀ x, x ∈ L ↔ x ∈ l)) := by
        rw [hke] at hM hD
        refine ⟨hM.out, hD.out.1, fun x => ?_⟩
        rw [hD.out.2 x, List.take_length]
      clear hM hD hke
      go_wp2_with fail
      go_ret
      exact ⟨rfl, D, L, hfin.out.1, hfin.out.2.1, hfin.out.2.2, hB.out⟩

/-- Whether each asked text is there. -/
def holds (there asked : List (List UInt8)) : Bool := asked.all fun x => decide (x ∈ there)
end Go.Proofs.YtgdinncdhjeokaaGreatDoor
