import Derived.Test.YtdeeegocjgikoaaDoorK1
import Derived.Test.YtdeeegocjgikoaaDoorAtBook
import Derived.Maps.OwnSet
import Derived.Maps.RangeWalk
import Derived.Maps.Ext
import Derived.Maps.AppendAt
import Derived.BigQuiet
import Derived.Sort.OwnSorted
namespace Go.Proofs.YtdeeegocjgikoaaDoor
open Go.RowKit
set_option linter.unusedVariables false

theorem mk_set (n : Nat) (w : World) : (Instr.makeMap 56 (some (.int .i64 (n : Int)))).run Tryd.prog w = .ok (.map (some w.heap.size)) (w.alloc (.map #[] 0)) := by
  simp [Instr.makeMap, run_underlying Tryd.underlying56, asInt]
  rfl
theorem lit_ne {x y : List UInt8} (h : ¬ x = y) : (Lit.string x) ≠ .string y := fun e => h (by injection e)
/-- A row of texts by its cells: nothing, or a block. -/
def TRow (w : World) (a : Option Addr) (l : List (List UInt8)) : Prop := ∀ i (hi : i < l.length), ∃ g, a = some ⟨g, 0, none⟩ ∧ w.cell? ⟨g, i, none⟩ = some (.string (S l[i]))
theorem ownS_trow {w : World} {B : Nat} {v : Value} {l : List (List UInt8)} (h : OwnS w B v l) : ∃ a c, v = .slice a l.length c ∧ TRow w a l := by
  rcases ownS_form h with ⟨rfl, rfl⟩ | ⟨g, cap, rfl⟩
  · exact ⟨none, 0, rfl, fun i hi => by simp at hi⟩
  · exact ⟨_, _, rfl, fun i hi => ⟨g, rfl, ownS_cell h i hi⟩⟩
theorem TRow.below {w w' : World} {a : Option Addr} {l : List (List UInt8)} (h : TRow w a l) (hb : Below w.heap.size w w') : TRow w' a l := fun i hi => by
  obtain ⟨g, e, h1⟩ := h i hi
  refine ⟨g, e, ?_⟩
  rw [hb.cell (World.block_lt_of_cell? w _ h1)]
  exact h1

/-- A map that holds just the texts of a list, none twice. -/
def SetIs (D : DataW Unit) (L : List (List UInt8)) : Prop := (∀ x, Maps.has D (.string x) = decide (x ∈ L)) ∧ L.Nodup ∧ Maps.size D = L.length
theorem SetIs.zero : SetIs (.map []) [] := ⟨fun x => rfl, List.nodup_nil, rfl⟩
theorem SetIs.put {D : DataW Unit} {L : List (List UInt8)} (h : SetIs D L) (hm : Maps.IsMap D) (ht : Maps.Tidy D) (x : List UInt8) : ∃ L', SetIs (D.put (.string x) (.agg [])) L' ∧ ∀ y, y ∈ L' ↔ y ∈ L ∨ y = x := by
  have hx := h.1 x
  by_cases e : x ∈ L
  · refine ⟨L, ⟨fun y => ?_, h.2.1, ?_⟩, fun y => ⟨Or.inl, fun q => by rcases q with q | rfl <;> assumption⟩⟩
    · by_cases ey : y = x
      · subst ey; rw [Maps.has_put_same hm (show WideAt.IsKeyLit (Lit.string _) from trivial)]; simp [e]
      · rw [Maps.has_put_other (lit_ne ey), h.1 y]
    · rw [Maps.size_put ht, hx, if_pos (by simp [e])]; exact h.2.2
  · refine ⟨L ++ [x], ⟨fun y => ?_, ?_, ?_⟩, fun y => by simp⟩
    · by_cases ey : y = x
      · subst ey; rw [Maps.has_put_same hm (show WideAt.IsKeyLit (Lit.string _) from trivial)]; simp
      · rw [Maps.has_put_other (lit_ne ey), h.1 y]; simp [ey]
    · rw [List.nodup_append]
      refine ⟨h.2.1, by simp, ?_⟩
      intro a ha b hb
      simp at hb
      subst hb
      intro q
      subst q
      exact e ha
    · rw [Maps.size_put ht, hx, if_neg (by simp [e]), h.2.2]; simp
theorem SetIs.del {D : DataW Unit} {L : List (List UInt8)} (h : SetIs D L) (ht : Maps.Tidy D) (x : List UInt8) : SetIs (D.del (.string x)) (L.erase x) := by
  have hx := h.1 x
  have hs := Maps.size_del (k := .string x) ht
  refine ⟨fun y => ?_, h.2.1.erase x, ?_⟩
  · by_cases ey : y = x
    · subst ey; rw [Maps.has_del_same]; simp [h.2.1.mem_erase_iff]
    · rw [Maps.has_del_other (lit_ne ey), h.1 y]; simp [h.2.1.mem_erase_iff, ey]
  · rw [hx, h.2.2] at hs
    by_cases e : x ∈ L
    · rw [if_pos (by simp [e])] at hs
      rw [List.length_erase_of_mem e]
      omega
    · rw [if_neg (by simp [e])] at hs
      rw [List.erase_of_not_mem e]
      omega

/-- What gather leaves behind. -/
def GatherIs (w w' : World) (l : List (List UInt8)) : Prop := ∃ D L, w'.ownsMap Tryd.prog 9 (unitElem (H := Unit)) w.heap.size l.length D ∧ SetIs D L ∧ (∀ x, x ∈ L ↔ x ∈ l) ∧ Below w.heap.size w w' ∧ w.heap.size < w'.heap.size
set_option maxRecDepth 100000 in
set_option maxHeartbeats 1000000 in
theorem gather_any (a : Option Addr) (l : List (List UInt8)) (c : Nat) (w : World) (hv : TRow w a l) (hl : l.length ≤ 4194304) (hz : ∀ x ∈ l, x.length ≤ 4194304) :
    Calls Tryd.prog 59 #[.slice a l.length c] w fun e w' => e = .returned (.map (some w.heap.size)) ∧ GatherIs w w' l := by
  have hmm := mk_set l.length
  have hv' : Hid (TRow w a l) := hv
  have hz' : Hid (∀ x ∈ l, x.length ≤ 4194304) := hz
  clear hv hz
  go_enter Tryd.func59, Tryd.ntmps59
  go_wp2_with fail
  clear hmm
  go_loopw [11] (fun iv wr => ∃ (k : Nat) (D : DataW Unit) (L : List (List UInt8)), k ≤ l.length ∧ iv = .int .i64 (k : Int) ∧ Hid (wr.ownsMap Tryd.prog 9 (unitElem (H := Unit)) w.heap.size k D) ∧ Hid (SetIs D L ∧ ∀ x, x ∈ L ↔ x ∈ l.take k) ∧ Hid (Below w.heap.size w wr ∧ w.heap.size < wr.heap.size)) (fun iv _ => l.length - (intOf iv).toNat)
  case atStart =>
    exact ⟨0, .map [], [], Nat.zero_le _, rfl, World.ownsMap_made _ _ _ _, ⟨SetIs.zero, fun x => by simp⟩, (Below.refl _ _).alloc (Nat.le_refl _) _, by simp⟩
  case round =>
    obtain ⟨k, D, L, hk, rfl, hM, hD, hB⟩ := hrel
    by_cases hlt : k < l.length
    · obtain ⟨g, rfl, hc⟩ := (hv'.out.below hB.out.1) k hlt
      have k0 : (0 : Int) ≤ (k : Int) := Int.natCast_nonneg _
      have k1 : (k : Int) < (l.length : Int) := Int.ofNat_lt.2 hlt
      have hkey : Hid (keyOf Tryd.prog 9 (.string (S l[k])) = some (.string l[k])) := by
        have h := key_str (S l[k]) (by rw [S_size]; have := hz'.out _ (List.getElem_mem hlt); unfold maxLen; omega)
        rw [S_l] at h
        exact h
      obtain ⟨L', hL1, hL2⟩ := hD.out.1.put hM.out.isMap (hM.out.tidy (Maps.string_keyed Tryd.underlying9)) l[k]
      have hD' : Hid (SetIs (D.put (.string l[k]) (.agg [])) L' ∧ ∀ x, x ∈ L' ↔ x ∈ l.take (k + 1)) := by
        refine ⟨hL1, fun x => ?_⟩
        rw [hL2, hD.out.2, List.take_succ_eq_append_getElem hlt, List.mem_append, List.mem_singleton]
      have hkm : k < maxLen := by unfold maxLen; omega
      clear hD hL1 hL2
      generalize S l[k] = X at *
      go_wp2_with (at_mapUpdate; refine wpList_mapUpdate_own _ rfl _ _ _ 56 rfl 9 57 (Maps.string_keyed Tryd.underlying9) Tryd.underlying56 (unitElem (H := Unit)) w.heap.size k D rfl hM.out hkm _ _ _ rfl rfl hkey.out _ [] unitElem_mk ?_; intro w1 hown1 hgrow1)
      go_roundw
      case rel =>
        refine ⟨k + 1, _, L', hlt, by simp, hown1, hD', ?_⟩
        exact ⟨hB.out.1.grown hgrow1 hB.out.1.size (fun j hj => by cases hj; exact Nat.le_refl _), Nat.lt_of_lt_of_le hB.out.2 hgrow1.size⟩
      case measure => simp [intOf]; omega
    · have hke : k = l.length := by omega
      have k1 : ¬ (k : Int) < (l.length : Int) := by omega
      have hfin : Hid (wr.ownsMap Tryd.prog 9 (unitElem (H := Unit)) w.heap.size l.length D ∧ SetIs D L ∧ (∀ x, x ∈ L ↔ x ∈ l)) := by
        rw [hke] at hM hD
        refine ⟨hM.out, hD.out.1, fun x => ?_⟩
        rw [hD.out.2 x, List.take_length]
      clear hM hD hke
      go_wp2_with fail
      go_ret
      exact ⟨rfl, D, L, hfin.out.1, hfin.out.2.1, hfin.out.2.2, hB.out⟩

/-- Whether each asked text is there. -/
def holds (there asked : List (List UInt8)) : Bool := asked.all fun x => decide (x ∈ there)
set_option maxRecDepth 100000 in
set_option maxHeartbeats 1000000 in
theorem holdsAll_any (a b : Option Addr) (l m : List (List UInt8)) (c d : Nat) (w : World) (hl : TRow w a l) (hm : TRow w b m) (hln : l.length ≤ 4194304) (hmn : m.length ≤ 4194304) (hlz : ∀ x ∈ l, x.length ≤ 4194304) (hmz : ∀ x ∈ m, x.length ≤ 4194304) :
    Calls Tryd.prog 45 #[.slice a l.length c, .slice b m.length d] w fun e w' => e = .returned (.bool (holds l m)) ∧ Below w.heap.size w w' := by
  have hg := gather_any b m d w hm hmn hmz
  have hl' : Hid (TRow w a l) := hl
  have hz' : Hid (∀ x ∈ l, x.length ≤ 4194304) := hlz
  clear hl hm hlz hmz
  go_enter Tryd.func45, Tryd.ntmps45
  go_wp2_with (go_at_call 59; refine hg.mono ?_; rintro e w1 ⟨rfl, D, L, hM, hS, hL, hB, hsz⟩)
  have hM0 : Hid (w1.ownsMap Tryd.prog 9 (unitElem (H := Unit)) w.heap.size m.length D ∧ SetIs D L ∧ ∀ x, x ∈ L ↔ x ∈ m) := ⟨hM, hS, hL⟩
  have hB0 : Hid (Below w.heap.size w w1) := hB
  clear hM hS hL hB hsz hg
  go_loopw [12] (fun iv wr => ∃ (k : Nat) (D : DataW Unit) (L : List (List UInt8)), k ≤ l.length ∧ iv = .int .i64 (k : Int) ∧ Hid (wr.ownsMap Tryd.prog 9 (unitElem (H := Unit)) w.heap.size m.length D) ∧ Hid (SetIs D L ∧ ∀ x, x ∈ L ↔ x ∈ m ∧ x ∉ l.take k) ∧ Hid (Below w.heap.size w wr)) (fun iv _ => l.length - (intOf iv).toNat)
  case atStart =>
    exact ⟨0, D, L, Nat.zero_le _, rfl, hM0.out.1, ⟨hM0.out.2.1, fun x => by rw [hM0.out.2.2]; simp⟩, hB0.out⟩
  case round =>
    clear hM0 hB0
    obtain ⟨k, D, L, hk, rfl, hM, hD, hB⟩ := hrel
    by_cases hlt : k < l.length
    · obtain ⟨g, rfl, hc⟩ := (hl'.out.below hB.out) k hlt
      have k0 : (0 : Int) ≤ (k : Int) := Int.natCast_nonneg _
      have k1 : (k : Int) < (l.length : Int) := Int.ofNat_lt.2 hlt
      have hkey : Hid (keyOf Tryd.prog 9 (.string (S l[k])) = some (.string l[k])) := by
        have h := key_str (S l[k]) (by rw [S_size]; have := hz'.out _ (List.getElem_mem hlt); unfold maxLen; omega)
        rw [S_l] at h
        exact h
      have hS' := hD.out.1.del (hM.out.tidy (Maps.string_keyed Tryd.underlying9)) l[k]
      have hD' : Hid (SetIs (D.del (.string l[k])) (L.erase l[k]) ∧ ∀ x, x ∈ L.erase l[k] ↔ x ∈ m ∧ x ∉ l.take (k + 1)) := by
        refine ⟨hS', fun x => ?_⟩
        rw [hD.out.1.2.1.mem_erase_iff, hD.out.2, List.take_succ_eq_append_getElem hlt, List.mem_append, List.mem_singleton]
        constructor
        · rintro ⟨h1, h2, h3⟩
          refine ⟨h2, fun q => ?_⟩
          rcases q with q | q
          · exact h3 q
          · exact h1 q
        · rintro ⟨h1, h2⟩
          exact ⟨fun q => h2 (Or.inr q), h1, fun q => h2 (Or.inl q)⟩
      clear hD hS'
      generalize S l[k] = X at *
      go_wp2_with (at_delete; refine wpList_delete_own _ rfl _ _ 56 9 rfl 57 (Maps.string_keyed Tryd.underlying9) Tryd.underlying56 (unitElem (H := Unit)) w.heap.size m.length D rfl hM.out _ _ rfl hkey.out ?_; intro w1 hown1 hturn1)
      go_roundw
      case rel =>
        refine ⟨k + 1, _, _, hlt, by simp, hown1, hD', ?_⟩
        exact hB.out.grown hturn1.grown hB.out.size (fun j hj => by cases hj; exact Nat.le_refl _)
      case measure => simp [intOf]; omega
    · have hke : k = l.length := by omega
      have k1 : ¬ (k : Int) < (l.length : Int) := by omega
      have hsize : Hid (Maps.size D = L.length) := hD.out.1.2.2
      have hres : Hid (((L.length : Int) == 0) = holds l m) := by
        have hmem := hD.out.2
        rw [hke, List.take_length] at hmem
        unfold Hid
        rw [Bool.eq_iff_iff]
        unfold holds
        rw [List.all_eq_true, beq_iff_eq]
        constructor
        · intro h0 x hx
          have hnil : L = [] := List.eq_nil_of_length_eq_zero (by omega)
          rw [hnil] at hmem
          have := hmem x
          simp at this
          simp [this hx]
        · intro hall
          have hnil : L = [] := by
            rw [List.eq_nil_iff_forall_not_mem]
            intro x hx
            have h1 := (hmem x).1 hx
            have h2 := hall x h1.1
            simp at h2
            exact h1.2 h2
          rw [hnil]; rfl
      clear hD hke
      go_wp2_with (at_len; refine wpList_len_own _ rfl _ 56 rfl 9 57 Tryd.underlying56 (unitElem (H := Unit)) w.heap.size m.length D rfl hM.out ?_)
      go_ret
      exact ⟨by rw [← hres.out, ← hsize.out]; rfl, hB.out⟩
end Go.Proofs.YtdeeegocjgikoaaDoor

namespace Go.Proofs.YtdeeegocjgikoaaDoor
open Go.RowKit
set_option linter.unusedVariables false

theorem toListS (x : List UInt8) : (S x).toList = x := by rw [Lib.toList_data, S_l]
theorem strNe {x y : List UInt8} (h : ¬ x = y) : ((S x).toList == (S y).toList) = false := by
  rw [toListS, toListS]
  simp [h]
/-- A row of texts, wherever it lies. -/
def Row (w : World) (a : Option Addr) (l : List (List UInt8)) : Prop := ∀ i (hi : i < l.length), ∃ b off, a = some ⟨b, off, none⟩ ∧ w.cell? ⟨b, off + i, none⟩ = some (.string (S l[i]))
theorem TRow.row {w : World} {a : Option Addr} {l : List (List UInt8)} (h : TRow w a l) : Row w a l := fun i hi => by
  obtain ⟨g, e, h1⟩ := h i hi
  exact ⟨g, 0, e, by rw [Nat.zero_add]; exact h1⟩
theorem TRow.drop {w : World} {g : Nat} {l : List (List UInt8)} (h : TRow w (some ⟨g, 0, none⟩) l) (k : Nat) : Row w (some ⟨g, k, none⟩) (l.drop k) := fun i hi => by
  rw [List.length_drop] at hi
  obtain ⟨g', e, h1⟩ := h (k + i) (by omega)
  injection e with e
  injection e with e1
  subst e1
  refine ⟨g, k, rfl, ?_⟩
  rw [h1]
  simp
theorem Row.below {w w' : World} {a : Option Addr} {l : List (List UInt8)} (h : Row w a l) (hb : Below w.heap.size w w') : Row w' a l := fun i hi => by
  obtain ⟨b, off, e, h1⟩ := h i hi
  refine ⟨b, off, e, ?_⟩
  rw [hb.cell (World.block_lt_of_cell? w _ h1)]
  exact h1
theorem takeStep {l k : List (List UInt8)} {i : Nat} (h : l.take i = k.take i) (h1 : i < l.length) (h2 : i < k.length) (e : l[i] = k[i]) : l.take (i + 1) = k.take (i + 1) := by
  rw [List.take_succ_eq_append_getElem h1, List.take_succ_eq_append_getElem h2, h, e]

end Go.Proofs.YtdeeegocjgikoaaDoor

namespace Go.Proofs.YtdeeegocjgikoaaDoor
open Go.RowKit Go.Shelf Go.Sort
set_option linter.unusedVariables false

/-- Texts, the small ones ahead. -/
def srt (l : List (List UInt8)) : List (List UInt8) := l.mergeSort fun x y => decide (x ≤ y)
theorem srt_len (l : List (List UInt8)) : (srt l).length = l.length := by simp [srt]
theorem sv_enc (l : List (List UInt8)) : sv l = l.map encStr := rfl
theorem ownS_base {w : World} {B C : Nat} {v : Value} {l : List (List UInt8)} (h : OwnS w B v l) (hc : C ≤ B) : OwnS w C v l := by
  rcases h with ⟨h1, ⟨rfl, h2⟩ | ⟨g, cap, cur, rfl, h3, h4⟩⟩
  · exact ⟨h1, Or.inl ⟨rfl, h2⟩⟩
  · exact ⟨h1, Or.inr ⟨g, cap, cur, rfl, Nat.le_trans hc h3, h4⟩⟩
theorem sort_own (w : World) (B : Nat) (v : Value) (L : List (List UInt8)) (h : OwnS w B v L) (hl : L.length ≤ 4194304) :
    Calls Tryd.prog 60 #[v] w fun e w' => e = .returned (.tuple #[]) ∧ OwnS w' B v (srt L) ∧ w.grownBy w' v.ownBlock := by
  rcases h.2 with ⟨rfl, hn⟩ | ⟨g, cap, cur, rfl, hbase, hb, h1, h2, h3, h4⟩
  · have e : L = [] := List.eq_nil_of_length_eq_zero hn
    subst e
    refine (Tryd.slices_Sort_string_none none 0 w).mono ?_
    rintro e w' ⟨rfl, rfl⟩
    refine ⟨rfl, ?_, ⟨rfl, rfl, rfl, Nat.le_refl _, fun _ _ _ => rfl⟩⟩
    have e : srt [] = [] := by simp [srt]
    rw [e]
    exact ownS_nil _ _
  · refine (Tryd.slices_Sort_string g 0 cap L w (holds_of_block hb (by rw [Nat.mul_one] at h4; rw [h4, sv_enc])) (Array.getElem?_eq_some_iff.1 hb).1 (by omega)).mono ?_
    rintro e w' ⟨rfl, n, os, rfl⟩
    refine ⟨rfl, ?_, grownBy_sorted _⟩
    have h := ownsRow_sorted (ts := srt L) (ss := L) (os := os) (n := n) (srt_len L) hbase hb h1 h2 h3
    unfold OwnS
    rw [srt_len, sv_enc]
    exact h
theorem key_inv {v : Value} {kl : Lit} (h : keyOf Tryd.prog 9 v = some kl) : ∃ m : List UInt8, v = .string (S m) := by
  cases v <;> simp [keyOf, mapKey, Tryd.underlying9] at h
  rename_i s
  exact ⟨s.data.toList, rfl⟩
theorem key_lit {m : List UInt8} {kl : Lit} (h : keyOf Tryd.prog 9 (.string (S m)) = some kl) : kl = .string m := by
  simp [keyOf, mapKey, Tryd.underlying9] at h
  rw [← h.2]
  rfl

set_option maxRecDepth 100000 in
set_option maxHeartbeats 1000000 in
theorem distinct_any (a : Option Addr) (l : List (List UInt8)) (c : Nat) (w : World) (hv : TRow w a l) (hl : l.length ≤ 4194304) (hz : ∀ x ∈ l, x.length ≤ 4194304) :
    Calls Tryd.prog 41 #[.slice a l.length c] w fun e w' => ∃ v L, e = .returned v ∧ OwnS w' w.heap.size v (srt L) ∧ L.Nodup ∧ (∀ x, x ∈ L ↔ x ∈ l) ∧ Below w.heap.size w w' := by
  have hg := gather_any a l c w hv hl hz
  clear hv hz
  go_enter Tryd.func41, Tryd.ntmps41
  go_wp2_with (first
    | (go_at_call 59; refine hg.mono ?_; rintro e w1 ⟨rfl, D, L0, hM, hS, hL, hB, hsz⟩)
    | (at_range; refine wpList_range_own _ rfl _ 56 rfl 9 57 (Maps.string_keyed Tryd.underlying9) Tryd.underlying56 _ w.heap.size l.length _ rfl hM ?_; intro w0 hrg0 hg0 hs0))
  go_frame
  have hD : Hid (SetIs D L0 ∧ ∀ x, x ∈ L0 ↔ x ∈ l) := ⟨hS, hL⟩
  have hsl : Maps.size D ≤ l.length := hM.size_le
  clear hg hS hL
  go_loopw [3] (fun v wr => ∃ (left : Lit → Bool) (cnt : Nat) (L : List (List UInt8)), Hid (wr.ranges Tryd.prog 9 (unitElem (H := Unit)) w.heap.size w1.heap.size l.length D left cnt) ∧
      Hid (OwnS wr (w.heap.size + 1) v L ∧ L.length + cnt ≤ l.length ∧ L.Nodup ∧ (∀ kl, left kl = true → Maps.has D kl = true) ∧ ∀ x, x ∈ L ↔ Maps.has D (.string x) = true ∧ left (.string x) = false) ∧ Hid (Below w.heap.size w wr ∧ w1.heap.size < wr.heap.size)) (fun _ wr => wr.rangeLeft w.heap.size w1.heap.size)
  case atStart =>
    refine ⟨_, _, [], hrg0, ⟨ownS_nil _ _, by simpa using hsl, List.nodup_nil, fun _ h => h, fun x => by simp⟩, ?_, by omega⟩
    exact hB.grown hg0 hB.size (fun j hj => by cases hj)
  case round =>
    clear hrg0 hg0 hs0
    obtain ⟨left, cnt, L, hrg, hR, hW⟩ := hrel
    have hsz' : Hid (w.heap.size < w1.heap.size) := hsz
    clear hB hM
    go_wp2_with (at_next; refine wpList_next_ranges _ rfl _ rfl 9 (Maps.string_keyed Tryd.underlying9) _ (fun m : List UInt8 => Value.string (S m)) (fun _ : Unit => Value.agg #[]) (fun _ _ hk => key_inv hk) (fun _ _ hv => ⟨(), (unitElem_inv hv).1⟩) w.heap.size w1.heap.size l.length _ _ _ rfl hrg.out ?_ ?_)
    · intro hc0 hl0
      have hsort := sort_own wr (w.heap.size + 1) _ L hR.out.1 (by have := hR.out.2.1; omega)
      have hl0' : Hid (∀ kl, left kl = false) := hl0
      clear hl0
      go_wp2_with (go_at_call 60; refine hsort.mono ?_; rintro e w5 ⟨rfl, hO5, hg5⟩)
      go_ret
      refine ⟨_, L, rfl, ownS_base hO5 (Nat.le_succ _), hR.out.2.2.1, fun x => ?_, ?_⟩
      · rw [hR.out.2.2.2.2 x, hD.out.1.1 x, ← hD.out.2 x]
        simp [hl0'.out]
      · exact hW.out.1.grown hg5 hW.out.1.size (fun j hj => Nat.le_of_succ_le (ownS_lt hR.out.1 hj).1)
    · intro m u kl y w2 cnt2 hkey hlk hv hat hrg1 hlt hg1 hs1 hen
      have hkl := key_lit hkey
      subst hkl
      have hrg1' : Hid (w2.ranges Tryd.prog 9 (unitElem (H := Unit)) w.heap.size w1.heap.size l.length D (fun z => left z && !z.sameKey (.string m)) cnt2) := hrg1
      have hg1' : Hid (wr.grownBy w2 (some w1.heap.size)) := hg1
      have hs1' : Hid (w2.heap.size = wr.heap.size) := hs1
      have hlk' : Hid (left (.string m) = true) := hlk
      have hlt' : Hid (cnt2 < cnt) := hlt
      have hOw : Hid (OwnS w2 (w.heap.size + 1) _ L) := ownS_of hR.out.1 (fun g hgg => hg1.block g (ownS_lt hR.out.1 hgg).2 (fun e => row_ne_iter hR.out.1 hrg.out (by rw [hgg, ← e])))
      have hLl : Hid (L.length ≤ 4194304) := by have := hR.out.2.1; show _ ≤ _; omega
      clear hrg1 hg1 hs1 hlk hlt hv hat hkey
      go_wp2_with (at_builtin; refine push_text _ rfl _ _ rfl (w.heap.size + 1) _ L m _ rfl rfl ?_ ?_ ?_ hLl.out ?_; (exact World.ownsRow.alloc hOw.out _); (exact heap_alloc_new _ _); (have := hs1'.out; have := hsz'.out; have := hW.out.2; simp; omega); intro g6 cap6 w6 hown6 hgr6 hlie6 hb6)
      have hrg2 := (hrg1'.out.kept (World.grownBy_alloc _ _ none) (by simp) (by simp)).kept hgr6 (row_ne_low hOw.out (Nat.lt_succ_self _)) (row_ne_iter hOw.out hrg1'.out)
      go_roundw
      case rel =>
        refine ⟨_, cnt2, L ++ [m], hrg2, ⟨?_, ?_, ?_, ?_, ?_⟩, ?_, ?_⟩
        · exact hown6
        · have := hR.out.2.1; have := hlt'.out; simp; omega
        · rw [List.nodup_append]
          refine ⟨hR.out.2.2.1, by simp, ?_⟩
          intro x hx z hz e
          rw [List.mem_singleton] at hz
          subst hz
          subst e
          have h1 := ((hR.out.2.2.2.2 x).1 hx).2
          rw [hlk'.out] at h1
          cases h1
        · intro kl h
          rw [Bool.and_eq_true] at h
          exact hR.out.2.2.2.1 kl h.1
        · intro x
          rw [List.mem_append, List.mem_singleton, hR.out.2.2.2.2 x]
          have hm := hR.out.2.2.2.1 _ hlk'.out
          by_cases e : x = m
          · subst e
            simp [hm, Lit.sameKey]
          · simp [e, Lit.sameKey]
        · exact ((hW.out.1.grown hg1'.out hW.out.1.size (fun j hj => by cases hj; exact Nat.le_of_lt hsz'.out)).alloc (by have := hW.out.1.size; have := hs1'.out; omega) _).grown hgr6 (by have := hW.out.1.size; have := hs1'.out; simp; omega) (fun j hj => Nat.le_of_succ_le (ownS_lt hOw.out hj).1)
        · have := hgr6.size; have := hs1'.out; have := hW.out.2; simp at *; omega
      case measure => rw [hrg2.left_eq, hrg.out.left_eq]; exact hlt'.out
end Go.Proofs.YtdeeegocjgikoaaDoor
