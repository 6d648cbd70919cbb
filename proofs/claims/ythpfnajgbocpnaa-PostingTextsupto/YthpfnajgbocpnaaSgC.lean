import Derived.Test.YthpfnajgbocpnaaSgM
import Derived.Test.YthpfnajgbocpnaaDnRow
import Derived.Test.YthpfnajgbocpnaaAtShelf
import Derived.Sort.OwnSorted
import Derived.Lib.AppendZeros
namespace Go.Proofs.Ythpfnajgbocpnaa
open Go.RowKit Go.Sort Go.Lib
open SgMath (Inc setOf srt less_iff ltT ltI gm Lst Chs above)
set_option linter.unusedVariables false
set_option maxRecDepth 100000

theorem below_drewN (B : Nat) (w : World) (q : Nat) : Below B w (w.drewN q) := ⟨rfl, rfl, rfl, Nat.le_refl _, fun _ _ => rfl⟩
theorem sv_enc (l : List (List UInt8)) : sv l = l.map encStr := rfl
theorem ownS_base {w : World} {B C : Nat} {v : Value} {l : List (List UInt8)} (h : OwnS w B v l) (hc : C ≤ B) : OwnS w C v l := by
  rcases h with ⟨h1, ⟨rfl, h2⟩ | ⟨g, cap, cur, rfl, h3, h4⟩⟩
  · exact ⟨h1, Or.inl ⟨rfl, h2⟩⟩
  · exact ⟨h1, Or.inr ⟨g, cap, cur, rfl, Nat.le_trans hc h3, h4⟩⟩
theorem ownS_slice {w : World} {B : Nat} {v : Value} {l : List (List UInt8)} (h : OwnS w B v l) : ∃ a c, v = .slice a l.length c := by
  rcases ownS_form h with ⟨rfl, rfl⟩ | ⟨g, cap, rfl, _⟩
  · exact ⟨_, _, rfl⟩
  · exact ⟨_, _, rfl⟩
theorem ownS_lt {w : World} {B g : Nat} {v : Value} {l : List (List UInt8)} (h : OwnS w B v l) (hg : v.ownBlock = some g) : B ≤ g ∧ g < w.heap.size := World.ownsRow.lt (show w.ownsRow B 9 1 v l.length (sv l) from h) g hg
theorem holdsS {w : World} {B g cap : Nat} {l : List (List UInt8)} (h : OwnS w B (.slice (some ⟨g, 0, none⟩) l.length cap) l) : Holds encStr w g 0 l.toArray := by
  intro j hj
  have hj' : j < l.length := by simpa using hj
  rw [Nat.zero_add, ownS_cell h j hj']
  refine ⟨by rw [SgMath.get_bang l j hj']; rfl, ?_⟩
  rcases h.2 with ⟨e, _⟩ | ⟨g', cap', cur, e, _, hb, _⟩
  · cases e
  · cases e
    simp [World.frozen?, hb]
theorem putS_heap {w : World} {g n : Nat} {os : Array Obj} {cur : Array Value} {e : TypeId} {fr : Nat × Nat} (d : Array (List UInt8)) (hb : w.heap[g]? = some (.cells cur e fr)) :
    (grow (putRow encStr (Sort.ahead w n) g 0 d) os).heap[g]? = some (.cells (putCells encStr 0 d cur) e fr) := by
  have hg : g < w.heap.size := (Array.getElem?_eq_some_iff.1 hb).1
  rw [heap_grow_old _ _ (by simpa using hg)]
  simp [putRow, mapBlock, Sort.ahead, Array.getElem?_modify, hb, onCells]
theorem putS_grown {w : World} {g n : Nat} {os : Array Obj} (d : Array (List UInt8)) : w.grownBy (grow (putRow encStr (Sort.ahead w n) g 0 d) os) (some g) := by
  refine ⟨rfl, rfl, rfl, by simp, fun k hk hne => ?_⟩
  rw [heap_grow_old _ _ (by simpa using hk)]
  have : g ≠ k := fun e => hne (by rw [e])
  simp [putRow, mapBlock, Sort.ahead, Array.getElem?_modify, this]
theorem putS_own {w : World} {B g cap n : Nat} {os : Array Obj} {l t z : List (List UInt8)} (h : OwnS w B (.slice (some ⟨g, 0, none⟩) l.length cap) l) (hl : (t ++ z).length ≤ l.length) :
    OwnS (grow (putRow encStr (Sort.ahead w n) g 0 (t ++ z).toArray) os) B (.slice (some ⟨g, 0, none⟩) t.length cap) t := by
  rcases h.2 with ⟨e, _⟩ | ⟨g', cap', cur, e, h3, hb, h5, h6, h7, h8⟩
  · cases e
  · cases e
    rw [List.length_append] at hl
    refine ⟨by simp [sv], Or.inr ⟨g, cap, _, rfl, h3, putS_heap _ hb, by omega, h6, by simp [putCells, h7], ?_⟩⟩
    rw [Nat.mul_one]
    apply List.ext_getElem?
    intro j
    by_cases hj : j < t.length
    · rw [List.getElem?_take_of_lt hj, Array.getElem?_toList]
      simp [putCells, sv, encStr, hj, show j < cur.size by omega, show j < t.length + z.length by omega]
      rfl
    · rw [List.getElem?_take_eq_none (by omega), List.getElem?_eq_none (by simp [sv]; omega)]
theorem grow_none (w : World) : grow w #[] = w := by simp [grow]
theorem clone_any (l : List (List UInt8)) (a : Option Addr) (c : Nat) (w : World) (hl : l.length ≤ 4194304) (h : Row w a l) :
    Calls Try.prog 17 #[.slice a l.length c] w fun e w' => ∃ v, e = .returned v ∧ OwnS w' w.heap.size v l ∧ Below w.heap.size w w' := by
  cases a with
  | none =>
    have h0 : l = [] := by
      rcases Nat.eq_zero_or_pos l.length with h1 | h1
      · exact List.eq_nil_of_length_eq_zero h1
      · obtain ⟨b, off, e, _⟩ := h 0 h1
        cases e
    subst h0
    refine (Try.slices_Clone_string_nil 0 c w).mono ?_
    rintro e w' ⟨rfl, rfl⟩
    exact ⟨_, rfl, ownS_nil _ _, Below.refl _ _⟩
  | some x =>
    rcases Nat.eq_zero_or_pos l.length with h1 | h1
    · have h0 := List.eq_nil_of_length_eq_zero h1
      subst h0
      refine (Try.slices_Clone_string_zero x c w).mono ?_
      rintro e w' ⟨v, rfl, ho, _, hb⟩
      exact ⟨v, rfl, ho, hb⟩
    · obtain ⟨b, off, e, _⟩ := h 0 h1
      injection e with e
      subst e
      refine (Try.slices_Clone_string b off l.length c (l.map S) w (by simp) (by omega) (fun j hj => ?_)).mono ?_
      · have hj' : j < l.length := by simpa using hj
        obtain ⟨b', off', e, hc⟩ := h j hj'
        injection e with e
        injection e with e1 e2
        subst e1 e2
        rw [hc]
        simp [List.getD, hj']
      · rintro e w' ⟨v, rfl, ho, _, hb⟩
        refine ⟨v, rfl, ?_, hb⟩
        have hm : (List.take l.length (l.map S)).map Value.string = sv l := by
          rw [List.take_of_length_le (by simp)]
          simp [sv]
        rw [hm] at ho
        exact ho
theorem sort_any (w : World) (B : Nat) (v : Value) (L : List (List UInt8)) (h : OwnS w B v L) (hl : L.length ≤ 4194304) :
    Calls Try.prog 18 #[v] w fun e w' => e = .returned (.tuple #[]) ∧ OwnS w' B v (srt L) ∧ w.grownBy w' v.ownBlock := by
  rcases ownS_form h with ⟨rfl, rfl⟩ | ⟨g, cap, rfl, hc, hg, hB⟩
  · refine (Try.slices_Sort_string_none none 0 w).mono ?_
    rintro e w' ⟨rfl, rfl⟩
    refine ⟨rfl, ?_, ⟨rfl, rfl, rfl, Nat.le_refl _, fun _ _ _ => rfl⟩⟩
    have e : srt [] = [] := by simp [srt]
    rw [e]
    exact ownS_nil _ _
  · refine (Try.slices_Sort_string g 0 cap L w (holdsS h) hg (by omega)).mono ?_
    rintro e w' ⟨rfl, n, os, rfl⟩
    refine ⟨rfl, ?_, putS_grown _⟩
    have := putS_own (n := n) (os := os) (t := srt L) (z := []) h (by simp [SgMath.srt_len])
    rw [List.append_nil, SgMath.srt_len] at this
    exact this
theorem compact_any (w : World) (B : Nat) (v : Value) (l : List (List UInt8)) (h : OwnS w B v l) (hl : l.length ≤ 4194304) :
    Calls Try.prog 19 #[v] w fun e w' => ∃ v', e = .returned v' ∧ OwnS w' B v' (Lib.compact l) ∧ w.grownBy w' v.ownBlock := by
  rcases ownS_form h with ⟨rfl, rfl⟩ | ⟨g, cap, rfl, hc, hg, hB⟩
  · refine (Try.slices_Compact_string_empty none 0 w).mono ?_
    rintro e w' ⟨rfl, rfl⟩
    refine ⟨_, rfl, ?_, ⟨rfl, rfl, rfl, Nat.le_refl _, fun _ _ _ => rfl⟩⟩
    have e : Lib.compact ([] : List (List UInt8)) = [] := rfl
    rw [e]
    exact ownS_nil _ _
  · refine (Try.slices_Compact_string g 0 cap l w (holdsS h) (by omega) hc).mono ?_
    rintro e w' ⟨rfl, q, rfl⟩
    have hcl := SgMath.compact_len l
    have := putS_own (n := q) (os := #[]) (t := Lib.compact l) (z := List.replicate (l.length - (Lib.compact l).length) []) h (by simp; omega)
    have g2 := putS_grown (w := w) (g := g) (n := q) (os := #[]) (Lib.compact l ++ List.replicate (l.length - (Lib.compact l).length) []).toArray
    rw [grow_none] at this g2
    exact ⟨_, rfl, this, g2⟩
theorem inc_take_succ {l : List (List UInt8)} {i : Nat} (h : Inc (l.take i)) (hi : i < l.length) (h1 : 1 ≤ i) (h2 : l[i - 1]'(by omega) < l[i]) : Inc (l.take (i + 1)) := by
  rw [SgMath.inc_step] at h ⊢
  intro j hj hj1
  rw [List.length_take] at hj
  simp only [List.getElem_take]
  by_cases e : j = i
  · subst e; exact h2
  · have := h j (by rw [List.length_take]; omega) hj1
    simpa only [List.getElem_take] using this
theorem inc_one (l : List (List UInt8)) : Inc (l.take 1) := by
  cases l with
  | nil => simp [Inc]
  | cons x l => simp [Inc]
theorem inc_not {l : List (List UInt8)} {i : Nat} (hi : i < l.length) (h1 : 1 ≤ i) (h2 : ¬ l[i - 1]'(by omega) < l[i]) : ¬ Inc l := fun h => h2 (SgMath.inc_step.1 h i hi h1)

/-- Does it rise? -/
def risB (l : List (List UInt8)) (b : Bool) : Prop := b = true ↔ Inc l
set_option maxHeartbeats 1000000 in
theorem rising_any (l : List (List UInt8)) (a : Option Addr) (c : Nat) (w : World) (hl : l.length ≤ 4194304) (h1 : Row w a l) :
    Calls Try.prog 7 #[.slice a l.length c] w fun e w' => (∃ b, e = .returned (.bool b) ∧ risB l b) ∧ ∃ q, w' = w.drewN q := by
  have hl' : Hid (l.length ≤ 4194304) := hl
  clear hl
  go_enter Try.func7, Try.ntmps7
  go_wp2_with fail
  go_loopw [3] (fun iv wr => ∃ i q : Nat, 1 ≤ i ∧ i ≤ l.length + 1 ∧ iv = .int .i64 (i : Int) ∧ Hid (Inc (l.take i)) ∧ Hid (wr = w.drewN q)) (fun iv _ => l.length + 1 - (intOf iv).toNat)
  case atStart => exact ⟨1, 0, Nat.le_refl _, by omega, rfl, by unfold Hid; exact inc_one l, rfl⟩
  case round =>
    obtain ⟨i, q, hi1, hi, rfl, htk, hw⟩ := hrel
    have hlb := hl'.out
    by_cases hlt : i < l.length
    · obtain ⟨b1, o1, rfl, c1⟩ := h1 i hlt
      obtain ⟨b2, o2, e2, c2⟩ := h1 (i - 1) (by omega)
      injection e2 with e2
      injection e2 with e2 e3
      subst e2 e3
      have hE : ∀ a, wr.cell? a = w.cell? a := fun a => by rw [hw.out]; rfl
      rw [← hE] at c1 c2
      have i0 : (1 : Int) ≤ (i : Int) := Int.ofNat_le.2 hi1
      have i1 : (i : Int) < (l.length : Int) := Int.ofNat_lt.2 hlt
      have e1 : ((i : Int) - 1).toNat = i - 1 := by omega
      have ib : (i : Int) ≤ 4194304 := by omega
      have hlt' : Hid (i < l.length) := hlt
      by_cases hx : l[i - 1]'(by omega) < l[i]
      · have htk' : Hid (Inc (l.take (i + 1))) := inc_take_succ htk.out hlt hi1 hx
        have hx' : Op.bytesLess (S (l[i - 1]'(by omega))).toList (S l[i]).toList = true := by rw [Lib.toList_data, Lib.toList_data, S_l, S_l]; exact (less_iff _ _).2 hx
        generalize S l[i] = X at *
        generalize S (l[i - 1]'(by omega)) = Y at *
        clear hE hx h1 hi hlb hlt
        go_wp2_with fail
        go_quiet (fail)
        go_wp2_with fail
        go_roundw
        case rel => exact ⟨i + 1, _, by omega, by have := hlt'.out; omega, by simp, htk', by unfold Hid; rw [hw.out, World.drewN_drewN]⟩
        case measure => have := hlt'.out; simp [intOf]; omega
      · have hni : Hid (¬ Inc l) := inc_not hlt hi1 hx
        have hx' : Op.bytesLess (S (l[i - 1]'(by omega))).toList (S l[i]).toList = false := by rw [Lib.toList_data, Lib.toList_data, S_l, S_l, Bool.eq_false_iff]; exact fun q => hx ((less_iff _ _).1 q)
        generalize S l[i] = X at *
        generalize S (l[i - 1]'(by omega)) = Y at *
        clear hE hx h1 hi hlb hlt
        go_wp2_with fail
        go_quiet (fail)
        go_wp2_with fail
        go_ret
        exact ⟨⟨false, rfl, ⟨fun h => (by cases h), fun h => absurd h hni.out⟩⟩, _, by rw [hw.out, World.drewN_drewN]⟩
    · have hI : Hid (Inc l) := by unfold Hid; have := htk.out; rw [List.take_of_length_le (by omega)] at this; exact this
      clear h1
      go_wp2_with fail
      go_ret
      exact ⟨⟨true, rfl, ⟨fun _ => hI.out, fun _ => rfl⟩⟩, _, hw.out⟩
set_option maxHeartbeats 1000000 in
theorem of_any (a : Option Addr) (l : List (List UInt8)) (c : Nat) (w : World) (hr : Row w a l) (hl : l.length ≤ 4194304) :
    Calls Try.prog 5 #[.slice a l.length c] w fun e w' => ∃ v, e = .returned v ∧ OwnS w' w.heap.size v (setOf l) ∧ Below w.heap.size w w' := by
  have hC := clone_any l a c w hl hr
  have hl' : Hid (l.length ≤ 4194304) := hl
  clear hr hl
  go_enter Try.func5, Try.ntmps5
  go_wp2_with fail
  refine hC.mono ?_
  rintro e w1 ⟨v1, rfl, hO1, hb1⟩
  obtain ⟨a1, c1, rfl⟩ := ownS_slice hO1
  have hr1 := (ownS_row hO1).1
  have hR := rising_any l a1 c1 w1 hl'.out hr1
  clear hC hr1
  go_wp2_with fail
  refine hR.mono ?_
  rintro e w2 ⟨⟨b, rfl, hb⟩, q, rfl⟩
  have hO2 : OwnS (w1.drewN q) w.heap.size (.slice a1 l.length c1) l := ownS_below hO1 (below_drewN _ _ _)
  have hB2 : Below w.heap.size w (w1.drewN q) := hb1.trans (below_drewN _ _ _)
  clear hR hO1 hb1
  cases b with
  | true =>
    have hI := hb.1 rfl
    go_wp2_with fail
    go_ret
    refine ⟨_, rfl, ?_, hB2⟩
    unfold setOf
    rw [if_pos hI]
    exact hO2
  | false =>
    have hI : ¬ Inc l := fun h => by have := hb.2 h; cases this
    have hS := sort_any (w1.drewN q) w.heap.size _ l hO2 hl'.out
    have hI' : Hid (¬ Inc l) := hI
    clear hb hI
    go_wp2_with fail
    refine hS.mono ?_
    rintro e w3 ⟨rfl, hO3, hg3⟩
    have hCp := compact_any w3 w.heap.size _ _ hO3 (by rw [SgMath.srt_len]; exact hl'.out)
    have hB3 : Below w.heap.size w w3 := hB2.grown hg3 hB2.size (fun j hj => (ownS_lt hO2 hj).1)
    clear hS
    go_wp2_with fail
    refine hCp.mono ?_
    rintro e w4 ⟨v4, rfl, hO4, hg4⟩
    go_wp2_with fail
    go_ret
    refine ⟨_, rfl, ?_, hB3.grown hg4 hB3.size (fun j hj => (ownS_lt hO3 hj).1)⟩
    unfold setOf
    rw [if_neg hI'.out]
    exact hO4
end Go.Proofs.Ythpfnajgbocpnaa
