import Derived.Test.YtdeeegocjgikoaaDoorEnWish2
namespace Go.Proofs.YtdeeegocjgikoaaDoor
open Go.RowKit
open TextMath (fold lo)
set_option linter.unusedVariables false

/-- What the wishes so far have said. -/
def WF (e : Bool) (k : List (List UInt8)) (u o : Bool) (L : List (List UInt8)) : Prop :=
  u = (e || k.any (fun t => decide (t = starT))) ∧ o = k.any (fun t => decide (t = plusT)) ∧ (∀ x, x ∈ L ↔ ∃ t ∈ k, plainT t ∧ cnR t x) ∧ (∀ t ∈ k, plainT t → (desc (S (fold t))).2.2 = true → ∃ x, cnR t x) ∧ ∀ x ∈ L, x.length ≤ 2097152
theorem any_snoc (k : List (List UInt8)) (t : List UInt8) (p : List UInt8 → Bool) : (k ++ [t]).any p = (k.any p || p t) := by simp
theorem ex_snoc {k : List (List UInt8)} {t : List UInt8} {P : List UInt8 → Prop} : (∃ s ∈ k ++ [t], P s) ↔ (∃ s ∈ k, P s) ∨ P t := by
  constructor
  · rintro ⟨s, hs, h⟩
    rcases List.mem_append.1 hs with hs | hs
    · exact Or.inl ⟨s, hs, h⟩
    · have : s = t := by simpa using hs
      subst this
      exact Or.inr h
  · rintro (⟨s, hs, h⟩ | h)
    · exact ⟨s, List.mem_append_left _ hs, h⟩
    · exact ⟨t, by simp, h⟩
theorem all_snoc {k : List (List UInt8)} {t : List UInt8} {P : List UInt8 → Prop} (h : ∀ s ∈ k, P s) (ht : P t) : ∀ s ∈ k ++ [t], P s := fun s hs => by
  rcases List.mem_append.1 hs with hs | hs
  · exact h s hs
  · have : s = t := by simpa using hs
    subst this
    exact ht
theorem WF.star {e : Bool} {k : List (List UInt8)} {u o : Bool} {L : List (List UInt8)} (h : WF e k u o L) : WF e (k ++ [starT]) true o L := by
  obtain ⟨h1, h2, h3, h4, h5⟩ := h
  refine ⟨by rw [any_snoc]; simp, by rw [any_snoc, ← h2]; simp [show ¬ starT = plusT by decide], fun x => ?_, all_snoc h4 (fun hp => absurd rfl hp.1), h5⟩
  rw [h3, ex_snoc]
  exact ⟨Or.inl, fun q => q.resolve_right (fun q => absurd rfl q.1.1)⟩
theorem WF.plus {e : Bool} {k : List (List UInt8)} {u o : Bool} {L : List (List UInt8)} (h : WF e k u o L) : WF e (k ++ [plusT]) u true L := by
  obtain ⟨h1, h2, h3, h4, h5⟩ := h
  refine ⟨by rw [any_snoc, h1]; simp [show ¬ plusT = starT by decide], by rw [any_snoc]; simp, fun x => ?_, all_snoc h4 (fun hp => absurd rfl hp.2.1), h5⟩
  rw [h3, ex_snoc]
  exact ⟨Or.inl, fun q => q.resolve_right (fun q => absurd rfl q.1.2.1)⟩
theorem WF.other {e : Bool} {k : List (List UInt8)} {u o : Bool} {L : List (List UInt8)} {t : List UInt8} (h : WF e k u o L) (n1 : t ≠ starT) (n2 : t ≠ plusT) (hb : ¬ plainT t ∨ (desc (S (fold t))).2.2 = false) : WF e (k ++ [t]) u o L := by
  obtain ⟨h1, h2, h3, h4, h5⟩ := h
  refine ⟨by rw [any_snoc, h1]; simp [n1], by rw [any_snoc, h2]; simp [n2], fun x => ?_, all_snoc h4 (fun hp hok => ?_), h5⟩
  · rw [h3, ex_snoc]
    refine ⟨Or.inl, fun q => q.resolve_right (fun q => ?_)⟩
    rcases hb with hb | hb
    · exact hb q.1
    · have := q.2.1
      rw [hb] at this
      cases this
  · rcases hb with hb | hb
    · exact absurd hp hb
    · rw [hb] at hok; cases hok
theorem WF.put {e : Bool} {k : List (List UInt8)} {u o : Bool} {L L' : List (List UInt8)} {t x : List UInt8} (h : WF e k u o L) (hp : plainT t) (hx : cnR t x) (ht : t.length ≤ 1048576) (hL : ∀ y, y ∈ L' ↔ y ∈ L ∨ y = x) : WF e (k ++ [t]) u o L' := by
  obtain ⟨h1, h2, h3, h4, h5⟩ := h
  refine ⟨by rw [any_snoc, h1]; simp [hp.1], by rw [any_snoc, h2]; simp [hp.2.1], fun y => ?_, all_snoc h4 (fun _ _ => ⟨x, hx⟩), fun y hy => ?_⟩
  · rw [hL, h3, ex_snoc]
    refine or_congr Iff.rfl ⟨fun q => by rw [q]; exact ⟨hp, hx⟩, fun q => ?_⟩
    exact (can_eq _ _ y x q.2.2 hx.2).2 ⟨rfl, fun z => Iff.rfl⟩
  · rcases (hL y).1 hy with hy | hy
    · exact h5 y hy
    · rw [hy]
      have := (cnR_all hx).1
      omega
theorem strNeW {x y : List UInt8} (h : ¬ x = y) : ((S x).toList == (S y).toList) = false := by
  rw [Lib.toList_data, Lib.toList_data, S_l, S_l]
  simp [h]
theorem WishSt.setU {w W : World} {u o : Bool} {n : Nat} {D : DataW Unit} (h : WishSt w u o n D W) (b : Bool) : WishSt w b o n D (W.setCell ⟨w.heap.size, 0, none⟩ (.bool b)) := by
  refine ⟨h.1.set 0 _, h.2.1.of (Below.heap_setCell _ _ _ _ (by show w.heap.size + 1 ≠ w.heap.size; omega)), h.2.2.1.of (Below.heap_setCell _ _ _ _ (by show w.heap.size + 3 ≠ w.heap.size; omega)), h.2.2.2.1.setCell (by show w.heap.size + 2 ≠ w.heap.size; omega) _, h.2.2.2.2.setCell (p := ⟨w.heap.size, 0, none⟩) (Nat.le_refl _) _⟩
theorem WishSt.setO {w W : World} {u o : Bool} {n : Nat} {D : DataW Unit} (h : WishSt w u o n D W) (b : Bool) : WishSt w u b n D (W.setCell ⟨w.heap.size + 1, 0, none⟩ (.bool b)) := by
  refine ⟨h.1.of (Below.heap_setCell _ _ _ _ (by show w.heap.size ≠ w.heap.size + 1; omega)), h.2.1.set 0 _, h.2.2.1.of (Below.heap_setCell _ _ _ _ (by show w.heap.size + 3 ≠ w.heap.size + 1; omega)), h.2.2.2.1.setCell (by show w.heap.size + 2 ≠ w.heap.size + 1; omega) _, h.2.2.2.2.setCell (p := ⟨w.heap.size + 1, 0, none⟩) (by show w.heap.size ≤ w.heap.size + 1; omega) _⟩

/-- What 'wish' leaves behind. -/
def WishOut (w w' : World) (l : List (List UInt8)) (ee : Bool) : Prop := ∃ u o n D L, WishSt w u o n D w' ∧ SetIs D L ∧ WF ee l u o L
theorem mk_set0 (w : World) : (Instr.makeMap 56 none).run Tryd.prog w = .ok (.map (some w.heap.size)) (w.alloc (.map #[] 0)) := by
  simp [Instr.makeMap]

set_option maxRecDepth 100000 in
set_option maxHeartbeats 4000000 in
theorem wish_any (l : List (List UInt8)) (a : Option Addr) (c : Nat) (w : World) (hl : l.length ≤ 4194304) (hz : ∀ t ∈ l, t.length ≤ 1048576) (h : Row w a l) :
    Calls Tryd.prog 23 #[.slice a l.length c] w fun e w' => e = .returned (.func (.func 34) #[] #[.pointer (some ⟨w.heap.size, 0, none⟩), .pointer (some ⟨w.heap.size + 1, 0, none⟩), .pointer (some ⟨w.heap.size + 3, 0, none⟩)]) ∧ WishOut w w' l (decide (l = [])) := by
  have h' : Hid (Row w a l ∧ ∀ t ∈ l, t.length ≤ 1048576) := ⟨h, hz⟩
  have hmm := mk_set0
  clear h hz
  obtain ⟨ee, hee⟩ : ∃ ee, decide (l = []) = ee := ⟨_, rfl⟩
  have hlen : ((l.length : Int) == 0) = ee := by
    rw [← hee]
    cases l <;> simp
    omega
  rw [hee]
  go_enter Tryd.func23, Tryd.ntmps23
  go_wp2_with fail
  clear hmm
  simp only [show w.heap.size + 1 + 1 = w.heap.size + 2 from rfl, show w.heap.size + 2 + 1 = w.heap.size + 3 from rfl]
  obtain ⟨Wa, hWa⟩ : ∃ W, w.alloc (.cells #[.bool ee] 4) = W := ⟨_, rfl⟩
  obtain ⟨Wb, hWb⟩ : ∃ W, Wa.alloc (.cells #[.bool false] 4) = W := ⟨_, rfl⟩
  obtain ⟨Wm, hWm⟩ : ∃ W, Wb.alloc (.map #[] 0) = W := ⟨_, rfl⟩
  obtain ⟨W0, hW0⟩ : ∃ W, Wm.alloc (.cells #[.map (some (w.heap.size + 2))] 56) = W := ⟨_, rfl⟩
  rw [hWa, hWb, hWm, hW0]
  have na : Wa.heap.size = w.heap.size + 1 := by rw [← hWa]; simp
  have nb : Wb.heap.size = w.heap.size + 2 := by rw [← hWb, World.size_alloc, na]
  have nm : Wm.heap.size = w.heap.size + 3 := by rw [← hWm, World.size_alloc, nb]
  have hI0 : Hid (WishSt w ee false 0 (.map []) W0) := by
    have b1 : Box Wa w.heap.size 4 #[.bool ee] := by rw [← hWa]; exact Box.new _ _ _
    have b2 : Box Wb (w.heap.size + 1) 4 #[.bool false] := by rw [← hWb, ← na]; exact Box.new _ _ _
    have hM : Wm.ownsMap Tryd.prog 9 (unitElem (H := Unit)) (w.heap.size + 2) 0 (.map []) := by rw [← hWm, ← nb]; exact World.ownsMap_made _ _ _ _
    have b1b : Box Wb w.heap.size 4 #[.bool ee] := by rw [← hWb]; exact b1.past _
    have b1m : Box Wm w.heap.size 4 #[.bool ee] := by rw [← hWm]; exact b1b.past _
    have b2m : Box Wm (w.heap.size + 1) 4 #[.bool false] := by rw [← hWm]; exact b2.past _
    have hB : Below w.heap.size w Wm := by
      rw [← hWm, ← hWb, ← hWa]
      exact (((Below.refl _ _).alloc (Nat.le_refl _) _).alloc (by simp) _).alloc (by simp; omega) _
    rw [← hW0]
    refine ⟨b1m.past _, b2m.past _, ?_, hM.alloc _, hB.alloc (by omega) _⟩
    rw [← nm]
    exact Box.new _ _ _
  have hF0 : Hid (SetIs (.map []) [] ∧ WF ee (l.take 0) ee false []) := ⟨SetIs.zero, by simp, by simp, fun x => by simp, fun t ht => by simp at ht, fun x hx => by cases hx⟩
  clear hWa hWb hWm hW0 na nb nm hlen hee
  go_loopw [17] (fun iv wr => ∃ (i n : Nat) (u o : Bool) (D : DataW Unit) (L : List (List UInt8)), i ≤ l.length ∧ iv = .int .i64 (i : Int) ∧ Hid (WishSt w u o n D wr ∧ n ≤ i) ∧ Hid (SetIs D L ∧ WF ee (l.take i) u o L)) (fun iv _ => l.length - (intOf iv).toNat)
  case atStart => exact ⟨0, 0, ee, false, .map [], [], Nat.zero_le _, rfl, ⟨hI0.out, Nat.le_refl _⟩, hF0⟩
  case round =>
    obtain ⟨i, n, u, o, D, L, hi, rfl, hI, hF⟩ := hrel
    clear hI0 hF0
    by_cases hlt : i < l.length
    · obtain ⟨b, off, rfl, hc⟩ := (h'.out.1.below hI.out.1.2.2.2.2) i hlt
      have i0 : (0 : Int) ≤ (i : Int) := Int.natCast_nonneg _
      have i1 : (i : Int) < (l.length : Int) := Int.ofNat_lt.2 hlt
      have htk : Hid (l.take (i + 1) = l.take i ++ [l[i]]) := List.take_succ_eq_append_getElem hlt
      have htz : Hid (l[i].length ≤ 1048576) := h'.out.2 _ (List.getElem_mem hlt)
      obtain ⟨t, ht⟩ : ∃ t, l[i] = t := ⟨_, rfl⟩
      rw [ht] at hc htk htz
      have hlt' : Hid (i < l.length) := hlt
      clear ht hlt
      by_cases e1 : t = starT
      · subst e1
        obtain ⟨u0, y0⟩ := hI.out.1.1.cell 0 (by simp)
        have hfin : Hid ((WishSt w true o n D (wr.setCell ⟨w.heap.size, 0, none⟩ (.bool true)) ∧ n ≤ i + 1) ∧ SetIs D L ∧ WF ee (l.take (i + 1)) true o L) := ⟨⟨hI.out.1.setU true, Nat.le_succ_of_le hI.out.2⟩, hF.out.1, by rw [htk.out]; exact hF.out.2.star⟩
        simp only [List.getElem_toArray, List.getElem_cons_zero] at u0
        have hS1 : S starT = ⟨#[42]⟩ := rfl
        rw [hS1] at hc
        clear hI hF
        go_wp2_with fail
        go_roundw
        case rel => exact ⟨i + 1, n, true, o, D, L, hlt'.out, by simp, hfin.out.1, hfin.out.2⟩
        case measure => have := hlt'.out; simp [intOf]; omega
      · have q1 : ((S t).toList == (⟨#[42]⟩ : ByteArray).toList) = false := strNeW (y := starT) e1
        by_cases e2 : t = plusT
        · subst e2
          obtain ⟨u0, y0⟩ := hI.out.1.2.1.cell 0 (by simp)
          have hfin : Hid ((WishSt w u true n D (wr.setCell ⟨w.heap.size + 1, 0, none⟩ (.bool true)) ∧ n ≤ i + 1) ∧ SetIs D L ∧ WF ee (l.take (i + 1)) u true L) := ⟨⟨hI.out.1.setO true, Nat.le_succ_of_le hI.out.2⟩, hF.out.1, by rw [htk.out]; exact hF.out.2.plus⟩
          simp only [List.getElem_toArray, List.getElem_cons_zero] at u0
          have hS1 : S plusT = ⟨#[43]⟩ := rfl
          rw [hS1] at hc q1
          clear hI hF
          go_wp2_with fail
          go_roundw
          case rel => exact ⟨i + 1, n, u, true, D, L, hlt'.out, by simp, hfin.out.1, hfin.out.2⟩
          case measure => have := hlt'.out; simp [intOf]; omega
        · have q2 : ((S t).toList == (⟨#[43]⟩ : ByteArray).toList) = false := strNeW (y := plusT) e2
          by_cases e3 : t = noneT
          · subst e3
            have hfin : Hid ((WishSt w u o n D wr ∧ n ≤ i + 1) ∧ SetIs D L ∧ WF ee (l.take (i + 1)) u o L) := ⟨⟨hI.out.1, Nat.le_succ_of_le hI.out.2⟩, hF.out.1, by rw [htk.out]; exact hF.out.2.other e1 e2 (Or.inl (fun hp => hp.2.2 rfl))⟩
            have hS1 : S noneT = ⟨#[49, 46, 49]⟩ := rfl
            rw [hS1] at hc q1 q2
            clear hI hF
            go_wp2_with fail
            go_roundw
            case rel => exact ⟨i + 1, n, u, o, D, L, hlt'.out, by simp, hfin.out.1, hfin.out.2⟩
            case measure => have := hlt'.out; simp [intOf]; omega
          · have q3 : ((S t).toList == (⟨#[49, 46, 49]⟩ : ByteArray).toList) = false := strNeW (y := noneT) e3
            have hts : (S t).size = t.length := by rw [← size_l, S_l]
            have hC : Hid (Calls Tryd.prog 13 #[.string (S t)] wr fun e w' => CnlIs (S (fold t)) e ∧ Below wr.heap.size wr w') := canonicalT_any (S t) (S (fold t)) (by rw [S_l]) wr (by have := htz.out; omega)
            have hpt : Hid (plainT t) := ⟨e1, e2, e3⟩
            have r1 : ((S t).toList == [42]) = false := by rw [Lib.toList_data, S_l]; exact beq_eq_false_iff_ne.2 e1
            have r2 : ((S t).toList == [43]) = false := by rw [Lib.toList_data, S_l]; exact beq_eq_false_iff_ne.2 e2
            have r3 : ((S t).toList == [49, 46, 49]) = false := by rw [Lib.toList_data, S_l]; exact beq_eq_false_iff_ne.2 e3
            clear e1 e2 e3
            go_wp2_with fail
            refine hC.out.mono ?_
            rintro e w2 ⟨hJ, hb2⟩
            have hI2 : Hid (WishSt w u o n D w2 ∧ n ≤ i) := ⟨hI.out.1.below hb2, hI.out.2⟩
            clear hI hC hb2 hc
            generalize ((desc (S (fold t))).2.1 : Int) = pn at *
            rcases hJ with ⟨hok, x, hx, rfl⟩ | ⟨hok, rfl⟩
            · have hcx : cnR t x := ⟨hok, hx⟩
              have hxz := (cnR_all hcx).1
              have hxs : (S x).size = x.length := by rw [← size_l, S_l]
              have hkey : Hid (keyOf Tryd.prog 9 (.string (S x)) = some (.string x)) := by
                have hh := key_str (S x) (by have := htz.out; unfold maxLen; omega)
                rw [S_l] at hh
                exact hh
              obtain ⟨L', hL1, hL2⟩ := hF.out.1.put hI2.out.1.2.2.2.1.isMap (hI2.out.1.2.2.2.1.tidy (Maps.string_keyed Tryd.underlying9)) x
              have hF' : Hid (SetIs (D.put (.string x) (.agg [])) L' ∧ WF ee (l.take (i + 1)) u o L') := ⟨hL1, by rw [htk.out]; exact hF.out.2.put hpt.out hcx htz.out hL2⟩
              have hkm : n < maxLen := by have := hI2.out.2; unfold maxLen; omega
              have c5 : w2.cell? ⟨w.heap.size + 3, 0, none⟩ = some (.map (some (w.heap.size + 2))) := (hI2.out.1.2.2.1.cell 0 (by simp)).1
              have hM := hI2.out.1.2.2.2.1
              clear hF hL1 hL2 hcx hxz hxs hok hx
              generalize S x = X at *
              go_wp2_with (at_mapUpdate; refine wpList_mapUpdate_own _ rfl _ _ _ 56 rfl 9 57 (Maps.string_keyed Tryd.underlying9) Tryd.underlying56 (unitElem (H := Unit)) (w.heap.size + 2) n D rfl hM hkm _ _ _ rfl rfl hkey.out _ [] unitElem_mk ?_; intro w3 hown3 hgrow3)
              have hfin : Hid (WishSt w u o (n + 1) (D.put (.string x) (.agg [])) w3 ∧ n + 1 ≤ i + 1) := by
                obtain ⟨p1, p2, p3, p4, p5⟩ := hI2.out.1
                refine ⟨⟨p1.of (hgrow3.block _ p1.lt (by intro e; injection e with e; omega)), p2.of (hgrow3.block _ p2.lt (by intro e; injection e with e; omega)), p3.of (hgrow3.block _ p3.lt (by intro e; injection e with e; omega)), hown3, p5.grown hgrow3 p5.size (fun j hj => by injection hj with hj; omega)⟩, Nat.succ_le_succ hI2.out.2⟩
              go_roundw
              case rel => exact ⟨i + 1, n + 1, u, o, _, L', hlt'.out, by simp, hfin, hF'⟩
              case measure => have := hlt'.out; simp [intOf]; omega
            · have hfin : Hid ((WishSt w u o n D w2 ∧ n ≤ i + 1) ∧ SetIs D L ∧ WF ee (l.take (i + 1)) u o L) := ⟨⟨hI2.out.1, Nat.le_succ_of_le hI2.out.2⟩, hF.out.1, by rw [htk.out]; exact hF.out.2.other hpt.out.1 hpt.out.2.1 (Or.inr hok)⟩
              clear hI2 hF
              go_wp2_with fail
              go_roundw
              case rel => exact ⟨i + 1, n, u, o, D, L, hlt'.out, by simp, hfin.out.1, hfin.out.2⟩
              case measure => have := hlt'.out; simp [intOf]; omega
    · have hie : i = l.length := by omega
      subst hie
      rw [List.take_length] at hF
      have k1 : ¬ (l.length : Int) < (l.length : Int) := by omega
      go_wp2_with fail
      go_ret
      exact ⟨rfl, u, o, n, D, L, hI.out.1, hF.out.1, hF.out.2⟩
end Go.Proofs.YtdeeegocjgikoaaDoor
