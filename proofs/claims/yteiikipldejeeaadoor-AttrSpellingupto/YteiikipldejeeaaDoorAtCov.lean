import Derived.Test.YteiikipldejeeaaDoorAtSup
namespace Go.Proofs.YteiikipldejeeaaDoor
open Go.RowKit
open TextMath (fold lo)
set_option linter.unusedVariables false

theorem map_below {w w' : World} {R : Value → Option (DataW Nat × List MemPlace)} {b n : Nat} {D : DataW Nat} (h : w.ownsMap Tryd.prog 9 R b n D) (hb : Below w.heap.size w w') : w'.ownsMap Tryd.prog 9 R b n D := by
  have hlt := h.lt
  obtain ⟨es, clock, h0, h1⟩ := h
  exact ⟨es, clock, by rw [hb.block b hlt]; exact h0, h1⟩
theorem con_two (e f : ByteArray) (g : Nat) (w : World) (hg : w.cell? ⟨g, 0, none⟩ = some (.string e)) (hg1 : w.cell? ⟨g, 1, none⟩ = some (.string f)) : ∀ W x, Below w.heap.size w W → Hid (Calls Tryd.prog 19 #[.slice (some ⟨g, 0, none⟩) 2 2, .string x] W fun r w' => r = .returned (.bool (Lib.containsS [e, f] x)) ∧ w' = W) := fun W x hb => by
  have h := Tryd.slices_Contains_string g 0 2 2 [e, f] x W (by simp) (by decide) (fun j hj => by
    have : j = 0 ∨ j = 1 := by simp at hj; omega
    rcases this with rfl | rfl
    · rw [hb.cell (World.block_lt_of_cell? w _ hg)]; exact hg
    · rw [hb.cell (World.block_lt_of_cell? w _ hg1)]; exact hg1)
  exact h
theorem openBook_two (e f : ByteArray) (g : Nat) (w : World) (hg : w.cell? ⟨g, 0, none⟩ = some (.string e)) (hg1 : w.cell? ⟨g, 1, none⟩ = some (.string f)) :
    Calls Tryd.prog 15 #[.slice (some ⟨g, 0, none⟩) 2 2] w fun r w' => ∃ B cs, w.heap.size ≤ B ∧ r = .returned (.agg cs) ∧ Hid (bkC B (upF 62) = cs) ∧ cs.size = 187 ∧ (∀ v ∈ cs.toList, v.oneCell' = true) ∧ cs[186]? = some (.map (some B)) ∧ Hid (w'.ownsMap Tryd.prog 9 (plainElem (H := Nat) Tryd.prog 3) B 186 (mapD [e, f] (upF 62))) ∧ Below w.heap.size w w' := by
  refine (openBook_any _ 2 2 [e, f] w (con_two e f g w hg hg1)).mono ?_
  intro r w' h
  obtain ⟨B, h1, h2, h3, h4⟩ := h
  exact ⟨B, bkC B (upF 62), h1, h2, rfl, bkC_size _ _, bkC_one _ _, bkC_last _ _, h3, h4⟩
theorem contains_row (l : List (List UInt8)) (x : List UInt8) (a : Option Addr) (c : Nat) (w : World) (h : TRow w a l) (hl : l.length ≤ 4194304) :
    Calls Tryd.prog 19 #[.slice a l.length c, .string (S x)] w fun r w' => r = .returned (.bool (decide (x ∈ l))) ∧ w' = w := by
  by_cases h0 : l.length = 0
  · have := List.eq_nil_of_length_eq_zero h0
    subst this
    have h := Tryd.slices_Contains_string_empty a c (S x) w
    simpa using h
  · obtain ⟨g, rfl, _⟩ := h 0 (by omega)
    have hk := Tryd.slices_Contains_string g 0 l.length c (l.map S) (S x) w (by simp) (by omega) (fun j hj => by
      have hj' : j < l.length := by simpa using hj
      obtain ⟨g', e, hc⟩ := h j hj'
      injection e with e
      injection e with e1
      subst e1
      rw [Nat.zero_add, hc]
      simp [List.getD, hj'])
    have e : Lib.containsS ((l.map S).take l.length) (S x) = decide (x ∈ l) := by
      rw [List.take_of_length_le (by simp), Bool.eq_iff_iff, Lib.containsS_iff]
      simp
      constructor
      · rintro ⟨y, hy, e⟩
        have := S_inj _ _ e
        subst this
        exact hy
      · intro hx
        exact ⟨x, hx, rfl⟩
    rw [e] at hk
    exact hk

set_option maxRecDepth 100000 in
set_option maxHeartbeats 2000000 in
theorem coversT_any (d e fd fe : ByteArray) (hfd : S (fold d.data.toList) = fd) (hfe : S (fold e.data.toList) = fe) (w : World) (hds : d.size ≤ 140737488355328) (hes : e.size ≤ 140737488355328) (hTd : Typ fd) (hTe : Typ fe) (hS : SupTab w) :
    Calls Tryd.prog 9 #[.string d, .string e] w fun r w' => r = .returned (.bool (decide ((canN fd).data.toList ∈ lin fe))) ∧ Below w.heap.size w w' := by
  have hFd : ∀ W, Hid (Calls Tryd.prog 14 #[.string d] W fun r w' => r = .returned (.string fd) ∧ Below W.heap.size W w') := fun W => by
    have h := fold_any d W (by unfold maxLen; omega)
    rw [hfd] at h
    exact h
  have hFe : ∀ W, Hid (Calls Tryd.prog 14 #[.string e] W fun r w' => r = .returned (.string fe) ∧ Below W.heap.size W w') := fun W => by
    have h := fold_any e W (by unfold maxLen; omega)
    rw [hfe] at h
    exact h
  have hds' : fd.size ≤ 140737488355328 := by rw [← hfd, fold_size]; exact hds
  have hes' : fe.size ≤ 140737488355328 := by rw [← hfe, fold_size]; exact hes
  have hRd : ∀ W, Hid (Calls Tryd.prog 17 #[.string fd] W fun r w' => r = .returned (.tuple #[.string fd, .slice none 0 0, .int .i64 (fd.size : Int), .bool true]) ∧ w' = W) := fun W => readType_any fd W hds' hTd
  have hRe : ∀ W, Hid (Calls Tryd.prog 17 #[.string fe] W fun r w' => r = .returned (.tuple #[.string fe, .slice none 0 0, .int .i64 (fe.size : Int), .bool true]) ∧ w' = W) := fun W => readType_any fe W hes' hTe
  have hHo : ∀ W, Hid (Calls Tryd.prog 18 #[.slice none 0 0, .slice none 0 0] W fun r w' => r = .returned (.bool true) ∧ Below W.heap.size W w') := fun W =>
    holdsAll_any none none [] [] 0 0 W (fun i hi => by simp at hi) (fun i hi => by simp at hi) (by simp) (by simp) (by simp) (by simp)
  have hzd : Hid (fd.size ≤ maxLen ∧ fe.size ≤ maxLen) := by unfold Hid maxLen; omega
  have hS' : Hid (SupTab w) := hS
  clear hfd hfe hds hes hTd hTe hS hds' hes'
  go_enter Tryd.func9, Tryd.ntmps9
  go_wp2_with fail
  refine (hFd w).out.mono ?_
  rintro r W1 ⟨rfl, hb1⟩
  have o1 : Hid (Below w.heap.size w W1) := hb1
  have h1 := hRd W1
  clear hFd hRd hb1
  go_wp2_with fail
  refine h1.out.mono ?_
  rintro r W1' ⟨rfl, hW1⟩
  subst hW1
  have h2 := hFe W1'
  clear h1 hFe
  go_wp2_with fail
  refine h2.out.mono ?_
  rintro r W2 ⟨rfl, hb2⟩
  have o2 : Hid (Below w.heap.size w W2) := o1.out.trans (hb2.mono o1.out.size)
  have h3 := hRe W2
  clear h2 hRe hb2 o1
  go_wp2_with fail
  refine h3.out.mono ?_
  rintro r W2' ⟨rfl, hW2⟩
  subst hW2
  have h4 := hHo W2'
  clear h3 hHo
  go_wp2_with fail
  refine h4.out.mono ?_
  rintro r W3 ⟨rfl, hb3⟩
  have o3 : Hid (Below w.heap.size w W3) := o2.out.trans (hb3.mono o2.out.size)
  clear h4 o2 hb3
  obtain ⟨W4, hW4⟩ : ∃ W4, W3.alloc (.cells #[.string fe, .string fd] 9) = W4 := ⟨_, rfl⟩
  have hB4 : Below W3.heap.size W3 W4 := by rw [← hW4]; exact (Below.refl _ _).alloc (Nat.le_refl _) _
  have hc0 : W4.cell? ⟨W3.heap.size, 0, none⟩ = some (.string fe) := by rw [← hW4]; exact (row_cell (heap_alloc_last W3 _) (j := 0) (by simp)).1
  have hc1 : W4.cell? ⟨W3.heap.size, 1, none⟩ = some (.string fd) := by rw [← hW4]; exact (row_cell (heap_alloc_last W3 _) (j := 1) (by simp)).1
  have hOB := openBook_two fe fd W3.heap.size W4 hc0 hc1
  have o4 : Hid (Below w.heap.size w W4) := o3.out.trans (hB4.mono o3.out.size)
  clear hB4 hc0 hc1 o3
  go_wp2_with fail
  refine hOB.mono ?_
  rintro r W5 ⟨B, cs, hB, rfl, hcs, hcz, hco, hlast, hM5, hb5⟩
  have st := st_book W5 cs hcz hco
  obtain ⟨W6, hW6⟩ : ∃ W6, W5.alloc (.cells cs 53) = W6 := ⟨_, rfl⟩
  rw [hW6] at st
  have hB6 : Below W5.heap.size W5 W6 := by rw [← hW6]; exact (Below.refl _ _).alloc (Nat.le_refl _) _
  have hb6 : W6.heap[W5.heap.size]? = some (.cells cs 53 (0, 0)) := by rw [← hW6]; exact heap_alloc_last W5 _
  have hM6 : W6.ownsMap Tryd.prog 9 (plainElem (H := Nat) Tryd.prog 3) B 186 (mapD [fe, fd] (upF 62)) := by
    have h := hM5.out.kept (World.grownBy_alloc W5 (.cells cs 53) none) (by simp)
    rw [hW6] at h
    exact h
  have hbk6 : Book W6 W5.heap.size B := by unfold Book; rw [hcs.out]; exact hb6
  have o6 : Hid (Below w.heap.size w W6) := by
    have h3 : Below W4.heap.size W4 W6 := hb5.trans (hB6.mono hb5.size)
    exact o4.out.trans (h3.mono o4.out.size)
  have hL := lineage_any [fe, fd] fe (by simp) W5.heap.size B W6 hbk6 hM6 hzd.out.2 (hS'.out.below o6.out)
  have hM6' : Hid (W6.ownsMap Tryd.prog 9 (plainElem (H := Nat) Tryd.prog 3) B 186 (mapD [fe, fd] (upF 62)) ∧ Book W6 W5.heap.size B) := ⟨hM6, hbk6⟩
  clear hM5 hb5 hB6 hb6 o4 hOB hW6 hW4 hco hlast hM6 hbk6 hcs hB
  go_wp2_with fail
  refine hL.mono ?_
  rintro r W7 ⟨v, rfl, hO, hb7⟩
  obtain ⟨va, vc, rfl, hrow⟩ := ownS_trow hO
  have hrow' : Hid (TRow W7 va (lin fe)) := hrow
  have o7 : Hid (Below w.heap.size w W7) := o6.out.trans (hb7.mono o6.out.size)
  have hll : Hid ((lin fe).length ≤ 4194304) := by
    unfold Hid lin
    have h3 : (chn 3 (upN (noN fe))).length ≤ 3 := chn_len ⟨upN (noN fe), (up_lt ⟨noN fe, noN_lt fe⟩).2⟩
    simp only [List.length_cons]
    omega
  have hM7 : W7.ownsMap Tryd.prog 9 (plainElem (H := Nat) Tryd.prog 3) B 186 (mapD [fe, fd] (upF 62)) := map_below hM6'.out.1 hb7
  have hC := canonicalG_any [fe, fd] fd (by simp) W5.heap.size B W7 (hM6'.out.2.below hb7) hM7 hzd.out.1
  clear st hcz hL hO hb7 hrow o6 hM6' hM7
  go_wp2_with fail
  refine hC.mono ?_
  rintro r W8 ⟨rfl, hW8⟩
  subst hW8
  have hcon := contains_row (lin fe) (canN fd).data.toList va vc W8 hrow'.out hll.out
  rw [S_of] at hcon
  clear hC
  obtain ⟨t, ht⟩ : ∃ t, decide ((canN fd).data.toList ∈ lin fe) = t := ⟨_, rfl⟩
  rw [ht] at hcon
  have ht' : Hid (decide ((canN fd).data.toList ∈ lin fe) = t) := ht
  clear ht
  go_wp2_with fail
  refine hcon.mono ?_
  rintro r W9 ⟨rfl, hW9⟩
  subst hW9
  clear hcon
  go_wp2_with fail
  go_ret
  exact ⟨by rw [ht'.out]; rfl, o7.out⟩
end Go.Proofs.YteiikipldejeeaaDoor
