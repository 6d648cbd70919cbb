import Derived.Test.YtdeeegocjgikoaaDoorK6
import Derived.Test.YtdeeegocjgikoaaDoorK3
namespace Go.Proofs.YtdeeegocjgikoaaDoor
open Go.RowKit
open TextMath (fold lo)
set_option linter.unusedVariables false

theorem ext_full (s : ByteArray) : s.extract 0 s.size = s := by
  have h : (s.extract 0 s.size).data.toList = s.data.toList := by
    rw [Lib.extract_data]
    simp
    rw [List.take_of_length_le]
    rw [size_l]
    exact Nat.le_refl _
  rw [← S_of (s.extract 0 s.size), h, S_of]
/-- A text that is a type and nothing else. -/
def Typ (f : ByteArray) : Prop := (typE f.data.toList).1 = f.size ∧ (typE f.data.toList).2 = true

set_option maxRecDepth 100000 in
set_option maxHeartbeats 1000000 in
theorem readType_any (f : ByteArray) (w : World) (hs : f.size ≤ 140737488355328) (hT : Typ f) :
    Calls Tryd.prog 37 #[.string f] w fun e w' => e = .returned (.tuple #[.string f, .slice none 0 0, .int .i64 (f.size : Int), .bool true]) ∧ w' = w := by
  have hc := typeEnd_any f w hs
  rw [hT.1, hT.2] at hc
  have n0 : (0 : Int) ≤ (f.size : Int) := Int.natCast_nonneg _
  clear hT
  go_enter Tryd.func37, Tryd.ntmps37
  go_wp2_with (go_at_call 55; refine hc.mono ?_; rintro e w' ⟨rfl, rfl⟩)
  refine wp_loop_rounds 1 ?_
  rw [rounds_succ]
  go_wp2_with fail
  exact bodyPost_ret (results_tmp4 rfl _ _ _) rfl ⟨rfl, rfl⟩

/-- The book of one asked text, laid down: what the calls over it may lean on. -/
theorem fold_size (s : ByteArray) : (S (fold s.data.toList)).size = s.size := by
  rw [S_size]
  unfold fold
  rw [List.length_map, size_l]

/-- The syntax of a type. -/
def synN (f : ByteArray) : Int := match rowOf f with
  | none => 0
  | some i => SYN.getD i.1 0
theorem field_book (B : Nat) (W : World) : (Instr.field 67 (.agg (bkC B (upF 62))) 1).run Tryd.prog W = .ok (.map (some B)) W := by kernel_rfl

end Go.Proofs.YtdeeegocjgikoaaDoor

namespace Go.Proofs.YtdeeegocjgikoaaDoor
open Go.RowKit
open TextMath (fold lo)
set_option linter.unusedVariables false

theorem map_below {w w' : World} {R : Value → Option (DataW Nat × List MemPlace)} {b n : Nat} {D : DataW Nat} (h : w.ownsMap Tryd.prog 9 R b n D) (hb : Below w.heap.size w w') : w'.ownsMap Tryd.prog 9 R b n D := by
  have hlt := h.lt
  obtain ⟨es, clock, h0, h1⟩ := h
  exact ⟨es, clock, by rw [hb.block b hlt]; exact h0, h1⟩
theorem con_two (e f : ByteArray) (g : Nat) (w : World) (hg : w.cell? ⟨g, 0, none⟩ = some (.string e)) (hg1 : w.cell? ⟨g, 1, none⟩ = some (.string f)) : ∀ W x, Below w.heap.size w W → Hid (Calls Tryd.prog 46 #[.slice (some ⟨g, 0, none⟩) 2 2, .string x] W fun r w' => r = .returned (.bool (Lib.containsS [e, f] x)) ∧ w' = W) := fun W x hb => by
  have h := Tryd.slices_Contains_string g 0 2 2 [e, f] x W (by simp) (by decide) (fun j hj => by
    have : j = 0 ∨ j = 1 := by simp at hj; omega
    rcases this with rfl | rfl
    · rw [hb.cell (World.block_lt_of_cell? w _ hg)]; exact hg
    · rw [hb.cell (World.block_lt_of_cell? w _ hg1)]; exact hg1)
  exact h
theorem openBook_two (e f : ByteArray) (g : Nat) (w : World) (hg : w.cell? ⟨g, 0, none⟩ = some (.string e)) (hg1 : w.cell? ⟨g, 1, none⟩ = some (.string f)) :
    Calls Tryd.prog 39 #[.slice (some ⟨g, 0, none⟩) 2 2] w fun r w' => ∃ B cs, w.heap.size ≤ B ∧ r = .returned (.agg cs) ∧ Hid (bkC B (upF 62) = cs) ∧ cs.size = 187 ∧ (∀ v ∈ cs.toList, v.oneCell' = true) ∧ cs[186]? = some (.map (some B)) ∧ Hid (w'.ownsMap Tryd.prog 9 (plainElem (H := Nat) Tryd.prog 3) B 186 (mapD [e, f] (upF 62))) ∧ Below w.heap.size w w' := by
  refine (openBook_any _ 2 2 [e, f] w (con_two e f g w hg hg1)).mono ?_
  intro r w' h
  obtain ⟨B, h1, h2, h3, h4⟩ := h
  exact ⟨B, bkC B (upF 62), h1, h2, rfl, bkC_size _ _, bkC_one _ _, bkC_last _ _, h3, h4⟩
theorem contains_row (l : List (List UInt8)) (x : List UInt8) (a : Option Addr) (c : Nat) (w : World) (h : TRow w a l) (hl : l.length ≤ 4194304) :
    Calls Tryd.prog 46 #[.slice a l.length c, .string (S x)] w fun r w' => r = .returned (.bool (decide (x ∈ l))) ∧ w' = w := by
  by_cases h0 : l.length = 0
  · have := List.eq_nil_of_length_eq_zero h0
    subst this
    have h := Tryd.slices_Contains_string_empty a c (S x) w
    simpa using h
  · obtain ⟨g, rfl, _⟩ := h 0 (by omega)
    have hk := Tryd.slices_Contains_string g 0 l.length c (l.map S) (S x) w (by simp) (by omega) (fun j hj => by
      have hj' : j < l.length := by simpa using hj
      obtain ⟨g', e, hc⟩ := h j hj'
      injection e with e
      injection e with e1
      subst e1
      rw [Nat.zero_add, hc]
      simp [List.getD, hj'])
    have e : Lib.containsS ((l.map S).take l.length) (S x) = decide (x ∈ l) := by
      rw [List.take_of_length_le (by simp), Bool.eq_iff_iff, Lib.containsS_iff]
      simp
      constructor
      · rintro ⟨y, hy, e⟩
        have := S_inj _ _ e
        subst this
        exact hy
      · intro hx
        exact ⟨x, hx, rfl⟩
    rw [e] at hk
    exact hk

set_option maxRecDepth 100000 in
set_option maxHeartbeats 2000000 in
theorem coversT_any (d e fd fe : ByteArray) (hfd : S (fold d.data.toList) = fd) (hfe : S (fold e.data.toList) = fe) (w : World) (hds : d.size ≤ 140737488355328) (hes : e.size ≤ 140737488355328) (hTd : Typ fd) (hTe : Typ fe) (hS : SupTab w) :
    Calls Tryd.prog 27 #[.string d, .string e] w fun r w' => r = .returned (.bool (decide ((canN fd).data.toList ∈ lin fe))) ∧ Below w.heap.size w w' := by
  have hFd : ∀ W, Hid (Calls Tryd.prog 38 #[.string d] W fun r w' => r = .returned (.string fd) ∧ Below W.heap.size W w') := fun W => by
    have h := fold_any d W (by unfold maxLen; omega)
    rw [hfd] at h
    exact h
  have hFe : ∀ W, Hid (Calls Tryd.prog 38 #[.string e] W fun r w' => r = .returned (.string fe) ∧ Below W.heap.size W w') := fun W => by
    have h := fold_any e W (by unfold maxLen; omega)
    rw [hfe] at h
    exact h
  have hds' : fd.size ≤ 140737488355328 := by rw [← hfd, fold_size]; exact hds
  have hes' : fe.size ≤ 140737488355328 := by rw [← hfe, fold_size]; exact hes
  have hRd : ∀ W, Hid (Calls Tryd.prog 37 #[.string fd] W fun r w' => r = .returned (.tuple #[.string fd, .slice none 0 0, .int .i64 (fd.size : Int), .bool true]) ∧ w' = W) := fun W => readType_any fd W hds' hTd
  have hRe : ∀ W, Hid (Calls Tryd.prog 37 #[.string fe] W fun r w' => r = .returned (.tuple #[.string fe, .slice none 0 0, .int .i64 (fe.size : Int), .bool true]) ∧ w' = W) := fun W => readType_any fe W hes' hTe
  have hHo : ∀ W, Hid (Calls Tryd.prog 45 #[.slice none 0 0, .slice none 0 0] W fun r w' => r = .returned (.bool true) ∧ Below W.heap.size W w') := fun W =>
    holdsAll_any none none [] [] 0 0 W (fun i hi => by simp at hi) (fun i hi => by simp at hi) (by simp) (by simp) (by simp) (by simp)
  have hzd : Hid (fd.size ≤ maxLen ∧ fe.size ≤ maxLen) := by unfold Hid maxLen; omega
  have hS' : Hid (SupTab w) := hS
  clear hfd hfe hds hes hTd hTe hS hds' hes'
  go_enter Tryd.func27, Tryd.ntmps27
  go_wp2_with fail
  refine (hFd w).out.mono ?_
  rintro r W1 ⟨rfl, hb1⟩
  have o1 : Hid (Below w.heap.size w W1) := hb1
  have h1 := hRd W1
  clear hFd hRd hb1
  go_wp2_with fail
  refine h1.out.mono ?_
  rintro r W1' ⟨rfl, hW1⟩
  subst hW1
  have h2 := hFe W1'
  clear h1 hFe
  go_wp2_with fail
  refine h2.out.mono ?_
  rintro r W2 ⟨rfl, hb2⟩
  have o2 : Hid (Below w.heap.size w W2) := o1.out.trans (hb2.mono o1.out.size)
  have h3 := hRe W2
  clear h2 hRe hb2 o1
  go_wp2_with fail
  refine h3.out.mono ?_
  rintro r W2' ⟨rfl, hW2⟩
  subst hW2
  have h4 := hHo W2'
  clear h3 hHo
  go_wp2_with fail
  refine h4.out.mono ?_
  rintro r W3 ⟨rfl, hb3⟩
  have o3 : Hid (Below w.heap.size w W3) := o2.out.trans (hb3.mono o2.out.size)
  clear h4 o2 hb3
  obtain ⟨W4, hW4⟩ : ∃ W4, W3.alloc (.cells #[.string fe, .string fd] 9) = W4 := ⟨_, rfl⟩
  have hB4 : Below W3.heap.size W3 W4 := by rw [← hW4]; exact (Below.refl _ _).alloc (Nat.le_refl _) _
  have hc0 : W4.cell? ⟨W3.heap.size, 0, none⟩ = some (.string fe) := by rw [← hW4]; exact (row_cell (heap_alloc_last W3 _) (j := 0) (by simp)).1
  have hc1 : W4.cell? ⟨W3.heap.size, 1, none⟩ = some (.string fd) := by rw [← hW4]; exact (row_cell (heap_alloc_last W3 _) (j := 1) (by simp)).1
  have hOB := openBook_two fe fd W3.heap.size W4 hc0 hc1
  have o4 : Hid (Below w.heap.size w W4) := o3.out.trans (hB4.mono o3.out.size)
  clear hB4 hc0 hc1 o3
  go_wp2_with fail
  refine hOB.mono ?_
  rintro r W5 ⟨B, cs, hB, rfl, hcs, hcz, hco, hlast, hM5, hb5⟩
  have st := st_book W5 cs hcz hco
  obtain ⟨W6, hW6⟩ : ∃ W6, W5.alloc (.cells cs 67) = W6 := ⟨_, rfl⟩
  rw [hW6] at st
  have hB6 : Below W5.heap.size W5 W6 := by rw [← hW6]; exact (Below.refl _ _).alloc (Nat.le_refl _) _
  have hb6 : W6.heap[W5.heap.size]? = some (.cells cs 67 (0, 0)) := by rw [← hW6]; exact heap_alloc_last W5 _
  have hM6 : W6.ownsMap Tryd.prog 9 (plainElem (H := Nat) Tryd.prog 3) B 186 (mapD [fe, fd] (upF 62)) := by
    have h := hM5.out.kept (World.grownBy_alloc W5 (.cells cs 67) none) (by simp)
    rw [hW6] at h
    exact h
  have hbk6 : Book W6 W5.heap.size B := by unfold Book; rw [hcs.out]; exact hb6
  have o6 : Hid (Below w.heap.size w W6) := by
    have h3 : Below W4.heap.size W4 W6 := hb5.trans (hB6.mono hb5.size)
    exact o4.out.trans (h3.mono o4.out.size)
  have hL := lineage_any [fe, fd] fe (by simp) W5.heap.size B W6 hbk6 hM6 hzd.out.2 (hS'.out.below o6.out)
  have hM6' : Hid (W6.ownsMap Tryd.prog 9 (plainElem (H := Nat) Tryd.prog 3) B 186 (mapD [fe, fd] (upF 62)) ∧ Book W6 W5.heap.size B) := ⟨hM6, hbk6⟩
  clear hM5 hb5 hB6 hb6 o4 hOB hW6 hW4 hco hlast hM6 hbk6 hcs hB
  go_wp2_with fail
  refine hL.mono ?_
  rintro r W7 ⟨v, rfl, hO, hb7⟩
  obtain ⟨va, vc, rfl, hrow⟩ := ownS_trow hO
  have hrow' : Hid (TRow W7 va (lin fe)) := hrow
  have o7 : Hid (Below w.heap.size w W7) := o6.out.trans (hb7.mono o6.out.size)
  have hll : Hid ((lin fe).length ≤ 4194304) := by
    unfold Hid lin
    have h3 : (chn 3 (upN (noN fe))).length ≤ 3 := chn_len ⟨upN (noN fe), (up_lt ⟨noN fe, noN_lt fe⟩).2⟩
    simp only [List.length_cons]
    omega
  have hM7 : W7.ownsMap Tryd.prog 9 (plainElem (H := Nat) Tryd.prog 3) B 186 (mapD [fe, fd] (upF 62)) := map_below hM6'.out.1 hb7
  have hC := canonicalG_any [fe, fd] fd (by simp) W5.heap.size B W7 (hM6'.out.2.below hb7) hM7 hzd.out.1
  clear st hcz hL hO hb7 hrow o6 hM6' hM7
  go_wp2_with fail
  refine hC.mono ?_
  rintro r W8 ⟨rfl, hW8⟩
  subst hW8
  have hcon := contains_row (lin fe) (canN fd).data.toList va vc W8 hrow'.out hll.out
  rw [S_of] at hcon
  clear hC
  obtain ⟨t, ht⟩ : ∃ t, decide ((canN fd).data.toList ∈ lin fe) = t := ⟨_, rfl⟩
  rw [ht] at hcon
  have ht' : Hid (decide ((canN fd).data.toList ∈ lin fe) = t) := ht
  clear ht
  go_wp2_with fail
  refine hcon.mono ?_
  rintro r W9 ⟨rfl, hW9⟩
  subst hW9
  clear hcon
  go_wp2_with fail
  go_ret
  exact ⟨by rw [ht'.out]; rfl, o7.out⟩
end Go.Proofs.YtdeeegocjgikoaaDoor

namespace Go.Proofs.YtdeeegocjgikoaaDoor
open Go.RowKit
open TextMath (fold lo)
set_option linter.unusedVariables false

/-- A description's type, and its options, its place, whether it is whole. -/
def typD (f : ByteArray) : ByteArray := f.extract 0 (typE f.data.toList).1
def desc (f : ByteArray) : List (List UInt8) × Nat × Bool := if (typE f.data.toList).2 = true then dscE f (f.size + 1) (typE f.data.toList).1 [] else ([], (typE f.data.toList).1, false)
theorem dscE_len (s : ByteArray) : ∀ n e acc, acc.length ≤ e → e ≤ s.size → (dscE s n e acc).1.length ≤ s.size ∧ ((∀ x ∈ acc, x.length ≤ s.size) → ∀ x ∈ (dscE s n e acc).1, x.length ≤ s.size)
  | 0, e, acc, h, he => by simp [dscE]
  | n + 1, e, acc, h, he => by
    unfold dscE
    split
    · rename_i hlt
      split
      · split
        · simp
        · rename_i hne
          have h1 := runE_le isK s.data.toList (e + 1) (by rw [size_l]; omega)
          rw [size_l] at h1
          have ih := dscE_len s n (runE isK s.data.toList (e + 1)) (acc ++ [(s.extract (e + 1) (runE isK s.data.toList (e + 1))).data.toList]) (by simp; omega) h1.2
          refine ⟨ih.1, fun ha => ih.2 ?_⟩
          intro x hx
          rcases List.mem_append.1 hx with hx | hx
          · exact ha x hx
          · rw [List.mem_singleton.1 hx, size_l]
            simp [ByteArray.size_extract]
            omega
      · simp
    · exact ⟨by show acc.length ≤ _; omega, fun ha => ha⟩
theorem desc_len (f : ByteArray) : (desc f).1.length ≤ f.size ∧ ∀ x ∈ (desc f).1, x.length ≤ f.size := by
  unfold desc
  split
  · have h := typE_le f.data.toList
    rw [size_l] at h
    have h2 := dscE_len f (f.size + 1) (typE f.data.toList).1 [] (by simp) h
    exact ⟨h2.1, h2.2 (by simp)⟩
  · simp
def DescQ (W : World) (B : Nat) (X : ByteArray) (r : List (List UInt8) × Nat × Bool) (e : Ending) : Prop :=
  (r.2.2 = true ∧ ∃ v, e = .returned (.tuple #[.string X, v, .int .i64 (r.2.1 : Int), .bool true]) ∧ OwnS W B v r.1) ∨
  (r.2.2 = false ∧ e = .returned (.tuple #[.string ⟨#[]⟩, .slice none 0 0, .int .i64 (r.2.1 : Int), .bool false]))
theorem desc_any (f : ByteArray) (w : World) (hs : f.size ≤ 4194304) : Calls Tryd.prog 37 #[.string f] w fun e w' => DescQ w' w.heap.size (typD f) (desc f) e ∧ Below w.heap.size w w' := readDesc_any f w hs
/-- What Covers answers. -/
def covB (fd fe : ByteArray) : Bool := (desc fd).2.2 && (desc fe).2.2 && holds (desc fe).1 (desc fd).1 && decide ((canN (typD fd)).data.toList ∈ lin (typD fe))
set_option maxRecDepth 100000 in
set_option maxHeartbeats 2000000 in
theorem covers_any (d e fd fe : ByteArray) (hfd : S (fold d.data.toList) = fd) (hfe : S (fold e.data.toList) = fe) (w : World) (hds : d.size ≤ 4194304) (hes : e.size ≤ 4194304) (hS : SupTab w) :
    Calls Tryd.prog 27 #[.string d, .string e] w fun r w' => r = .returned (.bool (covB fd fe)) ∧ Below w.heap.size w w' := by
  have hFd : ∀ W, Hid (Calls Tryd.prog 38 #[.string d] W fun r w' => r = .returned (.string fd) ∧ Below W.heap.size W w') := fun W => by
    have h := fold_any d W (by unfold maxLen; omega)
    rw [hfd] at h
    exact h
  have hFe : ∀ W, Hid (Calls Tryd.prog 38 #[.string e] W fun r w' => r = .returned (.string fe) ∧ Below W.heap.size W w') := fun W => by
    have h := fold_any e W (by unfold maxLen; omega)
    rw [hfe] at h
    exact h
  have hds' : fd.size ≤ 4194304 := by rw [← hfd, fold_size]; exact hds
  have hes' : fe.size ≤ 4194304 := by rw [← hfe, fold_size]; exact hes
  have hRd : ∀ W, Hid (Calls Tryd.prog 37 #[.string fd] W fun r w' => DescQ w' W.heap.size (typD fd) (desc fd) r ∧ Below W.heap.size W w') := fun W => desc_any fd W hds'
  have hRe : ∀ W, Hid (Calls Tryd.prog 37 #[.string fe] W fun r w' => DescQ w' W.heap.size (typD fe) (desc fe) r ∧ Below W.heap.size W w') := fun W => desc_any fe W hes'
  have hzd : Hid ((typD fd).size ≤ maxLen ∧ (typD fe).size ≤ maxLen) := by
    unfold Hid maxLen typD
    simp only [ByteArray.size_extract]
    omega
  have hld : Hid ((desc fd).1.length ≤ 4194304 ∧ ∀ x ∈ (desc fd).1, x.length ≤ 4194304) := ⟨Nat.le_trans (desc_len fd).1 hds', fun x hx => Nat.le_trans ((desc_len fd).2 x hx) hds'⟩
  have hle : Hid ((desc fe).1.length ≤ 4194304 ∧ ∀ x ∈ (desc fe).1, x.length ≤ 4194304) := ⟨Nat.le_trans (desc_len fe).1 hes', fun x hx => Nat.le_trans ((desc_len fe).2 x hx) hes'⟩
  obtain ⟨ans, hans⟩ : ∃ ans, covB fd fe = ans := ⟨_, rfl⟩
  rw [hans]
  unfold covB at hans
  generalize typD fd = X at *
  generalize typD fe = Y at *
  generalize desc fd = D at *
  generalize desc fe = E at *
  have hA : Hid ((D.2.2 && E.2.2 && holds E.1 D.1 && decide ((canN X).data.toList ∈ lin Y)) = ans) := hans
  have hS' : Hid (SupTab w) := hS
  clear hfd hfe hds hes hS hds' hes' hans
  go_enter Tryd.func27, Tryd.ntmps27
  go_wp2_with fail
  refine (hFd w).out.mono ?_
  rintro r W1 ⟨rfl, hb1⟩
  have o1 : Hid (Below w.heap.size w W1) := hb1
  have h1 := hRd W1
  clear hFd hRd hb1
  go_wp2_with fail
  refine h1.out.mono ?_
  rintro r W2 ⟨hQd, hb2⟩
  have o2 : Hid (Below w.heap.size w W2) := o1.out.trans (hb2.mono o1.out.size)
  have h2 := hFe W2
  clear h1 hFe hb2
  rcases hQd with ⟨okd, vd, rfl, hOd⟩ | ⟨okd, rfl⟩
  · have hOd' : Hid (OwnS W2 W1.heap.size vd D.1) := hOd
    have okd' : Hid (D.2.2 = true) := okd
    clear hOd okd o1
    go_wp2_with fail
    refine h2.out.mono ?_
    rintro r W3 ⟨rfl, hb3⟩
    have o3 : Hid (Below w.heap.size w W3) := o2.out.trans (hb3.mono o2.out.size)
    have h3 := hRe W3
    have hb3' : Hid (Below W2.heap.size W2 W3) := hb3
    clear h2 hRe hb3
    go_wp2_with fail
    refine h3.out.mono ?_
    rintro r W4 ⟨hQe, hb4⟩
    have o4 : Hid (Below w.heap.size w W4) := o3.out.trans (hb4.mono o3.out.size)
    have hb24 : Hid (Below W2.heap.size W2 W4) := hb3'.out.trans (hb4.mono hb3'.out.size)
    clear h3 hb4 o3 o2 hb3'
    rcases hQe with ⟨oke, ve, rfl, hOe⟩ | ⟨oke, rfl⟩
    · obtain ⟨da, dc, rfl, hdrow⟩ := ownS_trow hOd'.out
      obtain ⟨ea, ec, rfl, herow⟩ := ownS_trow hOe
      have hHo := holdsAll_any ea da E.1 D.1 ec dc W4 herow (hdrow.below hb24.out) hle.out.1 hld.out.1 hle.out.2 hld.out.2
      rw [okd'.out, oke] at hA
      have oke' : Hid (E.2.2 = true) := oke
      clear hOd' hOe hdrow herow okd' oke hle hld hb24
      obtain ⟨hh, hhe⟩ : ∃ hh, holds E.1 D.1 = hh := ⟨_, rfl⟩
      rw [hhe] at hHo hA
      clear hhe
      cases hh with
      | false =>
        go_wp2_with fail
        refine hHo.mono ?_
        rintro r W5 ⟨rfl, hb5⟩
        have o5 : Hid (Below w.heap.size w W5) := o4.out.trans (hb5.mono o4.out.size)
        clear hHo hb5 o4
        go_wp2_with fail
        go_ret
        exact ⟨by rw [← hA.out]; rfl, o5.out⟩
      | true =>
        have hfin : Hid (ans = decide ((canN X).data.toList ∈ lin Y)) := hA.out.symm
        clear hA
        go_wp2_with fail
        refine hHo.mono ?_
        rintro r W3 ⟨rfl, hb3⟩
        have o3 : Hid (Below w.heap.size w W3) := o4.out.trans (hb3.mono o4.out.size)
        clear hHo hb3 o4
        obtain ⟨W4, hW4⟩ : ∃ W4, W3.alloc (.cells #[.string Y, .string X] 9) = W4 := ⟨_, rfl⟩
        have hB4 : Below W3.heap.size W3 W4 := by rw [← hW4]; exact (Below.refl _ _).alloc (Nat.le_refl _) _
        have hc0 : W4.cell? ⟨W3.heap.size, 0, none⟩ = some (.string Y) := by rw [← hW4]; exact (row_cell (heap_alloc_last W3 _) (j := 0) (by simp)).1
        have hc1 : W4.cell? ⟨W3.heap.size, 1, none⟩ = some (.string X) := by rw [← hW4]; exact (row_cell (heap_alloc_last W3 _) (j := 1) (by simp)).1
        have hOB := openBook_two Y X W3.heap.size W4 hc0 hc1
        have o4 : Hid (Below w.heap.size w W4) := o3.out.trans (hB4.mono o3.out.size)
        clear hB4 hc0 hc1 o3
        go_wp2_with fail
        refine hOB.mono ?_
        rintro r W5 ⟨B, cs, hB, rfl, hcs, hcz, hco, hlast, hM5, hb5⟩
        have st := st_book W5 cs hcz hco
        obtain ⟨W6, hW6⟩ : ∃ W6, W5.alloc (.cells cs 67) = W6 := ⟨_, rfl⟩
        rw [hW6] at st
        have hB6 : Below W5.heap.size W5 W6 := by rw [← hW6]; exact (Below.refl _ _).alloc (Nat.le_refl _) _
        have hb6 : W6.heap[W5.heap.size]? = some (.cells cs 67 (0, 0)) := by rw [← hW6]; exact heap_alloc_last W5 _
        have hM6 : W6.ownsMap Tryd.prog 9 (plainElem (H := Nat) Tryd.prog 3) B 186 (mapD [Y, X] (upF 62)) := by
          have h := hM5.out.kept (World.grownBy_alloc W5 (.cells cs 67) none) (by simp)
          rw [hW6] at h
          exact h
        have hbk6 : Book W6 W5.heap.size B := by unfold Book; rw [hcs.out]; exact hb6
        have o6 : Hid (Below w.heap.size w W6) := by
          have h3 : Below W4.heap.size W4 W6 := hb5.trans (hB6.mono hb5.size)
          exact o4.out.trans (h3.mono o4.out.size)
        have hL := lineage_any [Y, X] Y (by simp) W5.heap.size B W6 hbk6 hM6 hzd.out.2 (hS'.out.below o6.out)
        have hM6' : Hid (W6.ownsMap Tryd.prog 9 (plainElem (H := Nat) Tryd.prog 3) B 186 (mapD [Y, X] (upF 62)) ∧ Book W6 W5.heap.size B) := ⟨hM6, hbk6⟩
        clear hM5 hb5 hB6 hb6 o4 hOB hW6 hW4 hco hlast hM6 hbk6 hcs hB
        go_wp2_with fail
        refine hL.mono ?_
        rintro r W7 ⟨v, rfl, hO, hb7⟩
        obtain ⟨va, vc, rfl, hrow⟩ := ownS_trow hO
        have hrow' : Hid (TRow W7 va (lin Y)) := hrow
        have o7 : Hid (Below w.heap.size w W7) := o6.out.trans (hb7.mono o6.out.size)
        have hll : Hid ((lin Y).length ≤ 4194304) := by
          unfold Hid lin
          have h3 : (chn 3 (upN (noN Y))).length ≤ 3 := chn_len ⟨upN (noN Y), (up_lt ⟨noN Y, noN_lt Y⟩).2⟩
          simp only [List.length_cons]
          omega
        have hM7 : W7.ownsMap Tryd.prog 9 (plainElem (H := Nat) Tryd.prog 3) B 186 (mapD [Y, X] (upF 62)) := map_below hM6'.out.1 hb7
        have hC := canonicalG_any [Y, X] X (by simp) W5.heap.size B W7 (hM6'.out.2.below hb7) hM7 hzd.out.1
        clear st hcz hL hO hb7 hrow o6 hM6' hM7
        go_wp2_with fail
        refine hC.mono ?_
        rintro r W8 ⟨rfl, hW8⟩
        subst hW8
        have hcon := contains_row (lin Y) (canN X).data.toList va vc W8 hrow'.out hll.out
        rw [S_of] at hcon
        clear hC
        obtain ⟨t, ht⟩ : ∃ t, decide ((canN X).data.toList ∈ lin Y) = t := ⟨_, rfl⟩
        rw [ht] at hcon
        have ht' : Hid (decide ((canN X).data.toList ∈ lin Y) = t) := ht
        clear ht
        go_wp2_with fail
        refine hcon.mono ?_
        rintro r W9 ⟨rfl, hW9⟩
        subst hW9
        clear hcon
        go_wp2_with fail
        go_ret
        exact ⟨by rw [hfin.out, ht'.out]; rfl, o7.out⟩
    · rw [okd'.out, oke] at hA
      clear hOd' okd' oke hle hld hb24
      go_wp2_with fail
      go_ret
      exact ⟨by rw [← hA.out]; rfl, o4.out⟩
  · rw [okd] at hA
    clear okd o1
    go_wp2_with fail
    refine h2.out.mono ?_
    rintro r W3 ⟨rfl, hb3⟩
    have o3 : Hid (Below w.heap.size w W3) := o2.out.trans (hb3.mono o2.out.size)
    have h3 := hRe W3
    clear h2 hRe hb3
    go_wp2_with fail
    refine h3.out.mono ?_
    rintro r W4 ⟨hQe, hb4⟩
    have o4 : Hid (Below w.heap.size w W4) := o3.out.trans (hb4.mono o3.out.size)
    clear h3 hb4 o3 o2
    have hA' : Hid (ans = false) := hA.out.symm
    clear hA hle hld
    rcases hQe with ⟨oke, ve, rfl, hOe⟩ | ⟨oke, rfl⟩
    · clear hOe
      go_wp2_with fail
      go_ret
      exact ⟨by rw [hA'.out]; rfl, o4.out⟩
    · go_wp2_with fail
      go_ret
      exact ⟨by rw [hA'.out]; rfl, o4.out⟩
end Go.Proofs.YtdeeegocjgikoaaDoor

namespace Go.Proofs.YtdeeegocjgikoaaDoor
open Go.RowKit
open TextMath (fold lo)
set_option linter.unusedVariables false

theorem results_cell_tmp2 {fn : Func} {t u v : Tmp} {ty : TypeId} (h : fn.results = #[.cell t ty, .tmp u, .tmp v]) (tmps : Array Value) (P : Program) (w : World) (p : Addr) (x : Value) (hp : tmps.getD t undef = .pointer (some p)) (hl : (loadVar ty p).run P w = .ok x w) :
    (results fn tmps).run P w = .ok (.tuple #[x, tmps.getD u undef, tmps.getD v undef]) w := by
  have hp' : tmps[t]?.getD undef = .pointer (some p) := by rw [← hp]; simp
  simp [results, h, hp', asAddr, hl, Result.andThen]
theorem duo {W : World} {R : Nat} {t : TypeId} {a0 a1 : Value} (h : W.heap[R]? = some (.cells #[a0, a1] t (0, 0))) (v0 v1 : Value) :
    ∃ W', (W.setCell ⟨R, 0, none⟩ v0).setCell ⟨R, 1, none⟩ v1 = W' ∧ W'.heap[R]? = some (.cells #[v0, v1] t (0, 0)) ∧ (∀ y, y ≠ R → W'.heap[y]? = W.heap[y]?) ∧ ∀ B u, B ≤ R → Below B u W → Below B u W' := by
  refine ⟨_, rfl, Go.heap_setCell_same _ _ _ _ _ _ (Go.heap_setCell_same _ _ _ _ _ _ h), fun y hy => ?_, fun B u hB hu => ?_⟩
  · rw [Below.heap_setCell _ _ _ _ hy, Below.heap_setCell _ _ _ _ hy]
  · refine Below.setCell (Below.setCell hu ?_ _) ?_ _ <;> exact hB
theorem ld_desc (W : World) (R : Nat) (cs : Array Value) (h : W.heap[R]? = some (.cells cs 49 (0, 0))) (hz : cs.size = 2) : (loadVar 49 ⟨R, 0, none⟩).run Tryd.prog W = .ok (.agg cs) W :=
  run_loadVar_row W R 49 49 cs (0, 0) _ h Tryd.underlying49 rfl (by rw [hz]; kernel_rfl)
/-- What Parse answers of a folded text. -/
def ParseIs (W : World) (B : Nat) (f : ByteArray) (e : Ending) : Prop :=
  ((desc f).2.2 = true ∧ ∃ v L, e = .returned (.tuple #[.agg #[.string (canN (typD f)), v], .int .i64 0, .int .i64 ((desc f).2.1 : Int)]) ∧ OwnS W B v (srt L) ∧ L.Nodup ∧ ∀ x, x ∈ L ↔ x ∈ (desc f).1) ∨
  ((desc f).2.2 = false ∧ e = .returned (.tuple #[.agg #[.string ⟨#[]⟩, .slice none 0 0], .int .i64 40, .int .i64 ((desc f).2.1 : Int)]))

set_option maxRecDepth 100000 in
set_option maxHeartbeats 1000000 in
theorem parse_any (s f : ByteArray) (hf : S (fold s.data.toList) = f) (w : World) (hs : s.size ≤ 4194304) :
    Calls Tryd.prog 25 #[.string s] w fun e w' => ParseIs w' w.heap.size f e ∧ Below w.heap.size w w' := by
  obtain ⟨Wa, hWa⟩ : ∃ Wa, w.alloc (.cells #[.string ⟨#[]⟩, .slice none 0 0] 49) = Wa := ⟨_, rfl⟩
  have hBa : Below w.heap.size w Wa := by rw [← hWa]; exact (Below.refl _ _).alloc (Nat.le_refl _) _
  have hra : Wa.heap[w.heap.size]? = some (.cells #[.string ⟨#[]⟩, .slice none 0 0] 49 (0, 0)) := by rw [← hWa]; exact heap_alloc_last w _
  have hF : ∀ W, Hid (Calls Tryd.prog 38 #[.string s] W fun e w' => e = .returned (.string f) ∧ Below W.heap.size W w') := fun W => by
    have h := fold_any s W (by unfold maxLen; omega)
    rw [hf] at h
    exact h
  have hfs : f.size ≤ 4194304 := by rw [← hf, fold_size]; exact hs
  have hRd : ∀ W, Hid (Calls Tryd.prog 37 #[.string f] W fun r w' => DescQ w' W.heap.size (typD f) (desc f) r ∧ Below W.heap.size W w') := fun W => desc_any f W hfs
  have hld : Hid ((desc f).1.length ≤ 4194304 ∧ ∀ x ∈ (desc f).1, x.length ≤ 4194304) := ⟨Nat.le_trans (desc_len f).1 hfs, fun x hx => Nat.le_trans ((desc_len f).2 x hx) hfs⟩
  have hzd : Hid ((typD f).size ≤ maxLen) := by
    unfold Hid maxLen typD
    simp only [ByteArray.size_extract]
    omega
  unfold ParseIs
  generalize typD f = X at *
  generalize desc f = D at *
  have hH : Hid (Below w.heap.size w Wa ∧ Wa.heap[w.heap.size]? = some (.cells #[.string ⟨#[]⟩, .slice none 0 0] 49 (0, 0))) := ⟨hBa, hra⟩
  clear hf hs hfs hBa hra
  go_enter Tryd.func25, Tryd.ntmps25
  go_wp2_with fail
  refine (hF Wa).out.mono ?_
  rintro e W1 ⟨rfl, hb1⟩
  have o1 : Hid (Below Wa.heap.size Wa W1) := hb1
  have h1 := hRd W1
  clear hF hRd hb1
  go_wp2_with fail
  refine h1.out.mono ?_
  rintro r W2 ⟨hQ, hb2⟩
  have o2 : Hid (Below Wa.heap.size Wa W2) := o1.out.trans (hb2.mono o1.out.size)
  clear h1 hb2
  rcases hQ with ⟨ok, v, rfl, hO⟩ | ⟨ok, rfl⟩
  · obtain ⟨va, vc, rfl, hrow⟩ := ownS_trow hO
    have ok' : Hid (D.2.2 = true) := ok
    have hrow' : Hid (TRow W2 va D.1) := hrow
    clear hO hrow ok o1
    obtain ⟨W3, hW3⟩ : ∃ W3, W2.alloc (.cells #[.string X] 9) = W3 := ⟨_, rfl⟩
    have hB3 : Below W2.heap.size W2 W3 := by rw [← hW3]; exact (Below.refl _ _).alloc (Nat.le_refl _) _
    have hc3 : W3.cell? ⟨W2.heap.size, 0, none⟩ = some (.string X) := by rw [← hW3]; exact (row_cell (heap_alloc_last W2 _) (j := 0) (by simp)).1
    have hOB := openBook_one X W2.heap.size W3 hc3
    have o3 : Hid (Below W2.heap.size W2 W3) := hB3
    clear hB3 hc3
    go_wp2_with fail
    refine hOB.mono ?_
    rintro e W4 ⟨B, cs, hB, rfl, hcs, hcz, hco, hlast, hM4, hB4⟩
    have st := st_book W4 cs hcz hco
    obtain ⟨W5, hW5⟩ : ∃ W5, W4.alloc (.cells cs 67) = W5 := ⟨_, rfl⟩
    rw [hW5] at st
    have hB5 : Below W4.heap.size W4 W5 := by rw [← hW5]; exact (Below.refl _ _).alloc (Nat.le_refl _) _
    have hb5 : W5.heap[W4.heap.size]? = some (.cells cs 67 (0, 0)) := by rw [← hW5]; exact heap_alloc_last W4 _
    have hM5 : W5.ownsMap Tryd.prog 9 (plainElem (H := Nat) Tryd.prog 3) B 186 (mapD [X] (upF 62)) := by
      have h := hM4.out.kept (World.grownBy_alloc W4 (.cells cs 67) none) (by simp)
      rw [hW5] at h
      exact h
    have hbk5 : Book W5 W4.heap.size B := by unfold Book; rw [hcs.out]; exact hb5
    have o5 : Hid (Below W2.heap.size W2 W5) := by
      have h3 : Below W3.heap.size W3 W5 := hB4.trans (hB5.mono hB4.size)
      exact o3.out.trans (h3.mono o3.out.size)
    have hC : Hid (Calls Tryd.prog 40 #[.pointer (some ⟨W4.heap.size, 0, none⟩), .string X] W5 fun e w' => e = .returned (.string (canN X)) ∧ w' = W5) := canonical_any X W4.heap.size B W5 hbk5 hM5 hzd.out
    have hDi := distinct_any va D.1 vc W5 (hrow'.out.below o5.out) hld.out.1 hld.out.2
    have h15 : Hid (Below w.heap.size w W5 ∧ W5.heap[w.heap.size]? = some (.cells #[.string ⟨#[]⟩, .slice none 0 0] 49 (0, 0))) := by
      have h : Below Wa.heap.size Wa W5 := o2.out.trans (o5.out.mono o2.out.size)
      exact ⟨hH.out.1.trans (h.mono hH.out.1.size), (h.block _ (Array.getElem?_eq_some_iff.1 hH.out.2).1).trans hH.out.2⟩
    clear hM4 hB4 hB5 hb5 hOB hW5 hW3 hco hlast hM5 hbk5 hcs hB o2 o3 o5 hH hrow' hld hzd
    go_wp2_with fail
    refine hC.out.mono ?_
    rintro e W5' ⟨rfl, hW5⟩
    subst hW5
    clear st hcz hC
    go_wp2_with fail
    refine hDi.mono ?_
    rintro e W6 ⟨v6, L, rfl, hO6, hnd, hmem, hb6⟩
    have h16 : Below w.heap.size w W6 ∧ W6.heap[w.heap.size]? = some (.cells #[.string ⟨#[]⟩, .slice none 0 0] 49 (0, 0)) := ⟨h15.out.1.trans (hb6.mono h15.out.1.size), (hb6.block _ (Array.getElem?_eq_some_iff.1 h15.out.2).1).trans h15.out.2⟩
    have hlt : Hid (w.heap.size < W5'.heap.size) := (Array.getElem?_eq_some_iff.1 h15.out.2).1
    have hO6' : Hid (OwnS W6 W5'.heap.size v6 (srt L) ∧ L.Nodup ∧ ∀ x, x ∈ L ↔ x ∈ D.1) := ⟨hO6, hnd, hmem⟩
    have h16' : Hid (Below w.heap.size w W6 ∧ W6.heap[w.heap.size]? = some (.cells #[.string ⟨#[]⟩, .slice none 0 0] 49 (0, 0))) := h16
    obtain ⟨r0, f0⟩ := row_cell h16.2 (j := 0) (by simp)
    obtain ⟨r1, f1⟩ := row_cell h16.2 (j := 1) (by simp)
    simp only [List.getElem_toArray, List.getElem_cons_zero, List.getElem_cons_succ] at r0 r1
    obtain ⟨v6a, v6n, v6c, rfl⟩ : ∃ a n c, v6 = .slice a n c := by
      rcases ownS_form hO6 with ⟨h, _⟩ | ⟨g, c, h⟩
      · exact ⟨_, _, _, h⟩
      · exact ⟨_, _, _, h⟩
    clear hO6 hnd hmem hb6 h16 hDi h15
    go_wp2_with fail
    obtain ⟨Wf, hWf, k1, k2, k3⟩ := duo h16'.out.2 (.string (canN X)) (.slice v6a v6n v6c)
    rw [hWf]
    have hl := ld_desc Wf w.heap.size _ k1 rfl
    refine bodyPost_ret (results_cell_tmp2 rfl _ _ _ _ _ rfl hl) rfl ⟨Or.inl ⟨ok'.out, _, L, rfl, ?_, hO6'.out.2⟩, k3 _ _ (Nat.le_refl _) h16'.out.1⟩
    refine ownS_base (ownS_of hO6'.out.1 (fun g hg => k2 g ?_)) (Nat.le_of_lt hlt.out)
    have := (ownS_lt hO6'.out.1 hg).1
    have := hlt.out
    omega
  · have h12 : Hid (Below w.heap.size w W2 ∧ W2.heap[w.heap.size]? = some (.cells #[.string ⟨#[]⟩, .slice none 0 0] 49 (0, 0))) := ⟨hH.out.1.trans (o2.out.mono hH.out.1.size), (o2.out.block _ (Array.getElem?_eq_some_iff.1 hH.out.2).1).trans hH.out.2⟩
    have ok' : Hid (D.2.2 = false) := ok
    obtain ⟨r0, f0⟩ := row_cell h12.out.2 (j := 0) (by simp)
    obtain ⟨r1, f1⟩ := row_cell h12.out.2 (j := 1) (by simp)
    simp only [List.getElem_toArray, List.getElem_cons_zero, List.getElem_cons_succ] at r0 r1
    clear ok o1 o2 hH
    go_wp2_with fail
    obtain ⟨Wf, hWf, k1, k2, k3⟩ := duo h12.out.2 (.string ⟨#[]⟩) (.slice none 0 0)
    rw [hWf]
    have hl := ld_desc Wf w.heap.size _ k1 rfl
    refine bodyPost_ret (results_cell_tmp2 rfl _ _ _ _ _ rfl hl) rfl ⟨Or.inr ⟨ok'.out, rfl⟩, k3 _ _ (Nat.le_refl _) h12.out.1⟩
end Go.Proofs.YtdeeegocjgikoaaDoor
