import Derived.Test.YteiikipldejeeaaDoorAtCov
import Derived.Test.YteiikipldejeeaaDoorAtDesc
namespace Go.Proofs.YteiikipldejeeaaDoor
open Go.RowKit
open TextMath (fold lo)
set_option linter.unusedVariables false

/-- A description's type, and its options, its place, whether it is whole. -/
def typD (f : ByteArray) : ByteArray := f.extract 0 (typE f.data.toList).1
def desc (f : ByteArray) : List (List UInt8) × Nat × Bool := if (typE f.data.toList).2 = true then dscE f (f.size + 1) (typE f.data.toList).1 [] else ([], (typE f.data.toList).1, false)
theorem dscE_len (s : ByteArray) : ∀ n e acc, acc.length ≤ e → e ≤ s.size → (dscE s n e acc).1.length ≤ s.size ∧ ((∀ x ∈ acc, x.length ≤ s.size) → ∀ x ∈ (dscE s n e acc).1, x.length ≤ s.size)
  | 0, e, acc, h, he => by simp [dscE]
  | n + 1, e, acc, h, he => by
    unfold dscE
    split
    · rename_i hlt
      split
      · split
        · simp
        · rename_i hne
          have h1 := runE_le isK s.data.toList (e + 1) (by rw [size_l]; omega)
          rw [size_l] at h1
          have ih := dscE_len s n (runE isK s.data.toList (e + 1)) (acc ++ [(s.extract (e + 1) (runE isK s.data.toList (e + 1))).data.toList]) (by simp; omega) h1.2
          refine ⟨ih.1, fun ha => ih.2 ?_⟩
          intro x hx
          rcases List.mem_append.1 hx with hx | hx
          · exact ha x hx
          · rw [List.mem_singleton.1 hx, size_l]
            simp [ByteArray.size_extract]
            omega
      · simp
    · exact ⟨by show acc.length ≤ _; omega, fun ha => ha⟩
theorem desc_len (f : ByteArray) : (desc f).1.length ≤ f.size ∧ ∀ x ∈ (desc f).1, x.length ≤ f.size := by
  unfold desc
  split
  · have h := typE_le f.data.toList
    rw [size_l] at h
    have h2 := dscE_len f (f.size + 1) (typE f.data.toList).1 [] (by simp) h
    exact ⟨h2.1, h2.2 (by simp)⟩
  · simp
def DescQ (W : World) (B : Nat) (X : ByteArray) (r : List (List UInt8) × Nat × Bool) (e : Ending) : Prop :=
  (r.2.2 = true ∧ ∃ v, e = .returned (.tuple #[.string X, v, .int .i64 (r.2.1 : Int), .bool true]) ∧ OwnS W B v r.1) ∨
  (r.2.2 = false ∧ e = .returned (.tuple #[.string ⟨#[]⟩, .slice none 0 0, .int .i64 (r.2.1 : Int), .bool false]))
theorem desc_any (f : ByteArray) (w : World) (hs : f.size ≤ 4194304) : Calls Tryd.prog 17 #[.string f] w fun e w' => DescQ w' w.heap.size (typD f) (desc f) e ∧ Below w.heap.size w w' := readDesc_any f w hs
/-- What Covers answers. -/
def covB (fd fe : ByteArray) : Bool := (desc fd).2.2 && (desc fe).2.2 && holds (desc fe).1 (desc fd).1 && decide ((canN (typD fd)).data.toList ∈ lin (typD fe))
set_option maxRecDepth 100000 in
set_option maxHeartbeats 2000000 in
theorem covers_any (d e fd fe : ByteArray) (hfd : S (fold d.data.toList) = fd) (hfe : S (fold e.data.toList) = fe) (w : World) (hds : d.size ≤ 4194304) (hes : e.size ≤ 4194304) (hS : SupTab w) :
    Calls Tryd.prog 9 #[.string d, .string e] w fun r w' => r = .returned (.bool (covB fd fe)) ∧ Below w.heap.size w w' := by
  have hFd : ∀ W, Hid (Calls Tryd.prog 14 #[.string d] W fun r w' => r = .returned (.string fd) ∧ Below W.heap.size W w') := fun W => by
    have h := fold_any d W (by unfold maxLen; omega)
    rw [hfd] at h
    exact h
  have hFe : ∀ W, Hid (Calls Tryd.prog 14 #[.string e] W fun r w' => r = .returned (.string fe) ∧ Below W.heap.size W w') := fun W => by
    have h := fold_any e W (by unfold maxLen; omega)
    rw [hfe] at h
    exact h
  have hds' : fd.size ≤ 4194304 := by rw [← hfd, fold_size]; exact hds
  have hes' : fe.size ≤ 4194304 := by rw [← hfe, fold_size]; exact hes
  have hRd : ∀ W, Hid (Calls Tryd.prog 17 #[.string fd] W fun r w' => DescQ w' W.heap.size (typD fd) (desc fd) r ∧ Below W.heap.size W w') := fun W => desc_any fd W hds'
  have hRe : ∀ W, Hid (Calls Tryd.prog 17 #[.string fe] W fun r w' => DescQ w' W.heap.size (typD fe) (desc fe) r ∧ Below W.heap.size W w') := fun W => desc_any fe W hes'
  have hzd : Hid ((typD fd).size ≤ maxLen ∧ (typD fe).size ≤ maxLen) := by
    unfold Hid maxLen typD
    simp only [ByteArray.size_extract]
    omega
  have hld : Hid ((desc fd).1.length ≤ 4194304 ∧ ∀ x ∈ (desc fd).1, x.length ≤ 4194304) := ⟨Nat.le_trans (desc_len fd).1 hds', fun x hx => Nat.le_trans ((desc_len fd).2 x hx) hds'⟩
  have hle : Hid ((desc fe).1.length ≤ 4194304 ∧ ∀ x ∈ (desc fe).1, x.length ≤ 4194304) := ⟨Nat.le_trans (desc_len fe).1 hes', fun x hx => Nat.le_trans ((desc_len fe).2 x hx) hes'⟩
  obtain ⟨ans, hans⟩ : ∃ ans, covB fd fe = ans := ⟨_, rfl⟩
  rw [hans]
  unfold covB at hans
  generalize typD fd = X at *
  generalize typD fe = Y at *
  generalize desc fd = D at *
  generalize desc fe = E at *
  have hA : Hid ((D.2.2 && E.2.2 && holds E.1 D.1 && decide ((canN X).data.toList ∈ lin Y)) = ans) := hans
  have hS' : Hid (SupTab w) := hS
  clear hfd hfe hds hes hS hds' hes' hans
  go_enter Tryd.func9, Tryd.ntmps9
  go_wp2_with fail
  refine (hFd w).out.mono ?_
  rintro r W1 ⟨rfl, hb1⟩
  have o1 : Hid (Below w.heap.size w W1) := hb1
  have h1 := hRd W1
  clear hFd hRd hb1
  go_wp2_with fail
  refine h1.out.mono ?_
  rintro r W2 ⟨hQd, hb2⟩
  have o2 : Hid (Below w.heap.size w W2) := o1.out.trans (hb2.mono o1.out.size)
  have h2 := hFe W2
  clear h1 hFe hb2
  rcases hQd with ⟨okd, vd, rfl, hOd⟩ | ⟨okd, rfl⟩
  · have hOd' : Hid (OwnS W2 W1.heap.size vd D.1) := hOd
    have okd' : Hid (D.2.2 = true) := okd
    clear hOd okd o1
    go_wp2_with fail
    refine h2.out.mono ?_
    rintro r W3 ⟨rfl, hb3⟩
    have o3 : Hid (Below w.heap.size w W3) := o2.out.trans (hb3.mono o2.out.size)
    have h3 := hRe W3
    have hb3' : Hid (Below W2.heap.size W2 W3) := hb3
    clear h2 hRe hb3
    go_wp2_with fail
    refine h3.out.mono ?_
    rintro r W4 ⟨hQe, hb4⟩
    have o4 : Hid (Below w.heap.size w W4) := o3.out.trans (hb4.mono o3.out.size)
    have hb24 : Hid (Below W2.heap.size W2 W4) := hb3'.out.trans (hb4.mono hb3'.out.size)
    clear h3 hb4 o3 o2 hb3'
    rcases hQe with ⟨oke, ve, rfl, hOe⟩ | ⟨oke, rfl⟩
    · obtain ⟨da, dc, rfl, hdrow⟩ := ownS_trow hOd'.out
      obtain ⟨ea, ec, rfl, herow⟩ := ownS_trow hOe
      have hHo := holdsAll_any ea da E.1 D.1 ec dc W4 herow (hdrow.below hb24.out) hle.out.1 hld.out.1 hle.out.2 hld.out.2
      rw [okd'.out, oke] at hA
      have oke' : Hid (E.2.2 = true) := oke
      clear hOd' hOe hdrow herow okd' oke hle hld hb24
      obtain ⟨hh, hhe⟩ : ∃ hh, holds E.1 D.1 = hh := ⟨_, rfl⟩
      rw [hhe] at hHo hA
      clear hhe
      cases hh with
      | false =>
        go_wp2_with fail
        refine hHo.mono ?_
        rintro r W5 ⟨rfl, hb5⟩
        have o5 : Hid (Below w.heap.size w W5) := o4.out.trans (hb5.mono o4.out.size)
        clear hHo hb5 o4
        go_wp2_with fail
        go_ret
        exact ⟨by rw [← hA.out]; rfl, o5.out⟩
      | true =>
        have hfin : Hid (ans = decide ((canN X).data.toList ∈ lin Y)) := hA.out.symm
        clear hA
        go_wp2_with fail
        refine hHo.mono ?_
        rintro r W3 ⟨rfl, hb3⟩
        have o3 : Hid (Below w.heap.size w W3) := o4.out.trans (hb3.mono o4.out.size)
        clear hHo hb3 o4
        obtain ⟨W4, hW4⟩ : ∃ W4, W3.alloc (.cells #[.string Y, .string X] 9) = W4 := ⟨_, rfl⟩
        have hB4 : Below W3.heap.size W3 W4 := by rw [← hW4]; exact (Below.refl _ _).alloc (Nat.le_refl _) _
        have hc0 : W4.cell? ⟨W3.heap.size, 0, none⟩ = some (.string Y) := by rw [← hW4]; exact (row_cell (heap_alloc_last W3 _) (j := 0) (by simp)).1
        have hc1 : W4.cell? ⟨W3.heap.size, 1, none⟩ = some (.string X) := by rw [← hW4]; exact (row_cell (heap_alloc_last W3 _) (j := 1) (by simp)).1
        have hOB := openBook_two Y X W3.heap.size W4 hc0 hc1
        have o4 : Hid (Below w.heap.size w W4) := o3.out.trans (hB4.mono o3.out.size)
        clear hB4 hc0 hc1 o3
        go_wp2_with fail
        refine hOB.mono ?_
        rintro r W5 ⟨B, cs, hB, rfl, hcs, hcz, hco, hlast, hM5, hb5⟩
        have st := st_book W5 cs hcz hco
        obtain ⟨W6, hW6⟩ : ∃ W6, W5.alloc (.cells cs 53) = W6 := ⟨_, rfl⟩
        rw [hW6] at st
        have hB6 : Below W5.heap.size W5 W6 := by rw [← hW6]; exact (Below.refl _ _).alloc (Nat.le_refl _) _
        have hb6 : W6.heap[W5.heap.size]? = some (.cells cs 53 (0, 0)) := by rw [← hW6]; exact heap_alloc_last W5 _
        have hM6 : W6.ownsMap Tryd.prog 9 (plainElem (H := Nat) Tryd.prog 3) B 186 (mapD [Y, X] (upF 62)) := by
          have h := hM5.out.kept (World.grownBy_alloc W5 (.cells cs 53) none) (by simp)
          rw [hW6] at h
          exact h
        have hbk6 : Book W6 W5.heap.size B := by unfold Book; rw [hcs.out]; exact hb6
        have o6 : Hid (Below w.heap.size w W6) := by
          have h3 : Below W4.heap.size W4 W6 := hb5.trans (hB6.mono hb5.size)
          exact o4.out.trans (h3.mono o4.out.size)
        have hL := lineage_any [Y, X] Y (by simp) W5.heap.size B W6 hbk6 hM6 hzd.out.2 (hS'.out.below o6.out)
        have hM6' : Hid (W6.ownsMap Tryd.prog 9 (plainElem (H := Nat) Tryd.prog 3) B 186 (mapD [Y, X] (upF 62)) ∧ Book W6 W5.heap.size B) := ⟨hM6, hbk6⟩
        clear hM5 hb5 hB6 hb6 o4 hOB hW6 hW4 hco hlast hM6 hbk6 hcs hB
        go_wp2_with fail
        refine hL.mono ?_
        rintro r W7 ⟨v, rfl, hO, hb7⟩
        obtain ⟨va, vc, rfl, hrow⟩ := ownS_trow hO
        have hrow' : Hid (TRow W7 va (lin Y)) := hrow
        have o7 : Hid (Below w.heap.size w W7) := o6.out.trans (hb7.mono o6.out.size)
        have hll : Hid ((lin Y).length ≤ 4194304) := by
          unfold Hid lin
          have h3 : (chn 3 (upN (noN Y))).length ≤ 3 := chn_len ⟨upN (noN Y), (up_lt ⟨noN Y, noN_lt Y⟩).2⟩
          simp only [List.length_cons]
          omega
        have hM7 : W7.ownsMap Tryd.prog 9 (plainElem (H := Nat) Tryd.prog 3) B 186 (mapD [Y, X] (upF 62)) := map_below hM6'.out.1 hb7
        have hC := canonicalG_any [Y, X] X (by simp) W5.heap.size B W7 (hM6'.out.2.below hb7) hM7 hzd.out.1
        clear st hcz hL hO hb7 hrow o6 hM6' hM7
        go_wp2_with fail
        refine hC.mono ?_
        rintro r W8 ⟨rfl, hW8⟩
        subst hW8
        have hcon := contains_row (lin Y) (canN X).data.toList va vc W8 hrow'.out hll.out
        rw [S_of] at hcon
        clear hC
        obtain ⟨t, ht⟩ : ∃ t, decide ((canN X).data.toList ∈ lin Y) = t := ⟨_, rfl⟩
        rw [ht] at hcon
        have ht' : Hid (decide ((canN X).data.toList ∈ lin Y) = t) := ht
        clear ht
        go_wp2_with fail
        refine hcon.mono ?_
        rintro r W9 ⟨rfl, hW9⟩
        subst hW9
        clear hcon
        go_wp2_with fail
        go_ret
        exact ⟨by rw [hfin.out, ht'.out]; rfl, o7.out⟩
    · rw [okd'.out, oke] at hA
      clear hOd' okd' oke hle hld hb24
      go_wp2_with fail
      go_ret
      exact ⟨by rw [← hA.out]; rfl, o4.out⟩
  · rw [okd] at hA
    clear okd o1
    go_wp2_with fail
    refine h2.out.mono ?_
    rintro r W3 ⟨rfl, hb3⟩
    have o3 : Hid (Below w.heap.size w W3) := o2.out.trans (hb3.mono o2.out.size)
    have h3 := hRe W3
    clear h2 hRe hb3
    go_wp2_with fail
    refine h3.out.mono ?_
    rintro r W4 ⟨hQe, hb4⟩
    have o4 : Hid (Below w.heap.size w W4) := o3.out.trans (hb4.mono o3.out.size)
    clear h3 hb4 o3 o2
    have hA' : Hid (ans = false) := hA.out.symm
    clear hA hle hld
    rcases hQe with ⟨oke, ve, rfl, hOe⟩ | ⟨oke, rfl⟩
    · clear hOe
      go_wp2_with fail
      go_ret
      exact ⟨by rw [hA'.out]; rfl, o4.out⟩
    · go_wp2_with fail
      go_ret
      exact ⟨by rw [hA'.out]; rfl, o4.out⟩
end Go.Proofs.YteiikipldejeeaaDoor
