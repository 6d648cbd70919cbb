import Derived.Test.YtfmhcgadgakbhaaGreatDoorAtMapM
import Derived.Test.YtfmhcgadgakbhaaGreatDoorFxA
import Derived.Test.YtfmhcgadgakbhaaGreatDoorFxD
import Derived.Test.YtfmhcgadgakbhaaGreatDoorFxB
import Derived.Test.YtfmhcgadgakbhaaGreatDoorFxE
import Derived.Test.YtfmhcgadgakbhaaGreatDoorAtDist
namespace Go.Proofs.YtfmhcgadgakbhaaGreatDoor
open Go.RowKit
set_option linter.unusedVariables false

/-- What a map says of one text. -/
def View (D : DataW Nat) (f : ByteArray) (o : Option (Fin 62)) : Prop :=
  Maps.IsMap D ∧ Maps.has D (.string f.data.toList) = o.isSome ∧ ∀ i, o = some i → ∀ z, D.atKey (.string f.data.toList) z = .lit (.int .i64 (i.1 : Int))
theorem str_ne_lit {s f : ByteArray} (h : ¬ s = f) : (Lit.string f.data.toList) ≠ .string s.data.toList := by
  intro e
  injection e with e
  apply h
  cases s
  cases f
  simp at e
  rw [e]
theorem view_step (zs : List ByteArray) (f : ByteArray) (hf : f ∈ zs) (i : Fin 62) (D : DataW Nat) (o : Option (Fin 62)) (h : View D f o) (s : ByteArray) : View (stepD zs i D s) f (if ¬ s.toList = [] ∧ s = f then some i else o) := by
  unfold stepD
  by_cases hs : ¬ s.toList = [] ∧ Lib.containsS zs s = true
  · rw [if_pos hs]
    by_cases e : s = f
    · subst e
      rw [if_pos ⟨hs.1, rfl⟩]
      refine ⟨h.1.put _ _, Maps.has_put_same h.1 (show WideAt.IsKeyLit (Lit.string _) from trivial) _, ?_⟩
      intro j hj z
      injection hj with hj
      subst hj
      exact Maps.atKey_put_same h.1 (show WideAt.IsKeyLit (Lit.string _) from trivial) _ _
    · rw [if_neg (fun q => e q.2)]
      refine ⟨h.1.put _ _, ?_, ?_⟩
      · rw [Maps.has_put_other (str_ne_lit e)]; exact h.2.1
      · intro j hj z
        rw [Maps.atKey_put_other (str_ne_lit e)]
        exact h.2.2 j hj z
  · rw [if_neg hs, if_neg]
    · exact h
    · rintro ⟨h1, rfl⟩
      exact hs ⟨h1, (Lib.containsS_iff _ _).2 hf⟩
theorem view_row (zs : List ByteArray) (f : ByteArray) (hf : f ∈ zs) (i : Fin 62) (D : DataW Nat) (o : Option (Fin 62)) (h : View D f o) : View ((nms i).foldl (stepD zs i) D) f (if hit f i = true then some i else o) := by
  have h1 := view_step zs f hf i D o h (rowL i).1
  have h2 := view_step zs f hf i _ _ h1 (rowL i).2.1
  have h3 := view_step zs f hf i _ _ h2 (rowL i).2.2
  have e : (nms i).foldl (stepD zs i) D = stepD zs i (stepD zs i (stepD zs i D (rowL i).1) (rowL i).2.1) (rowL i).2.2 := rfl
  rw [e]
  have ho : (if hit f i = true then some i else o) = (if ¬ (rowL i).2.2.toList = [] ∧ (rowL i).2.2 = f then some i else if ¬ (rowL i).2.1.toList = [] ∧ (rowL i).2.1 = f then some i else if ¬ (rowL i).1.toList = [] ∧ (rowL i).1 = f then some i else o) := by
    by_cases hh : hit f i = true
    · rw [if_pos hh]
      obtain ⟨n0, q⟩ := (hit_iff f i).1 hh
      by_cases a3 : ¬ (rowL i).2.2.toList = [] ∧ (rowL i).2.2 = f
      · rw [if_pos a3]
      · rw [if_neg a3]
        by_cases a2 : ¬ (rowL i).2.1.toList = [] ∧ (rowL i).2.1 = f
        · rw [if_pos a2]
        · rw [if_neg a2]
          by_cases a1 : ¬ (rowL i).1.toList = [] ∧ (rowL i).1 = f
          · rw [if_pos a1]
          · exfalso
            rcases q with q | q | q
            · exact a1 ⟨by rw [← q]; exact n0, q.symm⟩
            · exact a2 ⟨by rw [← q]; exact n0, q.symm⟩
            · exact a3 ⟨by rw [← q]; exact n0, q.symm⟩
    · rw [if_neg hh, if_neg, if_neg, if_neg]
      · rintro ⟨n0, q⟩; exact hh ((hit_iff f i).2 ⟨by rw [← q]; exact n0, Or.inl q.symm⟩)
      · rintro ⟨n0, q⟩; exact hh ((hit_iff f i).2 ⟨by rw [← q]; exact n0, Or.inr (Or.inl q.symm)⟩)
      · rintro ⟨n0, q⟩; exact hh ((hit_iff f i).2 ⟨by rw [← q]; exact n0, Or.inr (Or.inr q.symm)⟩)
  rw [ho]
  exact h3
theorem view_fold (zs : List ByteArray) (f : ByteArray) (hf : f ∈ zs) (pre : List (Fin 62)) : ∀ (D : DataW Nat) (o : Option (Fin 62)), View D f o → View (pre.foldl (fun D i => (nms i).foldl (stepD zs i) D) D) f (pre.foldl (fun o i => if hit f i = true then some i else o) o) := by
  induction pre with
  | nil => intro D o h; exact h
  | cons i pre ih => intro D o h; exact ih _ _ (view_row zs f hf i D o h)
/-- What the map of some asked texts says of one of them. -/
theorem view_all (zs : List ByteArray) (f : ByteArray) (hf : f ∈ zs) : View (mapD zs (upF 62)) f (rowOf f) := by
  have h := view_fold zs f hf (upF 62) (.map []) none ⟨⟨[], rfl⟩, rfl, fun i hi => by cases hi⟩
  rw [← last_find]
  exact h
end Go.Proofs.YtfmhcgadgakbhaaGreatDoor

namespace Go.Proofs.YtfmhcgadgakbhaaGreatDoor
open Go.RowKit
set_option linter.unusedVariables false

/-- A row's name; the number of the row above. -/
def nmN (n : Nat) : List UInt8 := if h : n < 62 then (rowL ⟨n, h⟩).1.data.toList else []
def upN (n : Nat) : Nat := (SUP.getD n 0).toNat
/-- The names from a row on upwards; 0: none. -/
def chn : Nat → Nat → List (List UInt8)
  | 0, _ => []
  | k + 1, n => if n = 0 then [] else nmN n :: chn k (upN n)
theorem up_lt : ∀ n : Fin 62, SUP.getD n.val 0 = (upN n.val : Int) ∧ upN n.val < 62 := by decide +kernel
theorem chn_step : ∀ n : Fin 62, ¬ n.val = 0 → chn 3 n.val = nmN n.val :: chn 3 (upN n.val) := by decide +kernel
theorem chn_len : ∀ n : Fin 62, (chn 3 n.val).length ≤ 3 := by decide +kernel
/-- The number of the row that a text names; 0, if it names none. -/
def noN (f : ByteArray) : Nat := match rowOf f with
  | none => 0
  | some i => i.1
theorem noN_lt (f : ByteArray) : noN f < 62 := by
  unfold noN
  cases rowOf f with
  | none => decide
  | some i => exact i.2
/-- What lineage answers of a folded text. -/
def lin (f : ByteArray) : List (List UInt8) := (canN f).data.toList :: chn 3 (upN (noN f))
theorem up_zero : upN 0 = 0 := by decide

set_option maxRecDepth 100000 in
set_option maxHeartbeats 400000 in
theorem canonicalG_any (zs : List ByteArray) (f : ByteArray) (hf : f ∈ zs) (b B : Nat) (W : World) (hbk : Book W b B) (hM : W.ownsMap Tryz.prog 9 (plainElem (H := Nat) Tryz.prog 3) B 186 (mapD zs (upF 62))) (hfz : f.size ≤ maxLen) :
    Calls Tryz.prog 63 #[.pointer (some ⟨b, 0, none⟩), .string f] W fun e w' => e = .returned (.string (canN f)) ∧ w' = W := by
  have hV := view_all zs f hf
  obtain ⟨D, hD⟩ : ∃ D, mapD zs (upF 62) = D := ⟨_, rfl⟩
  rw [hD] at hM hV
  have hM4 : Hid (W.ownsMap Tryz.prog 9 (plainElem (H := Nat) Tryz.prog 3) B 186 D) := hM
  have hkey : Hid (keyOf Tryz.prog 9 (.string f) = some (.string f.data.toList)) := key_str f hfz
  have q4 := hbk.map
  have hbk' : Hid (Book W b B) := hbk
  have hV' : Hid (View D f (rowOf f)) := hV
  clear hD hM hbk hV
  cases hrow : rowOf f with
  | none =>
    have hhas' : Maps.has D (.string f.data.toList) = false := by have := hV'.out.2.1; rw [hrow] at this; exact this
    have hfin : Hid (canN f = f) := by unfold Hid canN; rw [hrow]
    clear hV'
    go_enter Tryz.func63, Tryz.ntmps63
    go_wp2_with (at_lookup; refine wpList_lookup_own_ok_int _ rfl _ _ 98 rfl 9 3 .i64 (Maps.string_keyed Tryz.underlying9) Tryz.underlying98 Tryz.underlying3 (Tryz.zeroValue3 _) B 186 D rfl hM4.out _ _ rfl hkey.out ?_; intro c hatc hwc)
    go_ret
    exact ⟨by rw [hfin.out]; rfl, rfl⟩
  | some i =>
    have hhas' : Maps.has D (.string f.data.toList) = true := by have := hV'.out.2.1; rw [hrow] at this; exact this
    have hati' : Hid (D.atKey (.string f.data.toList) (.lit (.int .i64 0)) = .lit (.int .i64 (i.1 : Int))) := hV'.out.2.2 i hrow _
    have hfin : Hid (canN f = (rowL i).1) := by unfold Hid canN; rw [hrow]
    obtain ⟨c0, _, _⟩ := hbk'.out.cells i
    have i0 : (0 : Int) ≤ (i.1 : Int) := Int.natCast_nonneg _
    have i1 : (i.1 : Int) < 62 := by have := i.2; omega
    clear hV'
    go_enter Tryz.func63, Tryz.ntmps63
    go_wp2_with (at_lookup; refine wpList_lookup_own_ok_int _ rfl _ _ 98 rfl 9 3 .i64 (Maps.string_keyed Tryz.underlying9) Tryz.underlying98 Tryz.underlying3 (Tryz.zeroValue3 _) B 186 D rfl hM4.out _ _ rfl hkey.out ?_; intro c hatc hwc; obtain rfl : c = (i.1 : Int) := (by rw [hati'.out] at hatc; injection hatc with hatc; injection hatc with _ hatc; exact hatc.symm))
    go_ret
    exact ⟨by rw [hfin.out]; rfl, rfl⟩

/-- What the map says of a text, as a number. -/
theorem atNo (zs : List ByteArray) (f : ByteArray) (hf : f ∈ zs) : (mapD zs (upF 62)).atKey (.string f.data.toList) (.lit (.int .i64 0)) = .lit (.int .i64 (noN f : Int)) := by
  have hV := view_all zs f hf
  unfold noN
  cases hrow : rowOf f with
  | none =>
    rw [hrow] at hV
    have h := hV.2.1
    exact Maps.atKey_of_not_has h _
  | some i => exact hV.2.2 i hrow _

end Go.Proofs.YtfmhcgadgakbhaaGreatDoor

namespace Go.Proofs.YtfmhcgadgakbhaaGreatDoor
open Go.RowKit

/-- The options from e on, behind those that were read: the options, the place, whether all is whole. -/
def dscE (s : ByteArray) : Nat → Nat → List (List UInt8) → List (List UInt8) × Nat × Bool
  | 0, e, _ => ([], e, false)
  | n + 1, e, acc =>
    if e < s.size then
      if (s.data.toList.getD e 0).toNat = 59 then
        if runE isK s.data.toList (e + 1) = e + 1 then ([], e + 1, false)
        else dscE s n (runE isK s.data.toList (e + 1)) (acc ++ [(s.extract (e + 1) (runE isK s.data.toList (e + 1))).data.toList])
      else ([], e, false)
    else (acc, e, true)
theorem results_tmp4 {fn : Func} {t u v x : Tmp} (h : fn.results = #[.tmp t, .tmp u, .tmp v, .tmp x]) (tmps : Array Value) (P : Program) (w : World) :
    (results fn tmps).run P w = .ok (.tuple #[tmps.getD t undef, tmps.getD u undef, tmps.getD v undef, tmps.getD x undef]) w := by
  simp [results, h]
/-- What readDesc answers. -/
def DescIs (W : World) (B : Nat) (s : ByteArray) (p : Nat) (r : List (List UInt8) × Nat × Bool) (e : Ending) : Prop :=
  (r.2.2 = true ∧ ∃ v, e = .returned (.tuple #[.string (s.extract 0 p), v, .int .i64 (r.2.1 : Int), .bool true]) ∧ OwnS W B v r.1) ∨
  (r.2.2 = false ∧ e = .returned (.tuple #[.string ⟨#[]⟩, .slice none 0 0, .int .i64 (r.2.1 : Int), .bool false]))
end Go.Proofs.YtfmhcgadgakbhaaGreatDoor

namespace Go.Proofs.YtfmhcgadgakbhaaGreatDoor
open Go.RowKit
open TextMath (fold lo)
set_option linter.unusedVariables false

theorem ext_full (s : ByteArray) : s.extract 0 s.size = s := by
  have h : (s.extract 0 s.size).data.toList = s.data.toList := by
    rw [Lib.extract_data]
    simp
    rw [List.take_of_length_le]
    rw [size_l]
    exact Nat.le_refl _
  rw [← S_of (s.extract 0 s.size), h, S_of]
/-- A text that is a type and nothing else. -/
def Typ (f : ByteArray) : Prop := (typE f.data.toList).1 = f.size ∧ (typE f.data.toList).2 = true

/-- The book of one asked text, laid down: what the calls over it may lean on. -/
theorem fold_size (s : ByteArray) : (S (fold s.data.toList)).size = s.size := by
  rw [S_size]
  unfold fold
  rw [List.length_map, size_l]

/-- The syntax of a type. -/
def synN (f : ByteArray) : Int := match rowOf f with
  | none => 0
  | some i => SYN.getD i.1 0
theorem field_book (B : Nat) (W : World) : (Instr.field 100 (.agg (bkC B (upF 62))) 1).run Tryz.prog W = .ok (.map (some B)) W := by kernel_rfl

end Go.Proofs.YtfmhcgadgakbhaaGreatDoor

namespace Go.Proofs.YtfmhcgadgakbhaaGreatDoor
open Go.RowKit
open TextMath (fold lo)
set_option linter.unusedVariables false

theorem map_below {w w' : World} {R : Value → Option (DataW Nat × List MemPlace)} {b n : Nat} {D : DataW Nat} (h : w.ownsMap Tryz.prog 9 R b n D) (hb : Below w.heap.size w w') : w'.ownsMap Tryz.prog 9 R b n D := by
  have hlt := h.lt
  obtain ⟨es, clock, h0, h1⟩ := h
  exact ⟨es, clock, by rw [hb.block b hlt]; exact h0, h1⟩
theorem con_two (e f : ByteArray) (g : Nat) (w : World) (hg : w.cell? ⟨g, 0, none⟩ = some (.string e)) (hg1 : w.cell? ⟨g, 1, none⟩ = some (.string f)) : ∀ W x, Below w.heap.size w W → Hid (Calls Tryz.prog 40 #[.slice (some ⟨g, 0, none⟩) 2 2, .string x] W fun r w' => r = .returned (.bool (Lib.containsS [e, f] x)) ∧ w' = W) := fun W x hb => by
  have h := Tryz.slices_Contains_string g 0 2 2 [e, f] x W (by simp) (by decide) (fun j hj => by
    have : j = 0 ∨ j = 1 := by simp at hj; omega
    rcases this with rfl | rfl
    · rw [hb.cell (World.block_lt_of_cell? w _ hg)]; exact hg
    · rw [hb.cell (World.block_lt_of_cell? w _ hg1)]; exact hg1)
  exact h
theorem openBook_two (e f : ByteArray) (g : Nat) (w : World) (hg : w.cell? ⟨g, 0, none⟩ = some (.string e)) (hg1 : w.cell? ⟨g, 1, none⟩ = some (.string f)) :
    Calls Tryz.prog 62 #[.slice (some ⟨g, 0, none⟩) 2 2] w fun r w' => ∃ B cs, w.heap.size ≤ B ∧ r = .returned (.agg cs) ∧ Hid (bkC B (upF 62) = cs) ∧ cs.size = 187 ∧ (∀ v ∈ cs.toList, v.oneCell' = true) ∧ cs[186]? = some (.map (some B)) ∧ Hid (w'.ownsMap Tryz.prog 9 (plainElem (H := Nat) Tryz.prog 3) B 186 (mapD [e, f] (upF 62))) ∧ Below w.heap.size w w' := by
  refine (openBook_any _ 2 2 [e, f] w (con_two e f g w hg hg1)).mono ?_
  intro r w' h
  obtain ⟨B, h1, h2, h3, h4⟩ := h
  exact ⟨B, bkC B (upF 62), h1, h2, rfl, bkC_size _ _, bkC_one _ _, bkC_last _ _, h3, h4⟩
theorem contains_row (l : List (List UInt8)) (x : List UInt8) (a : Option Addr) (c : Nat) (w : World) (h : TRow w a l) (hl : l.length ≤ 4194304) :
    Calls Tryz.prog 40 #[.slice a l.length c, .string (S x)] w fun r w' => r = .returned (.bool (decide (x ∈ l))) ∧ w' = w := by
  by_cases h0 : l.length = 0
  · have := List.eq_nil_of_length_eq_zero h0
    subst this
    have h := Tryz.slices_Contains_string_empty a c (S x) w
    simpa using h
  · obtain ⟨g, rfl, _⟩ := h 0 (by omega)
    have hk := Tryz.slices_Contains_string g 0 l.length c (l.map S) (S x) w (by simp) (by omega) (fun j hj => by
      have hj' : j < l.length := by simpa using hj
      obtain ⟨g', e, hc⟩ := h j hj'
      injection e with e
      injection e with e1
      subst e1
      rw [Nat.zero_add, hc]
      simp [List.getD, hj'])
    have e : Lib.containsS ((l.map S).take l.length) (S x) = decide (x ∈ l) := by
      rw [List.take_of_length_le (by simp), Bool.eq_iff_iff, Lib.containsS_iff]
      simp
      constructor
      · rintro ⟨y, hy, e⟩
        have := S_inj _ _ e
        subst this
        exact hy
      · intro hx
        exact ⟨x, hx, rfl⟩
    rw [e] at hk
    exact hk

end Go.Proofs.YtfmhcgadgakbhaaGreatDoor

namespace Go.Proofs.YtfmhcgadgakbhaaGreatDoor
open Go.RowKit
open TextMath (fold lo)
set_option linter.unusedVariables false

/-- A description's type, and its options, its place, whether it is whole. -/
def typD (f : ByteArray) : ByteArray := f.extract 0 (typE f.data.toList).1
def desc (f : ByteArray) : List (List UInt8) × Nat × Bool := if (typE f.data.toList).2 = true then dscE f (f.size + 1) (typE f.data.toList).1 [] else ([], (typE f.data.toList).1, false)
theorem dscE_len (s : ByteArray) : ∀ n e acc, acc.length ≤ e → e ≤ s.size → (dscE s n e acc).1.length ≤ s.size ∧ ((∀ x ∈ acc, x.length ≤ s.size) → ∀ x ∈ (dscE s n e acc).1, x.length ≤ s.size)
  | 0, e, acc, h, he => by simp [dscE]
  | n + 1, e, acc, h, he => by
    unfold dscE
    split
    · rename_i hlt
      split
      · split
        · simp
        · rename_i hne
          have h1 := runE_le isK s.data.toList (e + 1) (by rw [size_l]; omega)
          rw [size_l] at h1
          have ih := dscE_len s n (runE isK s.data.toList (e + 1)) (acc ++ [(s.extract (e + 1) (runE isK s.data.toList (e + 1))).data.toList]) (by simp; omega) h1.2
          refine ⟨ih.1, fun ha => ih.2 ?_⟩
          intro x hx
          rcases List.mem_append.1 hx with hx | hx
          · exact ha x hx
          · rw [List.mem_singleton.1 hx, size_l]
            simp [ByteArray.size_extract]
            omega
      · simp
    · exact ⟨by show acc.length ≤ _; omega, fun ha => ha⟩
theorem desc_len (f : ByteArray) : (desc f).1.length ≤ f.size ∧ ∀ x ∈ (desc f).1, x.length ≤ f.size := by
  unfold desc
  split
  · have h := typE_le f.data.toList
    rw [size_l] at h
    have h2 := dscE_len f (f.size + 1) (typE f.data.toList).1 [] (by simp) h
    exact ⟨h2.1, h2.2 (by simp)⟩
  · simp
def DescQ (W : World) (B : Nat) (X : ByteArray) (r : List (List UInt8) × Nat × Bool) (e : Ending) : Prop :=
  (r.2.2 = true ∧ ∃ v, e = .returned (.tuple #[.string X, v, .int .i64 (r.2.1 : Int), .bool true]) ∧ OwnS W B v r.1) ∨
  (r.2.2 = false ∧ e = .returned (.tuple #[.string ⟨#[]⟩, .slice none 0 0, .int .i64 (r.2.1 : Int), .bool false]))
/-- What Covers answers. -/
def covB (fd fe : ByteArray) : Bool := (desc fd).2.2 && (desc fe).2.2 && holds (desc fe).1 (desc fd).1 && decide ((canN (typD fd)).data.toList ∈ lin (typD fe))
end Go.Proofs.YtfmhcgadgakbhaaGreatDoor

namespace Go.Proofs.YtfmhcgadgakbhaaGreatDoor
open Go.RowKit
open TextMath (fold lo)
set_option linter.unusedVariables false

theorem results_cell_tmp2 {fn : Func} {t u v : Tmp} {ty : TypeId} (h : fn.results = #[.cell t ty, .tmp u, .tmp v]) (tmps : Array Value) (P : Program) (w : World) (p : Addr) (x : Value) (hp : tmps.getD t undef = .pointer (some p)) (hl : (loadVar ty p).run P w = .ok x w) :
    (results fn tmps).run P w = .ok (.tuple #[x, tmps.getD u undef, tmps.getD v undef]) w := by
  have hp' : tmps[t]?.getD undef = .pointer (some p) := by rw [← hp]; simp
  simp [results, h, hp', asAddr, hl, Result.andThen]
theorem duo {W : World} {R : Nat} {t : TypeId} {a0 a1 : Value} (h : W.heap[R]? = some (.cells #[a0, a1] t (0, 0))) (v0 v1 : Value) :
    ∃ W', (W.setCell ⟨R, 0, none⟩ v0).setCell ⟨R, 1, none⟩ v1 = W' ∧ W'.heap[R]? = some (.cells #[v0, v1] t (0, 0)) ∧ (∀ y, y ≠ R → W'.heap[y]? = W.heap[y]?) ∧ ∀ B u, B ≤ R → Below B u W → Below B u W' := by
  refine ⟨_, rfl, Go.heap_setCell_same _ _ _ _ _ _ (Go.heap_setCell_same _ _ _ _ _ _ h), fun y hy => ?_, fun B u hB hu => ?_⟩
  · rw [Below.heap_setCell _ _ _ _ hy, Below.heap_setCell _ _ _ _ hy]
  · refine Below.setCell (Below.setCell hu ?_ _) ?_ _ <;> exact hB
/-- What Parse answers of a folded text. -/
def ParseIs (W : World) (B : Nat) (f : ByteArray) (e : Ending) : Prop :=
  ((desc f).2.2 = true ∧ ∃ v L, e = .returned (.tuple #[.agg #[.string (canN (typD f)), v], .int .i64 0, .int .i64 ((desc f).2.1 : Int)]) ∧ OwnS W B v (srt L) ∧ L.Nodup ∧ ∀ x, x ∈ L ↔ x ∈ (desc f).1) ∨
  ((desc f).2.2 = false ∧ e = .returned (.tuple #[.agg #[.string ⟨#[]⟩, .slice none 0 0], .int .i64 40, .int .i64 ((desc f).2.1 : Int)]))

end Go.Proofs.YtfmhcgadgakbhaaGreatDoor
