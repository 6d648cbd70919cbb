import Derived.Test.YteiikipldejeeaaDoorAtMapG
import Derived.Test.YteiikipldejeeaaDoorAtCanon
import Derived.Test.YteiikipldejeeaaDoorAtOwn
namespace Go.Proofs.YteiikipldejeeaaDoor
open Go.RowKit
set_option linter.unusedVariables false

/-- The table of the rows above, as it lies; that of the syntaxes. -/
def SupTab (W : World) : Prop := ∀ i, i < 62 → W.cell? ⟨3, i, none⟩ = some (.int .i64 (SUP.getD i 0))
def SynTab (W : World) : Prop := ∀ i, i < 62 → W.cell? ⟨1, i, none⟩ = some (.int .i64 (SYN.getD i 0))
theorem SupTab.below {w w' : World} (h : SupTab w) (hb : Below w.heap.size w w') : SupTab w' := fun i hi => by
  rw [hb.cell (World.block_lt_of_cell? w _ (h i hi))]; exact h i hi
theorem SynTab.below {w w' : World} (h : SynTab w) (hb : Below w.heap.size w w') : SynTab w' := fun i hi => by
  rw [hb.cell (World.block_lt_of_cell? w _ (h i hi))]; exact h i hi
/-- A row's name; the number of the row above. -/
def nmN (n : Nat) : List UInt8 := if h : n < 62 then (rowL ⟨n, h⟩).1.data.toList else []
def upN (n : Nat) : Nat := (SUP.getD n 0).toNat
/-- The names from a row on upwards; 0: none. -/
def chn : Nat → Nat → List (List UInt8)
  | 0, _ => []
  | k + 1, n => if n = 0 then [] else nmN n :: chn k (upN n)
theorem up_lt : ∀ n : Fin 62, SUP.getD n.val 0 = (upN n.val : Int) ∧ upN n.val < 62 := by decide +kernel
theorem chn_step : ∀ n : Fin 62, ¬ n.val = 0 → chn 3 n.val = nmN n.val :: chn 3 (upN n.val) := by decide +kernel
theorem chn_len : ∀ n : Fin 62, (chn 3 n.val).length ≤ 3 := by decide +kernel
/-- The number of the row that a text names; 0, if it names none. -/
def noN (f : ByteArray) : Nat := match rowOf f with
  | none => 0
  | some i => i.1
theorem noN_lt (f : ByteArray) : noN f < 62 := by
  unfold noN
  cases rowOf f with
  | none => decide
  | some i => exact i.2
/-- What lineage answers of a folded text. -/
def lin (f : ByteArray) : List (List UInt8) := (canN f).data.toList :: chn 3 (upN (noN f))
theorem up_zero : upN 0 = 0 := by decide

set_option maxRecDepth 100000 in
set_option maxHeartbeats 400000 in
theorem canonicalG_any (zs : List ByteArray) (f : ByteArray) (hf : f ∈ zs) (b B : Nat) (W : World) (hbk : Book W b B) (hM : W.ownsMap Tryd.prog 9 (plainElem (H := Nat) Tryd.prog 3) B 186 (mapD zs (upF 62))) (hfz : f.size ≤ maxLen) :
    Calls Tryd.prog 21 #[.pointer (some ⟨b, 0, none⟩), .string f] W fun e w' => e = .returned (.string (canN f)) ∧ w' = W := by
  have hV := view_all zs f hf
  obtain ⟨D, hD⟩ : ∃ D, mapD zs (upF 62) = D := ⟨_, rfl⟩
  rw [hD] at hM hV
  have hM4 : Hid (W.ownsMap Tryd.prog 9 (plainElem (H := Nat) Tryd.prog 3) B 186 D) := hM
  have hkey : Hid (keyOf Tryd.prog 9 (.string f) = some (.string f.data.toList)) := key_str f hfz
  have q4 := hbk.map
  have hbk' : Hid (Book W b B) := hbk
  have hV' : Hid (View D f (rowOf f)) := hV
  clear hD hM hbk hV
  cases hrow : rowOf f with
  | none =>
    have hhas' : Maps.has D (.string f.data.toList) = false := by have := hV'.out.2.1; rw [hrow] at this; exact this
    have hfin : Hid (canN f = f) := by unfold Hid canN; rw [hrow]
    clear hV'
    go_enter Tryd.func21, Tryd.ntmps21
    go_wp2_with (at_lookup; refine wpList_lookup_own_ok_int _ rfl _ _ 51 rfl 9 3 .i64 (Maps.string_keyed Tryd.underlying9) Tryd.underlying51 Tryd.underlying3 (Tryd.zeroValue3 _) B 186 D rfl hM4.out _ _ rfl hkey.out ?_; intro c hatc hwc)
    go_ret
    exact ⟨by rw [hfin.out]; rfl, rfl⟩
  | some i =>
    have hhas' : Maps.has D (.string f.data.toList) = true := by have := hV'.out.2.1; rw [hrow] at this; exact this
    have hati' : Hid (D.atKey (.string f.data.toList) (.lit (.int .i64 0)) = .lit (.int .i64 (i.1 : Int))) := hV'.out.2.2 i hrow _
    have hfin : Hid (canN f = (rowL i).1) := by unfold Hid canN; rw [hrow]
    obtain ⟨c0, _, _⟩ := hbk'.out.cells i
    have i0 : (0 : Int) ≤ (i.1 : Int) := Int.natCast_nonneg _
    have i1 : (i.1 : Int) < 62 := by have := i.2; omega
    clear hV'
    go_enter Tryd.func21, Tryd.ntmps21
    go_wp2_with (at_lookup; refine wpList_lookup_own_ok_int _ rfl _ _ 51 rfl 9 3 .i64 (Maps.string_keyed Tryd.underlying9) Tryd.underlying51 Tryd.underlying3 (Tryd.zeroValue3 _) B 186 D rfl hM4.out _ _ rfl hkey.out ?_; intro c hatc hwc; obtain rfl : c = (i.1 : Int) := (by rw [hati'.out] at hatc; injection hatc with hatc; injection hatc with _ hatc; exact hatc.symm))
    go_ret
    exact ⟨by rw [hfin.out]; rfl, rfl⟩

/-- What the map says of a text, as a number. -/
theorem atNo (zs : List ByteArray) (f : ByteArray) (hf : f ∈ zs) : (mapD zs (upF 62)).atKey (.string f.data.toList) (.lit (.int .i64 0)) = .lit (.int .i64 (noN f : Int)) := by
  have hV := view_all zs f hf
  unfold noN
  cases hrow : rowOf f with
  | none =>
    rw [hrow] at hV
    have h := hV.2.1
    exact Maps.atKey_of_not_has h _
  | some i => exact hV.2.2 i hrow _

set_option maxRecDepth 100000 in
set_option maxHeartbeats 1000000 in
theorem lineage_any (zs : List ByteArray) (f : ByteArray) (hf : f ∈ zs) (b B : Nat) (W : World) (hbk : Book W b B) (hM : W.ownsMap Tryd.prog 9 (plainElem (H := Nat) Tryd.prog 3) B 186 (mapD zs (upF 62))) (hfz : f.size ≤ maxLen) (hS : SupTab W) :
    Calls Tryd.prog 20 #[.pointer (some ⟨b, 0, none⟩), .string f] W fun e w' => ∃ v, e = .returned v ∧ OwnS w' W.heap.size v (lin f) ∧ Below W.heap.size W w' := by
  have hC := canonicalG_any zs f hf b B W hbk hM hfz
  have hat : Hid ((mapD zs (upF 62)).atKey (.string f.data.toList) (.lit (.int .i64 0)) = .lit (.int .i64 (noN f : Int))) := atNo zs f hf
  obtain ⟨D, hD⟩ : ∃ D, mapD zs (upF 62) = D := ⟨_, rfl⟩
  rw [hD] at hM hat
  have hM4 : Hid (W.ownsMap Tryd.prog 9 (plainElem (H := Nat) Tryd.prog 3) B 186 D) := hM
  have hkey : Hid (keyOf Tryd.prog 9 (.string f) = some (.string f.data.toList)) := key_str f hfz
  have hbk' : Hid (Book W b B) := hbk
  have hS' : Hid (SupTab W) := hS
  have hn := noN_lt f
  have hlin : Hid (lin f = [(canN f).data.toList] ++ chn 3 (upN (noN f))) := rfl
  have hu := up_lt ⟨noN f, hn⟩
  have hup : SUP.getD (noN f) 0 = (upN (noN f) : Int) := hu.1
  have hul : upN (noN f) < 62 := hu.2
  clear hD hM hbk hS hu
  generalize noN f = n0 at *
  obtain ⟨C, hCd⟩ : ∃ C, canN f = C := ⟨_, rfl⟩
  rw [hCd] at hC hlin
  clear hCd
  -- the list with its first text
  obtain ⟨W1, hW1⟩ : ∃ W1, W.alloc (.cells #[.string C] 9) = W1 := ⟨_, rfl⟩
  have HB1 : Below W.heap.size W W1 := by rw [← hW1]; exact (Below.refl _ _).alloc (Nat.le_refl _) _
  have hb1 : W1.heap[W.heap.size]? = some (.cells #[.string C] 9 (0, 0)) := by rw [← hW1]; exact heap_alloc_new W _
  have ho1 : OwnS W1 W.heap.size (.slice (some ⟨W.heap.size, 0, none⟩) 1 1) [C.data.toList] := by
    refine ⟨rfl, Or.inr ⟨W.heap.size, 1, #[.string C], rfl, Nat.le_refl _, hb1, Nat.le_refl _, by unfold maxLen; omega, rfl, ?_⟩⟩
    simp [sv, S_of]
  have hM1 : Hid (W1.ownsMap Tryd.prog 9 (plainElem (H := Nat) Tryd.prog 3) B 186 D) := by
    unfold Hid; rw [← hW1]; exact hM4.out.kept (World.grownBy_alloc W _ none) (by simp)
  have hbk1 : Hid (Book W1 b B) := hbk'.out.below HB1
  have hS1 : Hid (SupTab W1) := hS'.out.below HB1
  have q4 := hbk1.out.map
  have qs := hS1.out n0 hn
  rw [hup] at qs
  have n0' : (0 : Int) ≤ (n0 : Int) := Int.natCast_nonneg _
  have n1' : (n0 : Int) < 62 := by omega
  have ho1' : Hid (OwnS W1 W.heap.size (.slice (some ⟨W.heap.size, 0, none⟩) 1 1) [C.data.toList]) := ho1
  have HB1' : Hid (Below W.heap.size W W1) := HB1
  clear ho1 HB1 hb1 hM4 hup hn
  go_enter Tryd.func20, Tryd.ntmps20
  go_wp2_with (first
    | (go_at_call 21; refine hC.mono ?_; rintro e w' ⟨rfl, rfl⟩)
    | (at_lookup; refine wpList_lookup_own_int _ rfl _ _ 51 rfl 9 3 .i64 (Maps.string_keyed Tryd.underlying9) Tryd.underlying51 Tryd.underlying3 (Tryd.zeroValue3 _) B 186 D rfl hM1.out _ _ rfl hkey.out ?_; intro c hatc hwc; obtain rfl : c = (n0 : Int) := (by rw [hat.out] at hatc; injection hatc with hatc; injection hatc with _ hatc; exact hatc.symm)))
  clear hC hat hkey q4 qs hM1 hW1 hbk1 hS1
  go_loopw [5, 6] (fun lv nv wr => ∃ (n : Nat) (L : List (List UInt8)) (va : Option Addr) (vn vc : Nat), n < 62 ∧ nv = .int .i64 (n : Int) ∧ lv = .slice va vn vc ∧ Hid (OwnS wr w'.heap.size (.slice va vn vc) L ∧ L.length + (chn 3 n).length ≤ 4) ∧ Hid (Below w'.heap.size w' wr) ∧ Hid (lin f = L ++ chn 3 n)) (fun _ nv _ => (chn 3 (intOf nv).toNat).length)
  case atStart =>
    refine ⟨upN n0, [C.data.toList], _, _, _, hul, rfl, rfl, ⟨ho1'.out, ?_⟩, HB1', hlin.out⟩
    have h3 : (chn 3 (upN n0)).length ≤ 3 := chn_len ⟨upN n0, hul⟩
    simp only [List.length_singleton]
    omega
  case round =>
    clear ho1' HB1' hlin hul
    obtain ⟨n, L, va, vn, vc, hn, rfl, rfl, hO, hW, hL⟩ := hrel
    by_cases h0 : n = 0
    · have hfin : Hid (lin f = L) := by
        unfold Hid
        rw [hL.out, h0]
        simp [chn]
      have e0 : ((n : Int) != 0) = false := by rw [h0]; rfl
      clear hL h0
      go_wp2_with fail
      go_ret
      exact ⟨_, rfl, by rw [hfin.out]; exact hO.out.1, hW.out⟩
    · have hstep := chn_step ⟨n, hn⟩ h0
      have hup := up_lt ⟨n, hn⟩
      have e0 : ((n : Int) != 0) = true := by simp; omega
      have n0 : (0 : Int) ≤ (n : Int) := Int.natCast_nonneg _
      have n1 : (n : Int) < 62 := by omega
      obtain ⟨c0, _, _⟩ := (hbk'.out.below hW.out).cells ⟨n, hn⟩
      have hnm : nmN n = (rowL ⟨n, hn⟩).1.data.toList := by unfold nmN; rw [dif_pos hn]
      have c0' : wr.cell? ⟨b, n * 3, none⟩ = some (.string (S (nmN n))) := by rw [hnm, S_of]; exact c0
      have hLl := hO.out.2
      have hstep' : chn 3 n = nmN n :: chn 3 (upN n) := hstep
      rw [hstep'] at hLl
      have hL' : Hid (lin f = (L ++ [nmN n]) ++ chn 3 (upN n)) := by unfold Hid; rw [hL.out, hstep']; simp
      have hLl' : Hid (L.length + 1 + (chn 3 (upN n)).length ≤ 4) := by unfold Hid; simp only [List.length_cons] at hLl; omega
      have hms : Hid ((chn 3 (upN n)).length < (chn 3 n).length) := by unfold Hid; rw [hstep']; simp
      obtain ⟨wA, hwA⟩ : ∃ wA, wr.alloc (.cells #[.string (S (nmN n))] 9) = wA := ⟨_, rfl⟩
      have hA : Hid (wA.heap[wr.heap.size]? = some (.cells #[.string (S (nmN n))] 9 (0, 0)) ∧ Below w'.heap.size w' wA ∧ OwnS wA w'.heap.size (.slice va vn vc) L) := by
        refine ⟨?_, ?_, ?_⟩
        · rw [← hwA]; exact heap_alloc_new wr _
        · rw [← hwA]; exact hW.out.alloc hW.out.size _
        · rw [← hwA]; exact World.ownsRow.alloc hO.out.1 _
      have hul : upN n < 62 := hup.2
      have hupE : Hid (SUP.getD n 0 = (upN n : Int)) := hup.1
      have hSn : Hid (w'.cell? ⟨3, n, none⟩ = some (.int .i64 (upN n : Int))) := by unfold Hid; rw [← hupE.out]; exact hS'.out n hn
      clear hstep hstep' hLl hL c0 hnm
      generalize nmN n = m at *
      go_wp2_with (at_builtin; refine push_text _ rfl _ _ rfl w'.heap.size _ L m wr.heap.size rfl rfl ?_ ?_ ?_ ?_ ?_; (exact hA.out.2.2); (exact hA.out.1); (exact hA.out.2.1.size); (have := hLl'.out; omega); intro g2 cap2 w2 ho2 hg2 _ hb2; have HB2 : Hid (Below w'.heap.size w' w2) := hA.out.2.1.trans hb2; have qs : w2.cell? ⟨3, n, none⟩ = some (.int .i64 (upN n : Int)) := (HB2.out.cell (World.block_lt_of_cell? _ _ hSn.out)).trans hSn.out)
      go_roundw
      case rel =>
        refine ⟨upN n, L ++ [m], _, _, _, hul, rfl, rfl, ⟨ho2, ?_⟩, HB2, hL'.out⟩
        have := hLl'.out
        rw [List.length_append, List.length_singleton]
        exact this
      case measure =>
        simp [intOf]
        exact hms.out
end Go.Proofs.YteiikipldejeeaaDoor
