import Derived.Test.YtdeeegocjgikoaaDoorK5
import Derived.Test.YtdeeegocjgikoaaDoorK4
import Derived.Test.YtdeeegocjgikoaaDoorK1
import Derived.Shelf.Abstract
namespace Go.Proofs.YtdeeegocjgikoaaDoor
open Go.RowKit

/-- The canonical type of a folded text. -/
def canN (f : ByteArray) : ByteArray := match rowOf f with
  | none => f
  | some i => (rowL i).1
set_option maxRecDepth 100000 in
set_option maxHeartbeats 400000 in
theorem canonical_any (f : ByteArray) (b B : Nat) (W : World) (hbk : Book W b B) (hM : W.ownsMap Tryd.prog 9 (plainElem (H := Nat) Tryd.prog 3) B 186 (mapD [f] (upF 62))) (hfz : f.size ≤ maxLen) :
    Calls Tryd.prog 40 #[.pointer (some ⟨b, 0, none⟩), .string f] W fun e w' => e = .returned (.string (canN f)) ∧ w' = W := by
  obtain ⟨D, hD⟩ : ∃ D, mapD [f] (upF 62) = D := ⟨_, rfl⟩
  have hhas := map_has f
  have hat := fun i h => map_at f i h (.lit (.int .i64 0))
  rw [hD] at hM hhas hat
  have hM4 : Hid (W.ownsMap Tryd.prog 9 (plainElem (H := Nat) Tryd.prog 3) B 186 D) := hM
  have hkey : Hid (keyOf Tryd.prog 9 (.string f) = some (.string f.data.toList)) := key_str f hfz
  have q4 := hbk.map
  have hbk' : Hid (Book W b B) := hbk
  clear hD hM hbk
  cases hrow : rowOf f with
  | none =>
    rw [hrow] at hhas
    have hhas' : Maps.has D (.string f.data.toList) = false := hhas
    have hfin : Hid (canN f = f) := by unfold Hid canN; rw [hrow]
    clear hhas hat
    go_enter Tryd.func40, Tryd.ntmps40
    go_wp2_with (at_lookup; refine wpList_lookup_own_ok_int _ rfl _ _ 65 rfl 9 3 .i64 (Maps.string_keyed Tryd.underlying9) Tryd.underlying65 Tryd.underlying3 (Tryd.zeroValue3 _) B 186 D rfl hM4.out _ _ rfl hkey.out ?_; intro c hatc hwc)
    go_ret
    exact ⟨by rw [hfin.out]; rfl, rfl⟩
  | some i =>
    rw [hrow] at hhas
    have hhas' : Maps.has D (.string f.data.toList) = true := hhas
    have hati := hat i hrow
    have hati' : Hid (D.atKey (.string f.data.toList) (.lit (.int .i64 0)) = .lit (.int .i64 (i.1 : Int))) := hati
    have hfin : Hid (canN f = (rowL i).1) := by unfold Hid canN; rw [hrow]
    obtain ⟨c0, _, _⟩ := hbk'.out.cells i
    have i0 : (0 : Int) ≤ (i.1 : Int) := Int.natCast_nonneg _
    have i1 : (i.1 : Int) < 62 := by have := i.2; omega
    clear hhas hat hati
    go_enter Tryd.func40, Tryd.ntmps40
    go_wp2_with (at_lookup; refine wpList_lookup_own_ok_int _ rfl _ _ 65 rfl 9 3 .i64 (Maps.string_keyed Tryd.underlying9) Tryd.underlying65 Tryd.underlying3 (Tryd.zeroValue3 _) B 186 D rfl hM4.out _ _ rfl hkey.out ?_; intro c hatc hwc; obtain rfl : c = (i.1 : Int) := (by rw [hati'.out] at hatc; injection hatc with hatc; injection hatc with _ hatc; exact hatc.symm))
    go_ret
    exact ⟨by rw [hfin.out]; rfl, rfl⟩
end Go.Proofs.YtdeeegocjgikoaaDoor

namespace Go.Proofs.YtdeeegocjgikoaaDoor
open Go.RowKit
set_option linter.unusedVariables false

/-- The table of the rows above, as it lies; that of the syntaxes. -/
def SupTab (W : World) : Prop := ∀ i, i < 62 → W.cell? ⟨0, i, none⟩ = some (.int .i64 (SUP.getD i 0))
def SynTab (W : World) : Prop := ∀ i, i < 62 → W.cell? ⟨2, i, none⟩ = some (.int .i64 (SYN.getD i 0))
theorem SupTab.below {w w' : World} (h : SupTab w) (hb : Below w.heap.size w w') : SupTab w' := fun i hi => by
  rw [hb.cell (World.block_lt_of_cell? w _ (h i hi))]; exact h i hi
theorem SynTab.below {w w' : World} (h : SynTab w) (hb : Below w.heap.size w w') : SynTab w' := fun i hi => by
  rw [hb.cell (World.block_lt_of_cell? w _ (h i hi))]; exact h i hi
/-- A row's name; the number of the row above. -/
def nmN (n : Nat) : List UInt8 := if h : n < 62 then (rowL ⟨n, h⟩).1.data.toList else []
def upN (n : Nat) : Nat := (SUP.getD n 0).toNat
/-- The names from a row on upwards; 0: none. -/
def chn : Nat → Nat → List (List UInt8)
  | 0, _ => []
  | k + 1, n => if n = 0 then [] else nmN n :: chn k (upN n)
theorem up_lt : ∀ n : Fin 62, SUP.getD n.val 0 = (upN n.val : Int) ∧ upN n.val < 62 := by decide +kernel
theorem chn_step : ∀ n : Fin 62, ¬ n.val = 0 → chn 3 n.val = nmN n.val :: chn 3 (upN n.val) := by decide +kernel
theorem chn_len : ∀ n : Fin 62, (chn 3 n.val).length ≤ 3 := by decide +kernel
/-- The number of the row that a text names; 0, if it names none. -/
def noN (f : ByteArray) : Nat := match rowOf f with
  | none => 0
  | some i => i.1
theorem noN_lt (f : ByteArray) : noN f < 62 := by
  unfold noN
  cases rowOf f with
  | none => decide
  | some i => exact i.2
/-- What lineage answers of a folded text. -/
def lin (f : ByteArray) : List (List UInt8) := (canN f).data.toList :: chn 3 (upN (noN f))
theorem up_zero : upN 0 = 0 := by decide

set_option maxRecDepth 100000 in
set_option maxHeartbeats 400000 in
theorem canonicalG_any (zs : List ByteArray) (f : ByteArray) (hf : f ∈ zs) (b B : Nat) (W : World) (hbk : Book W b B) (hM : W.ownsMap Tryd.prog 9 (plainElem (H := Nat) Tryd.prog 3) B 186 (mapD zs (upF 62))) (hfz : f.size ≤ maxLen) :
    Calls Tryd.prog 40 #[.pointer (some ⟨b, 0, none⟩), .string f] W fun e w' => e = .returned (.string (canN f)) ∧ w' = W := by
  have hV := view_all zs f hf
  obtain ⟨D, hD⟩ : ∃ D, mapD zs (upF 62) = D := ⟨_, rfl⟩
  rw [hD] at hM hV
  have hM4 : Hid (W.ownsMap Tryd.prog 9 (plainElem (H := Nat) Tryd.prog 3) B 186 D) := hM
  have hkey : Hid (keyOf Tryd.prog 9 (.string f) = some (.string f.data.toList)) := key_str f hfz
  have q4 := hbk.map
  have hbk' : Hid (Book W b B) := hbk
  have hV' : Hid (View D f (rowOf f)) := hV
  clear hD hM hbk hV
  cases hrow : rowOf f with
  | none =>
    have hhas' : Maps.has D (.string f.data.toList) = false := by have := hV'.out.2.1; rw [hrow] at this; exact this
    have hfin : Hid (canN f = f) := by unfold Hid canN; rw [hrow]
    clear hV'
    go_enter Tryd.func40, Tryd.ntmps40
    go_wp2_with (at_lookup; refine wpList_lookup_own_ok_int _ rfl _ _ 65 rfl 9 3 .i64 (Maps.string_keyed Tryd.underlying9) Tryd.underlying65 Tryd.underlying3 (Tryd.zeroValue3 _) B 186 D rfl hM4.out _ _ rfl hkey.out ?_; intro c hatc hwc)
    go_ret
    exact ⟨by rw [hfin.out]; rfl, rfl⟩
  | some i =>
    have hhas' : Maps.has D (.string f.data.toList) = true := by have := hV'.out.2.1; rw [hrow] at this; exact this
    have hati' : Hid (D.atKey (.string f.data.toList) (.lit (.int .i64 0)) = .lit (.int .i64 (i.1 : Int))) := hV'.out.2.2 i hrow _
    have hfin : Hid (canN f = (rowL i).1) := by unfold Hid canN; rw [hrow]
    obtain ⟨c0, _, _⟩ := hbk'.out.cells i
    have i0 : (0 : Int) ≤ (i.1 : Int) := Int.natCast_nonneg _
    have i1 : (i.1 : Int) < 62 := by have := i.2; omega
    clear hV'
    go_enter Tryd.func40, Tryd.ntmps40
    go_wp2_with (at_lookup; refine wpList_lookup_own_ok_int _ rfl _ _ 65 rfl 9 3 .i64 (Maps.string_keyed Tryd.underlying9) Tryd.underlying65 Tryd.underlying3 (Tryd.zeroValue3 _) B 186 D rfl hM4.out _ _ rfl hkey.out ?_; intro c hatc hwc; obtain rfl : c = (i.1 : Int) := (by rw [hati'.out] at hatc; injection hatc with hatc; injection hatc with _ hatc; exact hatc.symm))
    go_ret
    exact ⟨by rw [hfin.out]; rfl, rfl⟩

/-- What the map says of a text, as a number. -/
theorem atNo (zs : List ByteArray) (f : ByteArray) (hf : f ∈ zs) : (mapD zs (upF 62)).atKey (.string f.data.toList) (.lit (.int .i64 0)) = .lit (.int .i64 (noN f : Int)) := by
  have hV := view_all zs f hf
  unfold noN
  cases hrow : rowOf f with
  | none =>
    rw [hrow] at hV
    have h := hV.2.1
    exact Maps.atKey_of_not_has h _
  | some i => exact hV.2.2 i hrow _

set_option maxRecDepth 100000 in
set_option maxHeartbeats 1000000 in
theorem lineage_any (zs : List ByteArray) (f : ByteArray) (hf : f ∈ zs) (b B : Nat) (W : World) (hbk : Book W b B) (hM : W.ownsMap Tryd.prog 9 (plainElem (H := Nat) Tryd.prog 3) B 186 (mapD zs (upF 62))) (hfz : f.size ≤ maxLen) (hS : SupTab W) :
    Calls Tryd.prog 47 #[.pointer (some ⟨b, 0, none⟩), .string f] W fun e w' => ∃ v, e = .returned v ∧ OwnS w' W.heap.size v (lin f) ∧ Below W.heap.size W w' := by
  have hC := canonicalG_any zs f hf b B W hbk hM hfz
  have hat : Hid ((mapD zs (upF 62)).atKey (.string f.data.toList) (.lit (.int .i64 0)) = .lit (.int .i64 (noN f : Int))) := atNo zs f hf
  obtain ⟨D, hD⟩ : ∃ D, mapD zs (upF 62) = D := ⟨_, rfl⟩
  rw [hD] at hM hat
  have hM4 : Hid (W.ownsMap Tryd.prog 9 (plainElem (H := Nat) Tryd.prog 3) B 186 D) := hM
  have hkey : Hid (keyOf Tryd.prog 9 (.string f) = some (.string f.data.toList)) := key_str f hfz
  have hbk' : Hid (Book W b B) := hbk
  have hS' : Hid (SupTab W) := hS
  have hn := noN_lt f
  have hlin : Hid (lin f = [(canN f).data.toList] ++ chn 3 (upN (noN f))) := rfl
  have hu := up_lt ⟨noN f, hn⟩
  have hup : SUP.getD (noN f) 0 = (upN (noN f) : Int) := hu.1
  have hul : upN (noN f) < 62 := hu.2
  clear hD hM hbk hS hu
  generalize noN f = n0 at *
  obtain ⟨C, hCd⟩ : ∃ C, canN f = C := ⟨_, rfl⟩
  rw [hCd] at hC hlin
  clear hCd
  -- the list with its first text
  obtain ⟨W1, hW1⟩ : ∃ W1, W.alloc (.cells #[.string C] 9) = W1 := ⟨_, rfl⟩
  have HB1 : Below W.heap.size W W1 := by rw [← hW1]; exact (Below.refl _ _).alloc (Nat.le_refl _) _
  have hb1 : W1.heap[W.heap.size]? = some (.cells #[.string C] 9 (0, 0)) := by rw [← hW1]; exact heap_alloc_new W _
  have ho1 : OwnS W1 W.heap.size (.slice (some ⟨W.heap.size, 0, none⟩) 1 1) [C.data.toList] := by
    refine ⟨rfl, Or.inr ⟨W.heap.size, 1, #[.string C], rfl, Nat.le_refl _, hb1, Nat.le_refl _, by unfold maxLen; omega, rfl, ?_⟩⟩
    simp [sv, S_of]
  have hM1 : Hid (W1.ownsMap Tryd.prog 9 (plainElem (H := Nat) Tryd.prog 3) B 186 D) := by
    unfold Hid; rw [← hW1]; exact hM4.out.kept (World.grownBy_alloc W _ none) (by simp)
  have hbk1 : Hid (Book W1 b B) := hbk'.out.below HB1
  have hS1 : Hid (SupTab W1) := hS'.out.below HB1
  have q4 := hbk1.out.map
  have qs := hS1.out n0 hn
  rw [hup] at qs
  have n0' : (0 : Int) ≤ (n0 : Int) := Int.natCast_nonneg _
  have n1' : (n0 : Int) < 62 := by omega
  have ho1' : Hid (OwnS W1 W.heap.size (.slice (some ⟨W.heap.size, 0, none⟩) 1 1) [C.data.toList]) := ho1
  have HB1' : Hid (Below W.heap.size W W1) := HB1
  clear ho1 HB1 hb1 hM4 hup hn
  go_enter Tryd.func47, Tryd.ntmps47
  go_wp2_with (first
    | (go_at_call 40; refine hC.mono ?_; rintro e w' ⟨rfl, rfl⟩)
    | (at_lookup; refine wpList_lookup_own_int _ rfl _ _ 65 rfl 9 3 .i64 (Maps.string_keyed Tryd.underlying9) Tryd.underlying65 Tryd.underlying3 (Tryd.zeroValue3 _) B 186 D rfl hM1.out _ _ rfl hkey.out ?_; intro c hatc hwc; obtain rfl : c = (n0 : Int) := (by rw [hat.out] at hatc; injection hatc with hatc; injection hatc with _ hatc; exact hatc.symm)))
  clear hC hat hkey q4 qs hM1 hW1 hbk1 hS1
  go_loopw [5, 6] (fun lv nv wr => ∃ (n : Nat) (L : List (List UInt8)) (va : Option Addr) (vn vc : Nat), n < 62 ∧ nv = .int .i64 (n : Int) ∧ lv = .slice va vn vc ∧ Hid (OwnS wr w'.heap.size (.slice va vn vc) L ∧ L.length + (chn 3 n).length ≤ 4) ∧ Hid (Below w'.heap.size w' wr) ∧ Hid (lin f = L ++ chn 3 n)) (fun _ nv _ => (chn 3 (intOf nv).toNat).length)
  case atStart =>
    refine ⟨upN n0, [C.data.toList], _, _, _, hul, rfl, rfl, ⟨ho1'.out, ?_⟩, HB1', hlin.out⟩
    have h3 : (chn 3 (upN n0)).length ≤ 3 := chn_len ⟨upN n0, hul⟩
    simp only [List.length_singleton]
    omega
  case round =>
    clear ho1' HB1' hlin hul
    obtain ⟨n, L, va, vn, vc, hn, rfl, rfl, hO, hW, hL⟩ := hrel
    by_cases h0 : n = 0
    · have hfin : Hid (lin f = L) := by
        unfold Hid
        rw [hL.out, h0]
        simp [chn]
      have e0 : ((n : Int) != 0) = false := by rw [h0]; rfl
      clear hL h0
      go_wp2_with fail
      go_ret
      exact ⟨_, rfl, by rw [hfin.out]; exact hO.out.1, hW.out⟩
    · have hstep := chn_step ⟨n, hn⟩ h0
      have hup := up_lt ⟨n, hn⟩
      have e0 : ((n : Int) != 0) = true := by simp; omega
      have n0 : (0 : Int) ≤ (n : Int) := Int.natCast_nonneg _
      have n1 : (n : Int) < 62 := by omega
      obtain ⟨c0, _, _⟩ := (hbk'.out.below hW.out).cells ⟨n, hn⟩
      have hnm : nmN n = (rowL ⟨n, hn⟩).1.data.toList := by unfold nmN; rw [dif_pos hn]
      have c0' : wr.cell? ⟨b, n * 3, none⟩ = some (.string (S (nmN n))) := by rw [hnm, S_of]; exact c0
      have hLl := hO.out.2
      have hstep' : chn 3 n = nmN n :: chn 3 (upN n) := hstep
      rw [hstep'] at hLl
      have hL' : Hid (lin f = (L ++ [nmN n]) ++ chn 3 (upN n)) := by unfold Hid; rw [hL.out, hstep']; simp
      have hLl' : Hid (L.length + 1 + (chn 3 (upN n)).length ≤ 4) := by unfold Hid; simp only [List.length_cons] at hLl; omega
      have hms : Hid ((chn 3 (upN n)).length < (chn 3 n).length) := by unfold Hid; rw [hstep']; simp
      obtain ⟨wA, hwA⟩ : ∃ wA, wr.alloc (.cells #[.string (S (nmN n))] 9) = wA := ⟨_, rfl⟩
      have hA : Hid (wA.heap[wr.heap.size]? = some (.cells #[.string (S (nmN n))] 9 (0, 0)) ∧ Below w'.heap.size w' wA ∧ OwnS wA w'.heap.size (.slice va vn vc) L) := by
        refine ⟨?_, ?_, ?_⟩
        · rw [← hwA]; exact heap_alloc_new wr _
        · rw [← hwA]; exact hW.out.alloc hW.out.size _
        · rw [← hwA]; exact World.ownsRow.alloc hO.out.1 _
      have hul : upN n < 62 := hup.2
      have hupE : Hid (SUP.getD n 0 = (upN n : Int)) := hup.1
      have hSn : Hid (w'.cell? ⟨0, n, none⟩ = some (.int .i64 (upN n : Int))) := by unfold Hid; rw [← hupE.out]; exact hS'.out n hn
      clear hstep hstep' hLl hL c0 hnm
      generalize nmN n = m at *
      go_wp2_with (at_builtin; refine push_text _ rfl _ _ rfl w'.heap.size _ L m wr.heap.size rfl rfl ?_ ?_ ?_ ?_ ?_; (exact hA.out.2.2); (exact hA.out.1); (exact hA.out.2.1.size); (have := hLl'.out; omega); intro g2 cap2 w2 ho2 hg2 _ hb2; have HB2 : Hid (Below w'.heap.size w' w2) := hA.out.2.1.trans hb2; have qs : w2.cell? ⟨0, n, none⟩ = some (.int .i64 (upN n : Int)) := (HB2.out.cell (World.block_lt_of_cell? _ _ hSn.out)).trans hSn.out)
      go_roundw
      case rel =>
        refine ⟨upN n, L ++ [m], _, _, _, hul, rfl, rfl, ⟨ho2, ?_⟩, HB2, hL'.out⟩
        have := hLl'.out
        rw [List.length_append, List.length_singleton]
        exact this
      case measure =>
        simp [intOf]
        exact hms.out
end Go.Proofs.YtdeeegocjgikoaaDoor

namespace Go.Proofs.YtdeeegocjgikoaaDoor
open Go.RowKit

/-- A small letter; a digit; a key character (of a folded text). -/
def isL (b : UInt8) : Bool := decide (97 ≤ (b.toNat : Int)) && decide ((b.toNat : Int) ≤ 122)
def isD (b : UInt8) : Bool := decide (48 ≤ (b.toNat : Int)) && decide ((b.toNat : Int) ≤ 57)
def isK (b : UInt8) : Bool := isL b || isD b || decide ((b.toNat : Int) = 45)
theorem letter_any (b : UInt8) (w : World) : Calls Tryd.prog 73 #[.int .u8 (b.toNat : Int)] w fun e w' => e = .returned (.bool (isL b)) ∧ w' = w := by
  unfold isL
  by_cases h1 : (97 : Int) ≤ b.toNat
  · by_cases h2 : (b.toNat : Int) ≤ 122
    · go_enter Tryd.func73, Tryd.ntmps73
      go_wp2_with fail
      go_ret
      exact ⟨ret_bool (by simp [h1, h2]), rfl⟩
    · go_enter Tryd.func73, Tryd.ntmps73
      go_wp2_with fail
      go_ret
      exact ⟨ret_bool (by simp [h2]), rfl⟩
  · go_enter Tryd.func73, Tryd.ntmps73
    go_wp2_with fail
    go_ret
    exact ⟨ret_bool (by simp; omega), rfl⟩
theorem digit_any (b : UInt8) (w : World) : Calls Tryd.prog 75 #[.int .u8 (b.toNat : Int)] w fun e w' => e = .returned (.bool (isD b)) ∧ w' = w := by
  unfold isD
  by_cases h1 : (48 : Int) ≤ b.toNat
  · by_cases h2 : (b.toNat : Int) ≤ 57
    · go_enter Tryd.func75, Tryd.ntmps75
      go_wp2_with fail
      go_ret
      exact ⟨ret_bool (by simp [h1, h2]), rfl⟩
    · go_enter Tryd.func75, Tryd.ntmps75
      go_wp2_with fail
      go_ret
      exact ⟨ret_bool (by simp [h2]), rfl⟩
  · go_enter Tryd.func75, Tryd.ntmps75
    go_wp2_with fail
    go_ret
    exact ⟨ret_bool (by simp; omega), rfl⟩
set_option maxHeartbeats 1000000 in
theorem key_any (b : UInt8) (w : World) : Calls Tryd.prog 57 #[.int .u8 (b.toNat : Int)] w fun e w' => e = .returned (.bool (isK b)) ∧ w' = w := by
  have hl : Hid (Calls Tryd.prog 73 #[.int .u8 (b.toNat : Int)] w fun e w' => e = .returned (.bool (isL b)) ∧ w' = w) := letter_any b w
  have hd : Hid (Calls Tryd.prog 75 #[.int .u8 (b.toNat : Int)] w fun e w' => e = .returned (.bool (isD b)) ∧ w' = w) := digit_any b w
  unfold isK
  generalize isL b = x at *
  generalize isD b = y at *
  cases x with
  | true =>
    go_enter Tryd.func57, Tryd.ntmps57
    go_wp2_with fail
    refine hl.out.mono ?_
    rintro e W1 ⟨rfl, rfl⟩
    go_wp2_with fail
    go_ret
    exact ⟨rfl, rfl⟩
  | false =>
    cases y with
    | true =>
      go_enter Tryd.func57, Tryd.ntmps57
      go_wp2_with fail
      refine hl.out.mono ?_
      rintro e W1 ⟨rfl, rfl⟩
      go_wp2_with fail
      refine hd.out.mono ?_
      rintro e W1 ⟨rfl, rfl⟩
      go_wp2_with fail
      go_ret
      exact ⟨rfl, rfl⟩
    | false =>
      go_enter Tryd.func57, Tryd.ntmps57
      go_wp2_with fail
      refine hl.out.mono ?_
      rintro e W1 ⟨rfl, rfl⟩
      go_wp2_with fail
      refine hd.out.mono ?_
      rintro e W1 ⟨rfl, rfl⟩
      by_cases h : (b.toNat : Int) = 45
      · go_wp2_with fail
        go_ret
        exact ⟨ret_bool (by simp [h]), rfl⟩
      · go_wp2_with fail
        go_ret
        exact ⟨ret_bool (by simp [h]), rfl⟩

/-- Where the bytes of a kind from b on end. -/
def runE (p : UInt8 → Bool) (l : List UInt8) (b : Nat) : Nat := b + ((l.drop b).takeWhile p).length
theorem runE_on (p : UInt8 → Bool) (l : List UInt8) (b : Nat) (h : b < l.length) (hp : p l[b] = true) : runE p l b = runE p l (b + 1) := by
  unfold runE
  rw [List.drop_eq_getElem_cons h, List.takeWhile_cons, if_pos hp, List.length_cons]
  omega
theorem runE_off (p : UInt8 → Bool) (l : List UInt8) (b : Nat) (h : b < l.length) (hp : p l[b] = false) : runE p l b = b := by
  unfold runE
  rw [List.drop_eq_getElem_cons h, List.takeWhile_cons, if_neg (by rw [hp]; decide)]
  rfl
theorem runE_end (p : UInt8 → Bool) (l : List UInt8) (b : Nat) (h : l.length ≤ b) : runE p l b = b := by
  unfold runE
  rw [List.drop_eq_nil_of_le h]
  rfl
set_option maxHeartbeats 400000 in
theorem runEnd_any (p : UInt8 → Bool) (q : FuncId) (hent : ∀ args W, (callFunc q args).run Tryd.prog W = .ok (.enter q args) W)
    (hq : ∀ (b : UInt8) (w : World), Calls Tryd.prog q #[.int .u8 (b.toNat : Int)] w fun e w' => e = .returned (.bool (p b)) ∧ w' = w)
    (s : ByteArray) (b : Nat) (w : World) (hb : b ≤ s.size) (hs : s.size ≤ 140737488355328) :
    Calls Tryd.prog 56 #[.string s, .int .i64 (b : Int), .func (.func q) #[] #[]] w fun e w' => e = .returned (.int .i64 (runE p s.data.toList b : Int)) ∧ w' = w := by
  have hq' : ∀ b w, Hid (Calls Tryd.prog q #[.int .u8 (UInt8.toNat b : Int)] w fun e w' => e = .returned (.bool (p b)) ∧ w' = w) := hq
  clear hq
  obtain ⟨r, hr⟩ : ∃ r, runE p s.data.toList b = r := ⟨_, rfl⟩
  have hL : Hid (s.data.toList.length = s.size) := size_l s
  rw [hr]
  have hr' : Hid (runE p s.data.toList b = r) := hr
  clear hr
  go_enter Tryd.func56, Tryd.ntmps56
  go_wp2_with fail
  go_loopw [7] (fun iv wr => ∃ k : Nat, k ≤ s.size ∧ iv = .int .i64 (k : Int) ∧ Hid (wr = w) ∧ Hid (runE p s.data.toList k = r)) (fun iv _ => s.size - (intOf iv).toNat)
  case atStart => exact ⟨b, hb, rfl, rfl, hr'⟩
  case round =>
    obtain ⟨k, hk, rfl, hw, hrk⟩ := hrel
    by_cases hlt : k < s.size
    · have hkl : k < s.data.toList.length := by rw [hL.out]; exact hlt
      have hget : s.data.toList[k] = s[k] := rfl
      have hc := hq' s[k] wr
      have hon := runE_on p s.data.toList k hkl
      have hoff := runE_off p s.data.toList k hkl
      rw [hget] at hon hoff
      have hon' : Hid (p s[k] = true → runE p s.data.toList k = runE p s.data.toList (k + 1)) := hon
      have hoff' : Hid (p s[k] = false → runE p s.data.toList k = k) := hoff
      clear hon hoff hget
      generalize hpx : p s[k] = x at *
      clear hpx
      go_wp2_with fail
      refine hc.out.mono ?_
      rintro e W1 ⟨rfl, hW1⟩
      have hw1 : Hid (W1 = w) := by unfold Hid; rw [hW1]; exact hw.out
      clear hW1 hc
      cases x with
      | true =>
        have hnx : Hid (runE p s.data.toList (k + 1) = r) := by unfold Hid; rw [← hon'.out rfl]; exact hrk.out
        have hlt' : Hid (k < s.size) := hlt
        go_wp2_with fail
        refine ⟨⟨k + 1, hlt'.out, by simp, hw1, hnx⟩, ?_⟩
        have := hlt'.out
        simp [intOf]
        omega
      | false =>
        have hfin : Hid (r = k) := by unfold Hid; rw [← hrk.out]; exact hoff'.out rfl
        go_wp2_with fail
        go_ret
        exact ⟨ret_int (by rw [hfin.out]), hw1.out⟩
    · have hke : k = s.size := by omega
      have hfin : Hid (r = k) := by unfold Hid; rw [← hrk.out]; exact runE_end _ _ _ (by rw [hL.out]; omega)
      go_wp2_with fail
      go_ret
      exact ⟨ret_int (by rw [hfin.out]), hw.out⟩
end Go.Proofs.YtdeeegocjgikoaaDoor

namespace Go.Proofs.YtdeeegocjgikoaaDoor
open Go.RowKit

theorem runE_le (p : UInt8 → Bool) (l : List UInt8) (b : Nat) (h : b ≤ l.length) : b ≤ runE p l b ∧ runE p l b ≤ l.length := by
  unfold runE
  have h1 : ((l.drop b).takeWhile p).length ≤ (l.drop b).length := (List.takeWhile_prefix p).length_le
  rw [List.length_drop] at h1
  omega
/-- Where the number that begins at b ends. -/
def numE (l : List UInt8) (b : Nat) : Nat := if (l.getD b 0).toNat = 48 ∧ b < l.length then b + 1 else runE isD l b
theorem numE_le (l : List UInt8) (b : Nat) (h : b ≤ l.length) : b ≤ numE l b ∧ numE l b ≤ l.length := by
  unfold numE
  split
  · rename_i h'
    omega
  · exact runE_le _ _ _ h
theorem enter_digit : ∀ args W, (callFunc 75 args).run Tryd.prog W = .ok (.enter 75 args) W := enters_of Tryd.func75 (by kernel_rfl) rfl
theorem enter_key : ∀ args W, (callFunc 57 args).run Tryd.prog W = .ok (.enter 57 args) W := enters_of Tryd.func57 (by kernel_rfl) rfl
set_option maxHeartbeats 400000 in
theorem numberEnd_any (s : ByteArray) (b : Nat) (w : World) (hb : b ≤ s.size) (hs : s.size ≤ 140737488355328) :
    Calls Tryd.prog 86 #[.string s, .int .i64 (b : Int)] w fun e w' => e = .returned (.int .i64 (numE s.data.toList b : Int)) ∧ w' = w := by
  have hr : Hid (Calls Tryd.prog 56 #[.string s, .int .i64 (b : Int), .func (.func 75) #[] #[]] w fun e w' => e = .returned (.int .i64 (runE isD s.data.toList b : Int)) ∧ w' = w) := runEnd_any isD _ enter_digit digit_any s b w hb hs
  by_cases hlt : b < s.size
  · have hg := getD_s s b hlt
    by_cases h0 : s[b].toNat = 48
    · have hn : Hid (numE s.data.toList b = b + 1) := by unfold Hid numE; rw [if_pos ⟨by rw [hg]; exact h0, by rw [size_l]; exact hlt⟩]
      clear hg
      go_enter Tryd.func86, Tryd.ntmps86
      go_wp2_with fail
      go_ret
      exact ⟨ret_int (by rw [hn.out]; simp), rfl⟩
    · have hn : Hid (numE s.data.toList b = runE isD s.data.toList b) := by unfold Hid numE; rw [if_neg (by rw [hg]; exact fun h => h0 h.1)]
      clear hg
      go_enter Tryd.func86, Tryd.ntmps86
      go_wp2_with fail
      refine hr.out.mono ?_
      rintro e W1 ⟨rfl, rfl⟩
      go_wp2_with fail
      go_ret
      exact ⟨ret_int (by rw [hn.out]), rfl⟩
  · have hn : Hid (numE s.data.toList b = runE isD s.data.toList b) := by unfold Hid numE; rw [if_neg (by rw [size_l]; exact fun h => hlt h.2)]
    go_enter Tryd.func86, Tryd.ntmps86
    go_wp2_with fail
    refine hr.out.mono ?_
    rintro e W1 ⟨rfl, rfl⟩
    go_wp2_with fail
    go_ret
    exact ⟨ret_int (by rw [hn.out]), rfl⟩
/-- How far an identifier reaches from e on, where m numbers are begun; whether it is whole. -/
def idE (l : List UInt8) : Nat → Nat → Nat → Nat × Bool
  | 0, _, e => (e, false)
  | n + 1, m, e => if numE l e = e then (e, false) else if numE l e = l.length ∨ ¬ (l.getD (numE l e) 0).toNat = 46 then (numE l e, decide (2 ≤ m)) else idE l n (m + 1) (numE l e + 1)
theorem ret_pair {a b : Int} {x y : Bool} (h : a = b) (h' : x = y) : Ending.returned (.tuple #[.int .i64 a, .bool x]) = .returned (.tuple #[.int .i64 b, .bool y]) := by rw [h, h']
set_option maxHeartbeats 1000000 in
theorem identifierEnd_any (s : ByteArray) (w : World) (hs : s.size ≤ 140737488355328) :
    Calls Tryd.prog 74 #[.string s] w fun e w' => e = .returned (.tuple #[.int .i64 ((idE s.data.toList (s.size + 1) 1 0).1 : Int), .bool (idE s.data.toList (s.size + 1) 1 0).2]) ∧ w' = w := by
  obtain ⟨r, hr⟩ : ∃ r, idE s.data.toList (s.size + 1) 1 0 = r := ⟨_, rfl⟩
  have hL : Hid (s.data.toList.length = s.size) := size_l s
  rw [hr]
  have hr' : Hid (idE s.data.toList (s.size + 1 - 0) 1 0 = r) := hr
  clear hr
  go_enter Tryd.func74, Tryd.ntmps74
  go_wp2_with fail
  go_loopw [2, 4] (fun iv mv wr => ∃ k m n : Nat, k ≤ s.size ∧ m ≤ k + 1 ∧ iv = .int .i64 (k : Int) ∧ mv = .int .i64 (m : Int) ∧ Hid (wr = w) ∧ Hid (s.size + 1 - k ≤ n ∧ idE s.data.toList n m k = r)) (fun iv _ _ => s.size - (intOf iv).toNat)
  case atStart => exact ⟨0, 1, s.size + 1 - 0, by omega, by omega, rfl, rfl, rfl, ⟨by omega, hr'.out⟩⟩
  case round =>
    obtain ⟨k, m, n, hk, hm, rfl, rfl, hw, hrk⟩ := hrel
    have hN : Hid (Calls Tryd.prog 86 #[.string s, .int .i64 (k : Int)] wr fun e w' => e = .returned (.int .i64 (numE s.data.toList k : Int)) ∧ w' = wr) := numberEnd_any s k wr hk hs
    have hle := numE_le s.data.toList k (by rw [hL.out]; exact hk)
    rw [hL.out] at hle
    obtain ⟨n1, hn1⟩ : ∃ n1, n = n1 + 1 := ⟨n - 1, by have := hrk.out.1; omega⟩
    have hrs := hrk.out.2
    rw [hn1, idE] at hrs
    rw [hL.out] at hrs
    have hn1' : Hid (n = n1 + 1) := hn1
    obtain ⟨x, hx⟩ : ∃ x, numE s.data.toList k = x := ⟨_, rfl⟩
    rw [hx] at hN hle hrs
    obtain ⟨hl1, hl2⟩ := hle
    clear hx hn1
    by_cases e1 : x = k
    · rw [if_pos e1] at hrs
      have hfin : Hid (r = (k, false)) := hrs.symm
      subst e1
      clear hrs
      go_wp2_with fail
      refine hN.out.mono ?_
      rintro e W1 ⟨rfl, hW1⟩
      have hw1 : Hid (W1 = w) := by unfold Hid; rw [hW1]; exact hw.out
      clear hW1 hN
      go_wp2_with fail
      go_ret2
      exact ⟨ret_pair (by rw [hfin.out]) (by rw [hfin.out]), hw1.out⟩
    · rw [if_neg e1] at hrs
      by_cases e2 : x = s.size
      · rw [if_pos (Or.inl e2)] at hrs
        have hfin : Hid (r = (x, decide (2 ≤ m))) := hrs.symm
        clear hrs
        go_wp2_with fail
        refine hN.out.mono ?_
        rintro e W1 ⟨rfl, hW1⟩
        have hw1 : Hid (W1 = w) := by unfold Hid; rw [hW1]; exact hw.out
        clear hW1 hN
        go_wp2_with fail
        go_ret2
        exact ⟨ret_pair (by rw [hfin.out]; show ((s.size : Nat) : Int) = (x : Int); rw [e2]) (by rw [hfin.out]; simp; omega), hw1.out⟩
      · have hlt : x < s.size := by omega
        rw [getD_s s x hlt] at hrs
        by_cases e3 : s[x].toNat = 46
        · rw [if_neg (fun h => h.elim e2 (fun h => h e3))] at hrs
          have hfin : Hid (idE s.data.toList n1 (m + 1) (x + 1) = r) := hrs
          have hlt' : Hid (x < s.size ∧ k < x) := ⟨hlt, by omega⟩
          clear hrs
          go_wp2_with fail
          refine hN.out.mono ?_
          rintro e W1 ⟨rfl, hW1⟩
          have hw1 : Hid (W1 = w) := by unfold Hid; rw [hW1]; exact hw.out
          clear hW1 hN
          go_wp2_with fail
          refine ⟨⟨x + 1, m + 1, n1, by omega, by omega, by simp, by simp, hw1, ⟨?_, hfin.out⟩⟩, ?_⟩
          · have := hrk.out.1; have := hn1'.out; omega
          · have := hlt'.out
            simp [intOf]
            omega
        · rw [if_pos (Or.inr e3)] at hrs
          have hfin : Hid (r = (x, decide (2 ≤ m))) := hrs.symm
          have e3' : ((s[x].toNat : Int) != 46) = true := by rw [bne_iff_ne]; omega
          clear hrs e3
          go_wp2_with fail
          refine hN.out.mono ?_
          rintro e W1 ⟨rfl, hW1⟩
          have hw1 : Hid (W1 = w) := by unfold Hid; rw [hW1]; exact hw.out
          clear hW1 hN
          go_wp2_with fail
          go_ret2
          exact ⟨ret_pair (by rw [hfin.out]) (by rw [hfin.out]; simp; omega), hw1.out⟩
/-- How far a type's text reaches, and whether it is a whole one up to there. -/
def typE (l : List UInt8) : Nat × Bool := if ¬ l = [] ∧ isL (l.getD 0 0) = true then (runE isK l 1, true) else idE l (l.length + 1) 1 0
theorem idE_le (l : List UInt8) : ∀ n m e, e ≤ l.length → (idE l n m e).1 ≤ l.length
  | 0, _, _, h => h
  | n + 1, m, e, h => by
    have h1 := numE_le l e h
    unfold idE
    split
    · exact h
    · split
      · exact h1.2
      · rename_i h2
        refine idE_le l n (m + 1) _ ?_
        rcases Nat.lt_or_ge (numE l e) l.length with h3 | h3
        · omega
        · exact absurd (Or.inl (by omega)) h2
theorem typE_le (l : List UInt8) : (typE l).1 ≤ l.length := by
  unfold typE
  split
  · rename_i h
    exact (runE_le _ _ _ (List.length_pos_iff.2 h.1)).2
  · exact idE_le _ _ _ _ (Nat.zero_le _)
set_option maxHeartbeats 1000000 in
theorem typeEnd_any (s : ByteArray) (w : World) (hs : s.size ≤ 140737488355328) :
    Calls Tryd.prog 55 #[.string s] w fun e w' => e = .returned (.tuple #[.int .i64 ((typE s.data.toList).1 : Int), .bool (typE s.data.toList).2]) ∧ w' = w := by
  have hI : Hid (Calls Tryd.prog 74 #[.string s] w fun e w' => e = .returned (.tuple #[.int .i64 ((idE s.data.toList (s.size + 1) 1 0).1 : Int), .bool (idE s.data.toList (s.size + 1) 1 0).2]) ∧ w' = w) := identifierEnd_any s w hs
  obtain ⟨r, hr⟩ : ∃ r, typE s.data.toList = r := ⟨_, rfl⟩
  rw [hr]
  have hr' : Hid (typE s.data.toList = r) := hr
  clear hr
  by_cases h0 : s.size = 0
  · have hnil : s.data.toList = [] := List.length_eq_zero_iff.1 (by rw [size_l]; exact h0)
    have hem : s.toList.isEmpty = true := by rw [Lib.toList_data, hnil]; rfl
    have hfin : Hid (r = idE s.data.toList (s.size + 1) 1 0) := by unfold Hid; rw [← hr'.out]; unfold typE; rw [if_neg (fun h => h.1 hnil), size_l]
    clear hnil h0
    go_enter Tryd.func55, Tryd.ntmps55
    go_wp2_with fail
    refine hI.out.mono ?_
    rintro e W1 ⟨rfl, rfl⟩
    go_wp2_with fail
    go_ret2
    exact ⟨by rw [hfin.out]; rfl, rfl⟩
  · have hlt : 0 < s.size := by omega
    have hnn : ¬ s.data.toList = [] := fun h => h0 (by rw [← size_l, h]; rfl)
    have hem : s.toList.isEmpty = false := by rw [Lib.toList_data]; simpa using hnn
    have hg := getD_s s 0 hlt
    have hT : Hid (Calls Tryd.prog 73 #[.int .u8 (s[0].toNat : Int)] w fun e w' => e = .returned (.bool (isL s[0])) ∧ w' = w) := letter_any s[0] w
    have hK : Hid (Calls Tryd.prog 56 #[.string s, .int .i64 1, .func (.func 57) #[] #[]] w fun e w' => e = .returned (.int .i64 (runE isK s.data.toList 1 : Int)) ∧ w' = w) := runEnd_any isK _ enter_key key_any s 1 w hlt hs
    cases hl : isL s[0] with
    | true =>
      have hfin : Hid (r = (runE isK s.data.toList 1, true)) := by unfold Hid; rw [← hr'.out]; unfold typE; rw [if_pos ⟨hnn, by rw [hg]; exact hl⟩]
      rw [hl] at hT
      clear hg hnn h0 hl
      go_enter Tryd.func55, Tryd.ntmps55
      go_wp2_with fail
      refine hT.out.mono ?_
      rintro e W1 ⟨rfl, rfl⟩
      go_wp2_with fail
      refine hK.out.mono ?_
      rintro e W1 ⟨rfl, rfl⟩
      go_wp2_with fail
      go_ret2
      exact ⟨by rw [hfin.out]; rfl, rfl⟩
    | false =>
      have hfin : Hid (r = idE s.data.toList (s.size + 1) 1 0) := by unfold Hid; rw [← hr'.out]; unfold typE; rw [if_neg (fun h => by rw [hg, hl] at h; exact absurd h.2 (by decide)), size_l]
      rw [hl] at hT
      clear hg hnn h0 hl
      go_enter Tryd.func55, Tryd.ntmps55
      go_wp2_with fail
      refine hT.out.mono ?_
      rintro e W1 ⟨rfl, rfl⟩
      go_wp2_with fail
      refine hI.out.mono ?_
      rintro e W1 ⟨rfl, rfl⟩
      go_wp2_with fail
      go_ret2
      exact ⟨by rw [hfin.out]; rfl, rfl⟩
end Go.Proofs.YtdeeegocjgikoaaDoor

namespace Go.Proofs.YtdeeegocjgikoaaDoor
open Go.RowKit
open TextMath (fold lo)

/-- What ParseType answers of a folded text: the canonical type, the error, the place. -/
def parsT (f : ByteArray) : ByteArray × Int × Nat := if (typE f.data.toList).2 = true ∧ ¬ (typE f.data.toList).1 < f.size then (canN f, 0, (typE f.data.toList).1) else (⟨#[]⟩, 40, (typE f.data.toList).1)
end Go.Proofs.YtdeeegocjgikoaaDoor

namespace Go.Proofs.YtdeeegocjgikoaaDoor
open Go.RowKit

/-- The options from e on, behind those that were read: the options, the place, whether all is whole. -/
def dscE (s : ByteArray) : Nat → Nat → List (List UInt8) → List (List UInt8) × Nat × Bool
  | 0, e, _ => ([], e, false)
  | n + 1, e, acc =>
    if e < s.size then
      if (s.data.toList.getD e 0).toNat = 59 then
        if runE isK s.data.toList (e + 1) = e + 1 then ([], e + 1, false)
        else dscE s n (runE isK s.data.toList (e + 1)) (acc ++ [(s.extract (e + 1) (runE isK s.data.toList (e + 1))).data.toList])
      else ([], e, false)
    else (acc, e, true)
theorem results_tmp4 {fn : Func} {t u v x : Tmp} (h : fn.results = #[.tmp t, .tmp u, .tmp v, .tmp x]) (tmps : Array Value) (P : Program) (w : World) :
    (results fn tmps).run P w = .ok (.tuple #[tmps.getD t undef, tmps.getD u undef, tmps.getD v undef, tmps.getD x undef]) w := by
  simp [results, h]
/-- What readDesc answers. -/
def DescIs (W : World) (B : Nat) (s : ByteArray) (p : Nat) (r : List (List UInt8) × Nat × Bool) (e : Ending) : Prop :=
  (r.2.2 = true ∧ ∃ v, e = .returned (.tuple #[.string (s.extract 0 p), v, .int .i64 (r.2.1 : Int), .bool true]) ∧ OwnS W B v r.1) ∨
  (r.2.2 = false ∧ e = .returned (.tuple #[.string ⟨#[]⟩, .slice none 0 0, .int .i64 (r.2.1 : Int), .bool false]))
set_option maxRecDepth 100000 in
set_option maxHeartbeats 1000000 in
theorem readDesc_any (s : ByteArray) (w : World) (hs : s.size ≤ 4194304) :
    Calls Tryd.prog 37 #[.string s] w fun e w' => DescIs w' w.heap.size s (typE s.data.toList).1 (if (typE s.data.toList).2 = true then dscE s (s.size + 1) (typE s.data.toList).1 [] else ([], (typE s.data.toList).1, false)) e ∧ Below w.heap.size w w' := by
  have hT : Hid (Calls Tryd.prog 55 #[.string s] w fun e w' => e = .returned (.tuple #[.int .i64 ((typE s.data.toList).1 : Int), .bool (typE s.data.toList).2]) ∧ w' = w) := typeEnd_any s w (by omega)
  have hple := typE_le s.data.toList
  rw [size_l] at hple
  obtain ⟨p, hp⟩ : ∃ p, (typE s.data.toList).1 = p := ⟨_, rfl⟩
  obtain ⟨b, hb⟩ : ∃ b, (typE s.data.toList).2 = b := ⟨_, rfl⟩
  rw [hp, hb] at hT ⊢
  rw [hp] at hple
  clear hp hb
  cases b with
  | false =>
    rw [if_neg (by decide)]
    go_enter Tryd.func37, Tryd.ntmps37
    go_wp2_with fail
    refine hT.out.mono ?_
    rintro e W1 ⟨rfl, rfl⟩
    clear hT
    go_wp2_with fail
    refine bodyPost_ret (results_tmp4 rfl _ _ _) rfl ⟨Or.inr ⟨rfl, rfl⟩, Below.refl _ _⟩
  | true =>
    rw [if_pos rfl]
    obtain ⟨r, hr⟩ : ∃ r, dscE s (s.size + 1) p [] = r := ⟨_, rfl⟩
    rw [hr]
    have hr' : Hid (dscE s (s.size + 1) p [] = r) := hr
    clear hr
    go_enter Tryd.func37, Tryd.ntmps37
    go_wp2_with fail
    refine hT.out.mono ?_
    rintro e W1 ⟨rfl, hW1⟩
    subst hW1
    clear hT
    go_wp2_with fail
    go_loopw [2, 3, 4, 5] (fun tv ov ev kv wr => ∃ (k n : Nat) (l : List (List UInt8)), k ≤ s.size ∧ l.length ≤ k ∧ tv = .string (s.extract 0 p) ∧ ev = .int .i64 (k : Int) ∧ kv = .bool true ∧ (∃ oa ol oc, ov = .slice oa ol oc ∧ OwnS wr W1.heap.size (.slice oa ol oc) l) ∧ Below W1.heap.size W1 wr ∧ Hid (s.size + 1 ≤ n + k ∧ dscE s n k l = r)) (fun _ _ ev _ _ => s.size - (intOf ev).toNat)
    case atStart => exact ⟨p, s.size + 1, [], hple, by simp, rfl, rfl, rfl, ⟨none, 0, 0, rfl, ownS_nil _ _⟩, Below.refl _ _, ⟨by omega, hr'.out⟩⟩
    case round =>
      obtain ⟨k, n, l, hk, hlk, rfl, rfl, rfl, ⟨oa, ol, oc, rfl, hown0⟩, hB0, hrk⟩ := hrel
      have hown : Hid (OwnS wr W1.heap.size (.slice oa ol oc) l) := hown0
      have hB : Hid (Below W1.heap.size W1 wr) := hB0
      have hsz : W1.heap.size ≤ wr.heap.size := hB0.size
      clear hown0 hB0
      obtain ⟨n1, hn1⟩ : ∃ n1, n = n1 + 1 := ⟨n - 1, by have := hrk.out.1; omega⟩
      have hrs := hrk.out.2
      have hnk : Hid (s.size + 1 ≤ n1 + 1 + k) := by rw [← hn1]; exact hrk.out.1
      rw [hn1, dscE] at hrs
      clear hn1 hrk hr'
      by_cases hlt : k < s.size
      · rw [if_pos hlt, getD_s s k hlt] at hrs
        by_cases h59 : s[k].toNat = 59
        · rw [if_pos h59] at hrs
          have hR : Hid (Calls Tryd.prog 56 #[.string s, .int .i64 ((k : Int) + 1), .func (.func 57) #[] #[]] wr fun e w' => e = .returned (.int .i64 (runE isK s.data.toList (k + 1) : Int)) ∧ w' = wr) := runEnd_any isK _ enter_key key_any s (k + 1) wr hlt (by omega)
          have hle := runE_le isK s.data.toList (k + 1) (by rw [size_l]; exact hlt)
          rw [size_l] at hle
          obtain ⟨x, hx⟩ : ∃ x, runE isK s.data.toList (k + 1) = x := ⟨_, rfl⟩
          rw [hx] at hR hle hrs
          obtain ⟨hl1, hl2⟩ := hle
          clear hx
          by_cases hxe : x = k + 1
          · rw [if_pos hxe] at hrs
            have hfin : Hid (r = ([], k + 1, false)) := hrs.symm
            subst hxe
            clear hrs
            go_wp2_with fail
            refine hR.out.mono ?_
            rintro e W2 ⟨rfl, hW2⟩
            have hB2 : Hid (Below W1.heap.size W1 W2) := by rw [hW2]; exact hB
            clear hW2 hR
            go_wp2_with fail
            refine bodyPost_ret (results_tmp4 rfl _ _ _) rfl ⟨?_, hB2.out⟩
            rw [hfin.out]
            exact Or.inr ⟨rfl, rfl⟩
          · rw [if_neg hxe] at hrs
            obtain ⟨M, hM⟩ : ∃ M, s.extract (k + 1) x = M := ⟨_, rfl⟩
            rw [hM] at hrs
            have hfin : Hid (dscE s n1 x (l ++ [M.data.toList]) = r) := hrs
            have hl3 : Hid (l.length ≤ 4194304) := by unfold Hid; omega
            have hlt' : Hid (k < s.size ∧ k + 1 < x ∧ x ≤ s.size) := ⟨hlt, by omega, hl2⟩
            have hSM : Hid (S M.data.toList = M) := S_of M
            have hlk' : Hid (l.length ≤ k) := hlk
            have q1 : ¬ (x : Int) = (k : Int) + 1 := by omega
            have q2 : ((x : Int) == (k : Int) + 1) = false := by rw [beq_eq_false_iff_ne]; exact q1
            clear hrs
            go_wp2_with fail
            refine hR.out.mono ?_
            rintro e W2 ⟨rfl, hW2⟩
            subst hW2
            clear hR
            go_wp2_with (at_builtin; refine push_text _ rfl _ _ rfl W1.heap.size _ l M.data.toList _ rfl rfl ?_ ?_ ?_ hl3.out ?_; (exact World.ownsRow.alloc hown.out _); (rw [hSM.out]; exact heap_alloc_new _ _); (simp; omega); intro g6 cap6 w6 hown6 hgr6 hlie6 hb6)
            refine ⟨⟨x, n1, l ++ [M.data.toList], hlt'.out.2.2, ?_, rfl, rfl, rfl, ?_, ?_, ⟨?_, hfin.out⟩⟩, ?_⟩
            · rw [List.length_append]; have := hlt'.out; have := hlk'.out; simp; omega
            · exact ⟨_, _, _, rfl, hown6⟩
            · exact (hB.out.alloc hsz _).trans hb6
            · have := hnk.out; have := hlt'.out; omega
            · have := hlt'.out; simp [intOf]; omega
        · rw [if_neg h59] at hrs
          have hfin : Hid (r = ([], k, false)) := hrs.symm
          have h59' : ((s[k].toNat : Int) != 59) = true := by rw [bne_iff_ne]; omega
          clear hrs h59
          go_wp2_with fail
          refine bodyPost_ret (results_tmp4 rfl _ _ _) rfl ⟨?_, hB.out⟩
          rw [hfin.out]
          exact Or.inr ⟨rfl, rfl⟩
      · rw [if_neg hlt] at hrs
        have hfin : Hid (r = (l, k, true)) := hrs.symm
        clear hrs
        go_wp2_with fail
        refine bodyPost_ret (results_tmp4 rfl _ _ _) rfl ⟨?_, hB.out⟩
        rw [hfin.out]
        exact Or.inl ⟨rfl, _, rfl, hown.out⟩
end Go.Proofs.YtdeeegocjgikoaaDoor
