import Derived.Test.YtkknenmpdimdbaaGreatDoorQA
import Derived.Test.YtkknenmpdimdbaaGreatDoorQB
import Derived.BigQuiet
import Derived.Test.YtkknenmpdimdbaaGreatDoorRows
import Derived.KernelRfl
import Derived.Shelf.Abstract
namespace Go.Proofs.YtkknenmpdimdbaaGreatDoor
open Go.RowKit
open TextMath (fold lo)

theorem con_one (f : ByteArray) (g : Nat) (w : World) (hg : w.cell? ⟨g, 0, none⟩ = some (.string f)) : ∀ W x, Below w.heap.size w W → Hid (Calls Tryz.prog 69 #[.slice (some ⟨g, 0, none⟩) 1 1, .string x] W fun e w' => e = .returned (.bool (Lib.containsS [f] x)) ∧ w' = W) := fun W x hb => by
  have h := Tryz.slices_Contains_string g 0 1 1 [f] x W (by simp) (by decide) (fun j hj => by
    have : j = 0 := by simp at hj; exact hj
    subst this
    rw [hb.cell (World.block_lt_of_cell? w _ hg)]
    exact hg)
  exact h
/-- A book of one asked text, its cells a letter. -/
theorem openBook_one (f : ByteArray) (g : Nat) (w : World) (hg : w.cell? ⟨g, 0, none⟩ = some (.string f)) :
    Calls Tryz.prog 83 #[.slice (some ⟨g, 0, none⟩) 1 1] w fun e w' => ∃ B cs, w.heap.size ≤ B ∧ e = .returned (.agg cs) ∧ Hid (bkC B (upF 62) = cs) ∧ cs.size = 187 ∧ (∀ v ∈ cs.toList, v.oneCell' = true) ∧ cs[186]? = some (.map (some B)) ∧ Hid (w'.ownsMap Tryz.prog 9 (plainElem (H := Nat) Tryz.prog 3) B 186 (mapD [f] (upF 62))) ∧ Below w.heap.size w w' := by
  refine (openBook_any _ 1 1 [f] w (con_one f g w hg)).mono ?_
  intro e w' h
  obtain ⟨B, h1, h2, h3, h4⟩ := h
  exact ⟨B, bkC B (upF 62), h1, h2, rfl, bkC_size _ _, bkC_one _ _, bkC_last _ _, h3, h4⟩
theorem six {W : World} {R : Nat} {t : TypeId} {a0 a1 a2 a3 a4 a5 : Value} (h : W.heap[R]? = some (.cells #[a0, a1, a2, a3, a4, a5] t (0, 0))) (v0 v1 v2 v3 v4 v5 : Value) :
    ∃ W', (((((W.setCell ⟨R, 0, none⟩ v0).setCell ⟨R, 1, none⟩ v1).setCell ⟨R, 2, none⟩ v2).setCell ⟨R, 3, none⟩ v3).setCell ⟨R, 4, none⟩ v4).setCell ⟨R, 5, none⟩ v5 = W' ∧ W'.heap[R]? = some (.cells #[v0, v1, v2, v3, v4, v5] t (0, 0)) ∧ (∀ y, y ≠ R → W'.heap[y]? = W.heap[y]?) ∧ ∀ B u, B ≤ R → Below B u W → Below B u W' := by
  refine ⟨_, rfl, Go.heap_setCell_same _ _ _ _ _ _ (Go.heap_setCell_same _ _ _ _ _ _ (Go.heap_setCell_same _ _ _ _ _ _ (Go.heap_setCell_same _ _ _ _ _ _ (Go.heap_setCell_same _ _ _ _ _ _ (Go.heap_setCell_same _ _ _ _ _ _ h))))), fun y hy => ?_, fun B u hB hu => ?_⟩
  · rw [Below.heap_setCell _ _ _ _ hy, Below.heap_setCell _ _ _ _ hy, Below.heap_setCell _ _ _ _ hy, Below.heap_setCell _ _ _ _ hy, Below.heap_setCell _ _ _ _ hy, Below.heap_setCell _ _ _ _ hy]
  · refine Below.setCell (Below.setCell (Below.setCell (Below.setCell (Below.setCell (Below.setCell hu ?_ _) ?_ _) ?_ _) ?_ _) ?_ _) ?_ _ <;> exact hB
theorem RowIs.of {W W' : World} {B : Nat} {i : Fin 62} {v : Value} (h : RowIs W B i v) (hb : ∀ y, B ≤ y → y < W.heap.size → W'.heap[y]? = W.heap[y]?) : RowIs W' B i v := by
  obtain ⟨al, e, h4⟩ := h
  refine ⟨al, e, ?_⟩
  rcases h4 with h4 | ⟨m6, g, c, q1, q3, q4⟩
  · exact Or.inl h4
  · refine Or.inr ⟨m6, g, c, q1, q3, ?_⟩
    rw [World.cell?_of_block (w := W) (a := ⟨g, 0, none⟩) (hb g q1 (World.block_lt_of_cell? W _ q4))]
    exact q4
/-- What Find answers of a folded text. -/
def FindIs (W : World) (B : Nat) (f : ByteArray) (e : Ending) : Prop :=
  (rowOf f = none ∧ e = .returned (.tuple #[.agg #[.string ⟨#[]⟩, .slice none 0 0, .string ⟨#[]⟩, .string ⟨#[]⟩, .int .i64 0, .int .i64 0], .bool false])) ∨
  (∃ i v, rowOf f = some i ∧ e = .returned (.tuple #[v, .bool true]) ∧ RowIs W B i v)

theorem st_book (W : World) (cs : Array Value) (hz : cs.size = 187) (h1 : ∀ v ∈ cs.toList, v.oneCell' = true) : (storeCells ⟨W.heap.size, 0, none⟩ cs.toList 0).run Tryz.prog (W.alloc (.cells Tryz.zeroCells133 133)) = .ok () (W.alloc (.cells cs 133)) := by
  refine run_storeCells_new W _ _ cs (by rw [hz]; kernel_rfl) (by rw [hz]; kernel_rfl) ?_
  rw [Array.all_eq_true']
  intro v hv
  exact h1 v (by simpa using hv)

end Go.Proofs.YtkknenmpdimdbaaGreatDoor

namespace Go.Proofs.YtkknenmpdimdbaaGreatDoor
open Go.RowKit

/-- The canonical type of a folded text. -/
def canN (f : ByteArray) : ByteArray := match rowOf f with
  | none => f
  | some i => (rowL i).1
set_option maxRecDepth 100000 in
set_option maxHeartbeats 400000 in
theorem canonical_any (f : ByteArray) (b B : Nat) (W : World) (hbk : Book W b B) (hM : W.ownsMap Tryz.prog 9 (plainElem (H := Nat) Tryz.prog 3) B 186 (mapD [f] (upF 62))) (hfz : f.size ≤ maxLen) :
    Calls Tryz.prog 84 #[.pointer (some ⟨b, 0, none⟩), .string f] W fun e w' => e = .returned (.string (canN f)) ∧ w' = W := by
  obtain ⟨D, hD⟩ : ∃ D, mapD [f] (upF 62) = D := ⟨_, rfl⟩
  have hhas := map_has f
  have hat := fun i h => map_at f i h (.lit (.int .i64 0))
  rw [hD] at hM hhas hat
  have hM4 : Hid (W.ownsMap Tryz.prog 9 (plainElem (H := Nat) Tryz.prog 3) B 186 D) := hM
  have hkey : Hid (keyOf Tryz.prog 9 (.string f) = some (.string f.data.toList)) := key_str f hfz
  have q4 := hbk.map
  have hbk' : Hid (Book W b B) := hbk
  clear hD hM hbk
  cases hrow : rowOf f with
  | none =>
    rw [hrow] at hhas
    have hhas' : Maps.has D (.string f.data.toList) = false := hhas
    have hfin : Hid (canN f = f) := by unfold Hid canN; rw [hrow]
    clear hhas hat
    go_enter Tryz.func84, Tryz.ntmps84
    go_wp2_with (at_lookup; refine wpList_lookup_own_ok_int _ rfl _ _ 131 rfl 9 3 .i64 (Maps.string_keyed Tryz.underlying9) Tryz.underlying131 Tryz.underlying3 (Tryz.zeroValue3 _) B 186 D rfl hM4.out _ _ rfl hkey.out ?_; intro c hatc hwc)
    go_ret
    exact ⟨by rw [hfin.out]; rfl, rfl⟩
  | some i =>
    rw [hrow] at hhas
    have hhas' : Maps.has D (.string f.data.toList) = true := hhas
    have hati := hat i hrow
    have hati' : Hid (D.atKey (.string f.data.toList) (.lit (.int .i64 0)) = .lit (.int .i64 (i.1 : Int))) := hati
    have hfin : Hid (canN f = (rowL i).1) := by unfold Hid canN; rw [hrow]
    obtain ⟨c0, _, _⟩ := hbk'.out.cells i
    have i0 : (0 : Int) ≤ (i.1 : Int) := Int.natCast_nonneg _
    have i1 : (i.1 : Int) < 62 := by have := i.2; omega
    clear hhas hat hati
    go_enter Tryz.func84, Tryz.ntmps84
    go_wp2_with (at_lookup; refine wpList_lookup_own_ok_int _ rfl _ _ 131 rfl 9 3 .i64 (Maps.string_keyed Tryz.underlying9) Tryz.underlying131 Tryz.underlying3 (Tryz.zeroValue3 _) B 186 D rfl hM4.out _ _ rfl hkey.out ?_; intro c hatc hwc; obtain rfl : c = (i.1 : Int) := (by rw [hati'.out] at hatc; injection hatc with hatc; injection hatc with _ hatc; exact hatc.symm))
    go_ret
    exact ⟨by rw [hfin.out]; rfl, rfl⟩
end Go.Proofs.YtkknenmpdimdbaaGreatDoor

namespace Go.Proofs.YtkknenmpdimdbaaGreatDoor
theorem info_u8 : (Tryz.prog.info? 5).map (fun i => (i.zero, i.size, i.bytes)) = some (some (.int .u8 0), 1, 1) := by kernel_rfl
end Go.Proofs.YtkknenmpdimdbaaGreatDoor

namespace Go.Proofs.YtkknenmpdimdbaaGreatDoor
open Go.RowKit

/-- A small letter; a digit; a key character (of a folded text). -/
def isL (b : UInt8) : Bool := decide (97 ≤ (b.toNat : Int)) && decide ((b.toNat : Int) ≤ 122)
def isD (b : UInt8) : Bool := decide (48 ≤ (b.toNat : Int)) && decide ((b.toNat : Int) ≤ 57)
def isK (b : UInt8) : Bool := isL b || isD b || decide ((b.toNat : Int) = 45)
theorem letter_any (b : UInt8) (w : World) : Calls Tryz.prog 112 #[.int .u8 (b.toNat : Int)] w fun e w' => e = .returned (.bool (isL b)) ∧ w' = w := by
  unfold isL
  by_cases h1 : (97 : Int) ≤ b.toNat
  · by_cases h2 : (b.toNat : Int) ≤ 122
    · go_enter Tryz.func112, Tryz.ntmps112
      go_wp2_with fail
      go_ret
      exact ⟨ret_bool (by simp [h1, h2]), rfl⟩
    · go_enter Tryz.func112, Tryz.ntmps112
      go_wp2_with fail
      go_ret
      exact ⟨ret_bool (by simp [h2]), rfl⟩
  · go_enter Tryz.func112, Tryz.ntmps112
    go_wp2_with fail
    go_ret
    exact ⟨ret_bool (by simp; omega), rfl⟩
theorem digit_any (b : UInt8) (w : World) : Calls Tryz.prog 143 #[.int .u8 (b.toNat : Int)] w fun e w' => e = .returned (.bool (isD b)) ∧ w' = w := by
  unfold isD
  by_cases h1 : (48 : Int) ≤ b.toNat
  · by_cases h2 : (b.toNat : Int) ≤ 57
    · go_enter Tryz.func143, Tryz.ntmps143
      go_wp2_with fail
      go_ret
      exact ⟨ret_bool (by simp [h1, h2]), rfl⟩
    · go_enter Tryz.func143, Tryz.ntmps143
      go_wp2_with fail
      go_ret
      exact ⟨ret_bool (by simp [h2]), rfl⟩
  · go_enter Tryz.func143, Tryz.ntmps143
    go_wp2_with fail
    go_ret
    exact ⟨ret_bool (by simp; omega), rfl⟩
set_option maxHeartbeats 1000000 in
theorem key_any (b : UInt8) (w : World) : Calls Tryz.prog 114 #[.int .u8 (b.toNat : Int)] w fun e w' => e = .returned (.bool (isK b)) ∧ w' = w := by
  have hl : Hid (Calls Tryz.prog 112 #[.int .u8 (b.toNat : Int)] w fun e w' => e = .returned (.bool (isL b)) ∧ w' = w) := letter_any b w
  have hd : Hid (Calls Tryz.prog 143 #[.int .u8 (b.toNat : Int)] w fun e w' => e = .returned (.bool (isD b)) ∧ w' = w) := digit_any b w
  unfold isK
  generalize isL b = x at *
  generalize isD b = y at *
  cases x with
  | true =>
    go_enter Tryz.func114, Tryz.ntmps114
    go_wp2_with fail
    refine hl.out.mono ?_
    rintro e W1 ⟨rfl, rfl⟩
    go_wp2_with fail
    go_ret
    exact ⟨rfl, rfl⟩
  | false =>
    cases y with
    | true =>
      go_enter Tryz.func114, Tryz.ntmps114
      go_wp2_with fail
      refine hl.out.mono ?_
      rintro e W1 ⟨rfl, rfl⟩
      go_wp2_with fail
      refine hd.out.mono ?_
      rintro e W1 ⟨rfl, rfl⟩
      go_wp2_with fail
      go_ret
      exact ⟨rfl, rfl⟩
    | false =>
      go_enter Tryz.func114, Tryz.ntmps114
      go_wp2_with fail
      refine hl.out.mono ?_
      rintro e W1 ⟨rfl, rfl⟩
      go_wp2_with fail
      refine hd.out.mono ?_
      rintro e W1 ⟨rfl, rfl⟩
      by_cases h : (b.toNat : Int) = 45
      · go_wp2_with fail
        go_ret
        exact ⟨ret_bool (by simp [h]), rfl⟩
      · go_wp2_with fail
        go_ret
        exact ⟨ret_bool (by simp [h]), rfl⟩

/-- Where the bytes of a kind from b on end. -/
def runE (p : UInt8 → Bool) (l : List UInt8) (b : Nat) : Nat := b + ((l.drop b).takeWhile p).length
theorem runE_on (p : UInt8 → Bool) (l : List UInt8) (b : Nat) (h : b < l.length) (hp : p l[b] = true) : runE p l b = runE p l (b + 1) := by
  unfold runE
  rw [List.drop_eq_getElem_cons h, List.takeWhile_cons, if_pos hp, List.length_cons]
  omega
theorem runE_off (p : UInt8 → Bool) (l : List UInt8) (b : Nat) (h : b < l.length) (hp : p l[b] = false) : runE p l b = b := by
  unfold runE
  rw [List.drop_eq_getElem_cons h, List.takeWhile_cons, if_neg (by rw [hp]; decide)]
  rfl
theorem runE_end (p : UInt8 → Bool) (l : List UInt8) (b : Nat) (h : l.length ≤ b) : runE p l b = b := by
  unfold runE
  rw [List.drop_eq_nil_of_le h]
  rfl
set_option maxHeartbeats 400000 in
theorem runEnd_any (p : UInt8 → Bool) (q : FuncId) (hent : ∀ args W, (callFunc q args).run Tryz.prog W = .ok (.enter q args) W)
    (hq : ∀ (b : UInt8) (w : World), Calls Tryz.prog q #[.int .u8 (b.toNat : Int)] w fun e w' => e = .returned (.bool (p b)) ∧ w' = w)
    (s : ByteArray) (b : Nat) (w : World) (hb : b ≤ s.size) (hs : s.size ≤ 140737488355328) :
    Calls Tryz.prog 113 #[.string s, .int .i64 (b : Int), .func (.func q) #[] #[]] w fun e w' => e = .returned (.int .i64 (runE p s.data.toList b : Int)) ∧ w' = w := by
  have hq' : ∀ b w, Hid (Calls Tryz.prog q #[.int .u8 (UInt8.toNat b : Int)] w fun e w' => e = .returned (.bool (p b)) ∧ w' = w) := hq
  clear hq
  obtain ⟨r, hr⟩ : ∃ r, runE p s.data.toList b = r := ⟨_, rfl⟩
  have hL : Hid (s.data.toList.length = s.size) := size_l s
  rw [hr]
  have hr' : Hid (runE p s.data.toList b = r) := hr
  clear hr
  go_enter Tryz.func113, Tryz.ntmps113
  go_wp2_with fail
  go_loopw [7] (fun iv wr => ∃ k : Nat, k ≤ s.size ∧ iv = .int .i64 (k : Int) ∧ Hid (wr = w) ∧ Hid (runE p s.data.toList k = r)) (fun iv _ => s.size - (intOf iv).toNat)
  case atStart => exact ⟨b, hb, rfl, rfl, hr'⟩
  case round =>
    obtain ⟨k, hk, rfl, hw, hrk⟩ := hrel
    by_cases hlt : k < s.size
    · have hkl : k < s.data.toList.length := by rw [hL.out]; exact hlt
      have hget : s.data.toList[k] = s[k] := rfl
      have hc := hq' s[k] wr
      have hon := runE_on p s.data.toList k hkl
      have hoff := runE_off p s.data.toList k hkl
      rw [hget] at hon hoff
      have hon' : Hid (p s[k] = true → runE p s.data.toList k = runE p s.data.toList (k + 1)) := hon
      have hoff' : Hid (p s[k] = false → runE p s.data.toList k = k) := hoff
      clear hon hoff hget
      generalize hpx : p s[k] = x at *
      clear hpx
      go_wp2_with fail
      refine hc.out.mono ?_
      rintro e W1 ⟨rfl, hW1⟩
      have hw1 : Hid (W1 = w) := by unfold Hid; rw [hW1]; exact hw.out
      clear hW1 hc
      cases x with
      | true =>
        have hnx : Hid (runE p s.data.toList (k + 1) = r) := by unfold Hid; rw [← hon'.out rfl]; exact hrk.out
        have hlt' : Hid (k < s.size) := hlt
        go_wp2_with fail
        refine ⟨⟨k + 1, hlt'.out, by simp, hw1, hnx⟩, ?_⟩
        have := hlt'.out
        simp [intOf]
        omega
      | false =>
        have hfin : Hid (r = k) := by unfold Hid; rw [← hrk.out]; exact hoff'.out rfl
        go_wp2_with fail
        go_ret
        exact ⟨ret_int (by rw [hfin.out]), hw1.out⟩
    · have hke : k = s.size := by omega
      have hfin : Hid (r = k) := by unfold Hid; rw [← hrk.out]; exact runE_end _ _ _ (by rw [hL.out]; omega)
      go_wp2_with fail
      go_ret
      exact ⟨ret_int (by rw [hfin.out]), hw.out⟩
end Go.Proofs.YtkknenmpdimdbaaGreatDoor

namespace Go.Proofs.YtkknenmpdimdbaaGreatDoor
open Go.RowKit

theorem runE_le (p : UInt8 → Bool) (l : List UInt8) (b : Nat) (h : b ≤ l.length) : b ≤ runE p l b ∧ runE p l b ≤ l.length := by
  unfold runE
  have h1 : ((l.drop b).takeWhile p).length ≤ (l.drop b).length := (List.takeWhile_prefix p).length_le
  rw [List.length_drop] at h1
  omega
/-- Where the number that begins at b ends. -/
def numE (l : List UInt8) (b : Nat) : Nat := if (l.getD b 0).toNat = 48 ∧ b < l.length then b + 1 else runE isD l b
theorem numE_le (l : List UInt8) (b : Nat) (h : b ≤ l.length) : b ≤ numE l b ∧ numE l b ≤ l.length := by
  unfold numE
  split
  · rename_i h'
    omega
  · exact runE_le _ _ _ h
theorem enter_digit : ∀ args W, (callFunc 143 args).run Tryz.prog W = .ok (.enter 143 args) W := enters_of Tryz.func143 (by kernel_rfl) rfl
theorem enter_key : ∀ args W, (callFunc 114 args).run Tryz.prog W = .ok (.enter 114 args) W := enters_of Tryz.func114 (by kernel_rfl) rfl
set_option maxHeartbeats 400000 in
theorem numberEnd_any (s : ByteArray) (b : Nat) (w : World) (hb : b ≤ s.size) (hs : s.size ≤ 140737488355328) :
    Calls Tryz.prog 144 #[.string s, .int .i64 (b : Int)] w fun e w' => e = .returned (.int .i64 (numE s.data.toList b : Int)) ∧ w' = w := by
  have hr : Hid (Calls Tryz.prog 113 #[.string s, .int .i64 (b : Int), .func (.func 143) #[] #[]] w fun e w' => e = .returned (.int .i64 (runE isD s.data.toList b : Int)) ∧ w' = w) := runEnd_any isD _ enter_digit digit_any s b w hb hs
  by_cases hlt : b < s.size
  · have hg := getD_s s b hlt
    by_cases h0 : s[b].toNat = 48
    · have hn : Hid (numE s.data.toList b = b + 1) := by unfold Hid numE; rw [if_pos ⟨by rw [hg]; exact h0, by rw [size_l]; exact hlt⟩]
      clear hg
      go_enter Tryz.func144, Tryz.ntmps144
      go_wp2_with fail
      go_ret
      exact ⟨ret_int (by rw [hn.out]; simp), rfl⟩
    · have hn : Hid (numE s.data.toList b = runE isD s.data.toList b) := by unfold Hid numE; rw [if_neg (by rw [hg]; exact fun h => h0 h.1)]
      clear hg
      go_enter Tryz.func144, Tryz.ntmps144
      go_wp2_with fail
      refine hr.out.mono ?_
      rintro e W1 ⟨rfl, rfl⟩
      go_wp2_with fail
      go_ret
      exact ⟨ret_int (by rw [hn.out]), rfl⟩
  · have hn : Hid (numE s.data.toList b = runE isD s.data.toList b) := by unfold Hid numE; rw [if_neg (by rw [size_l]; exact fun h => hlt h.2)]
    go_enter Tryz.func144, Tryz.ntmps144
    go_wp2_with fail
    refine hr.out.mono ?_
    rintro e W1 ⟨rfl, rfl⟩
    go_wp2_with fail
    go_ret
    exact ⟨ret_int (by rw [hn.out]), rfl⟩
/-- How far an identifier reaches from e on, where m numbers are begun; whether it is whole. -/
def idE (l : List UInt8) : Nat → Nat → Nat → Nat × Bool
  | 0, _, e => (e, false)
  | n + 1, m, e => if numE l e = e then (e, false) else if numE l e = l.length ∨ ¬ (l.getD (numE l e) 0).toNat = 46 then (numE l e, decide (2 ≤ m)) else idE l n (m + 1) (numE l e + 1)
theorem ret_pair {a b : Int} {x y : Bool} (h : a = b) (h' : x = y) : Ending.returned (.tuple #[.int .i64 a, .bool x]) = .returned (.tuple #[.int .i64 b, .bool y]) := by rw [h, h']
set_option maxHeartbeats 1000000 in
theorem identifierEnd_any (s : ByteArray) (w : World) (hs : s.size ≤ 140737488355328) :
    Calls Tryz.prog 115 #[.string s] w fun e w' => e = .returned (.tuple #[.int .i64 ((idE s.data.toList (s.size + 1) 1 0).1 : Int), .bool (idE s.data.toList (s.size + 1) 1 0).2]) ∧ w' = w := by
  obtain ⟨r, hr⟩ : ∃ r, idE s.data.toList (s.size + 1) 1 0 = r := ⟨_, rfl⟩
  have hL : Hid (s.data.toList.length = s.size) := size_l s
  rw [hr]
  have hr' : Hid (idE s.data.toList (s.size + 1 - 0) 1 0 = r) := hr
  clear hr
  go_enter Tryz.func115, Tryz.ntmps115
  go_wp2_with fail
  go_loopw [2, 4] (fun iv mv wr => ∃ k m n : Nat, k ≤ s.size ∧ m ≤ k + 1 ∧ iv = .int .i64 (k : Int) ∧ mv = .int .i64 (m : Int) ∧ Hid (wr = w) ∧ Hid (s.size + 1 - k ≤ n ∧ idE s.data.toList n m k = r)) (fun iv _ _ => s.size - (intOf iv).toNat)
  case atStart => exact ⟨0, 1, s.size + 1 - 0, by omega, by omega, rfl, rfl, rfl, ⟨by omega, hr'.out⟩⟩
  case round =>
    obtain ⟨k, m, n, hk, hm, rfl, rfl, hw, hrk⟩ := hrel
    have hN : Hid (Calls Tryz.prog 144 #[.string s, .int .i64 (k : Int)] wr fun e w' => e = .returned (.int .i64 (numE s.data.toList k : Int)) ∧ w' = wr) := numberEnd_any s k wr hk hs
    have hle := numE_le s.data.toList k (by rw [hL.out]; exact hk)
    rw [hL.out] at hle
    obtain ⟨n1, hn1⟩ : ∃ n1, n = n1 + 1 := ⟨n - 1, by have := hrk.out.1; omega⟩
    have hrs := hrk.out.2
    rw [hn1, idE] at hrs
    rw [hL.out] at hrs
    have hn1' : Hid (n = n1 + 1) := hn1
    obtain ⟨x, hx⟩ : ∃ x, numE s.data.toList k = x := ⟨_, rfl⟩
    rw [hx] at hN hle hrs
    obtain ⟨hl1, hl2⟩ := hle
    clear hx hn1
    by_cases e1 : x = k
    · rw [if_pos e1] at hrs
      have hfin : Hid (r = (k, false)) := hrs.symm
      subst e1
      clear hrs
      go_wp2_with fail
      refine hN.out.mono ?_
      rintro e W1 ⟨rfl, hW1⟩
      have hw1 : Hid (W1 = w) := by unfold Hid; rw [hW1]; exact hw.out
      clear hW1 hN
      go_wp2_with fail
      go_ret2
      exact ⟨ret_pair (by rw [hfin.out]) (by rw [hfin.out]), hw1.out⟩
    · rw [if_neg e1] at hrs
      by_cases e2 : x = s.size
      · rw [if_pos (Or.inl e2)] at hrs
        have hfin : Hid (r = (x, decide (2 ≤ m))) := hrs.symm
        clear hrs
        go_wp2_with fail
        refine hN.out.mono ?_
        rintro e W1 ⟨rfl, hW1⟩
        have hw1 : Hid (W1 = w) := by unfold Hid; rw [hW1]; exact hw.out
        clear hW1 hN
        go_wp2_with fail
        go_ret2
        exact ⟨ret_pair (by rw [hfin.out]; show ((s.size : Nat) : Int) = (x : Int); rw [e2]) (by rw [hfin.out]; simp; omega), hw1.out⟩
      · have hlt : x < s.size := by omega
        rw [getD_s s x hlt] at hrs
        by_cases e3 : s[x].toNat = 46
        · rw [if_neg (fun h => h.elim e2 (fun h => h e3))] at hrs
          have hfin : Hid (idE s.data.toList n1 (m + 1) (x + 1) = r) := hrs
          have hlt' : Hid (x < s.size ∧ k < x) := ⟨hlt, by omega⟩
          clear hrs
          go_wp2_with fail
          refine hN.out.mono ?_
          rintro e W1 ⟨rfl, hW1⟩
          have hw1 : Hid (W1 = w) := by unfold Hid; rw [hW1]; exact hw.out
          clear hW1 hN
          go_wp2_with fail
          refine ⟨⟨x + 1, m + 1, n1, by omega, by omega, by simp, by simp, hw1, ⟨?_, hfin.out⟩⟩, ?_⟩
          · have := hrk.out.1; have := hn1'.out; omega
          · have := hlt'.out
            simp [intOf]
            omega
        · rw [if_pos (Or.inr e3)] at hrs
          have hfin : Hid (r = (x, decide (2 ≤ m))) := hrs.symm
          have e3' : ((s[x].toNat : Int) != 46) = true := by rw [bne_iff_ne]; omega
          clear hrs e3
          go_wp2_with fail
          refine hN.out.mono ?_
          rintro e W1 ⟨rfl, hW1⟩
          have hw1 : Hid (W1 = w) := by unfold Hid; rw [hW1]; exact hw.out
          clear hW1 hN
          go_wp2_with fail
          go_ret2
          exact ⟨ret_pair (by rw [hfin.out]) (by rw [hfin.out]; simp; omega), hw1.out⟩
/-- How far a type's text reaches, and whether it is a whole one up to there. -/
def typE (l : List UInt8) : Nat × Bool := if ¬ l = [] ∧ isL (l.getD 0 0) = true then (runE isK l 1, true) else idE l (l.length + 1) 1 0
theorem idE_le (l : List UInt8) : ∀ n m e, e ≤ l.length → (idE l n m e).1 ≤ l.length
  | 0, _, _, h => h
  | n + 1, m, e, h => by
    have h1 := numE_le l e h
    unfold idE
    split
    · exact h
    · split
      · exact h1.2
      · rename_i h2
        refine idE_le l n (m + 1) _ ?_
        rcases Nat.lt_or_ge (numE l e) l.length with h3 | h3
        · omega
        · exact absurd (Or.inl (by omega)) h2
theorem typE_le (l : List UInt8) : (typE l).1 ≤ l.length := by
  unfold typE
  split
  · rename_i h
    exact (runE_le _ _ _ (List.length_pos_iff.2 h.1)).2
  · exact idE_le _ _ _ _ (Nat.zero_le _)
set_option maxHeartbeats 1000000 in
theorem typeEnd_any (s : ByteArray) (w : World) (hs : s.size ≤ 140737488355328) :
    Calls Tryz.prog 82 #[.string s] w fun e w' => e = .returned (.tuple #[.int .i64 ((typE s.data.toList).1 : Int), .bool (typE s.data.toList).2]) ∧ w' = w := by
  have hI : Hid (Calls Tryz.prog 115 #[.string s] w fun e w' => e = .returned (.tuple #[.int .i64 ((idE s.data.toList (s.size + 1) 1 0).1 : Int), .bool (idE s.data.toList (s.size + 1) 1 0).2]) ∧ w' = w) := identifierEnd_any s w hs
  obtain ⟨r, hr⟩ : ∃ r, typE s.data.toList = r := ⟨_, rfl⟩
  rw [hr]
  have hr' : Hid (typE s.data.toList = r) := hr
  clear hr
  by_cases h0 : s.size = 0
  · have hnil : s.data.toList = [] := List.length_eq_zero_iff.1 (by rw [size_l]; exact h0)
    have hem : s.toList.isEmpty = true := by rw [Lib.toList_data, hnil]; rfl
    have hfin : Hid (r = idE s.data.toList (s.size + 1) 1 0) := by unfold Hid; rw [← hr'.out]; unfold typE; rw [if_neg (fun h => h.1 hnil), size_l]
    clear hnil h0
    go_enter Tryz.func82, Tryz.ntmps82
    go_wp2_with fail
    refine hI.out.mono ?_
    rintro e W1 ⟨rfl, rfl⟩
    go_wp2_with fail
    go_ret2
    exact ⟨by rw [hfin.out]; rfl, rfl⟩
  · have hlt : 0 < s.size := by omega
    have hnn : ¬ s.data.toList = [] := fun h => h0 (by rw [← size_l, h]; rfl)
    have hem : s.toList.isEmpty = false := by rw [Lib.toList_data]; simpa using hnn
    have hg := getD_s s 0 hlt
    have hT : Hid (Calls Tryz.prog 112 #[.int .u8 (s[0].toNat : Int)] w fun e w' => e = .returned (.bool (isL s[0])) ∧ w' = w) := letter_any s[0] w
    have hK : Hid (Calls Tryz.prog 113 #[.string s, .int .i64 1, .func (.func 114) #[] #[]] w fun e w' => e = .returned (.int .i64 (runE isK s.data.toList 1 : Int)) ∧ w' = w) := runEnd_any isK _ enter_key key_any s 1 w hlt hs
    cases hl : isL s[0] with
    | true =>
      have hfin : Hid (r = (runE isK s.data.toList 1, true)) := by unfold Hid; rw [← hr'.out]; unfold typE; rw [if_pos ⟨hnn, by rw [hg]; exact hl⟩]
      rw [hl] at hT
      clear hg hnn h0 hl
      go_enter Tryz.func82, Tryz.ntmps82
      go_wp2_with fail
      refine hT.out.mono ?_
      rintro e W1 ⟨rfl, rfl⟩
      go_wp2_with fail
      refine hK.out.mono ?_
      rintro e W1 ⟨rfl, rfl⟩
      go_wp2_with fail
      go_ret2
      exact ⟨by rw [hfin.out]; rfl, rfl⟩
    | false =>
      have hfin : Hid (r = idE s.data.toList (s.size + 1) 1 0) := by unfold Hid; rw [← hr'.out]; unfold typE; rw [if_neg (fun h => by rw [hg, hl] at h; exact absurd h.2 (by decide)), size_l]
      rw [hl] at hT
      clear hg hnn h0 hl
      go_enter Tryz.func82, Tryz.ntmps82
      go_wp2_with fail
      refine hT.out.mono ?_
      rintro e W1 ⟨rfl, rfl⟩
      go_wp2_with fail
      refine hI.out.mono ?_
      rintro e W1 ⟨rfl, rfl⟩
      go_wp2_with fail
      go_ret2
      exact ⟨by rw [hfin.out]; rfl, rfl⟩
end Go.Proofs.YtkknenmpdimdbaaGreatDoor

namespace Go.Proofs.YtkknenmpdimdbaaGreatDoor
open Go.RowKit
open TextMath (fold lo)

/-- What ParseType answers of a folded text: the canonical type, the error, the place. -/
def parsT (f : ByteArray) : ByteArray × Int × Nat := if (typE f.data.toList).2 = true ∧ ¬ (typE f.data.toList).1 < f.size then (canN f, 0, (typE f.data.toList).1) else (⟨#[]⟩, 40, (typE f.data.toList).1)
set_option maxRecDepth 100000 in
set_option maxHeartbeats 1000000 in
theorem parseType_any (s : ByteArray) (w : World) (hs : s.size ≤ 140737488355328) :
    Calls Tryz.prog 51 #[.string s] w fun e w' => e = .returned (.tuple #[.string (parsT (S (fold s.data.toList))).1, .int .i64 (parsT (S (fold s.data.toList))).2.1, .int .i64 ((parsT (S (fold s.data.toList))).2.2 : Int)]) ∧ Below w.heap.size w w' := by
  obtain ⟨f, hf⟩ : ∃ f, S (fold s.data.toList) = f := ⟨_, rfl⟩
  have hF : Hid (Calls Tryz.prog 81 #[.string s] w fun e w' => e = .returned (.string f) ∧ Below w.heap.size w w') := by
    have h := fold_any s w (by unfold maxLen; omega)
    rw [hf] at h
    exact h
  have hfs : f.size ≤ 140737488355328 := by
    rw [← hf, S_size]
    unfold fold
    rw [List.length_map, size_l]
    exact hs
  have hfz : Hid (f.size ≤ maxLen) := by unfold Hid maxLen; omega
  rw [hf]
  clear hf
  obtain ⟨r, hr⟩ : ∃ r, parsT f = r := ⟨_, rfl⟩
  rw [hr]
  unfold parsT at hr
  have hT : ∀ W, Hid (Calls Tryz.prog 82 #[.string f] W fun e w' => e = .returned (.tuple #[.int .i64 ((typE f.data.toList).1 : Int), .bool (typE f.data.toList).2]) ∧ w' = W) := fun W => typeEnd_any f W hfs
  obtain ⟨p, hp⟩ : ∃ p, (typE f.data.toList).1 = p := ⟨_, rfl⟩
  obtain ⟨b, hb⟩ : ∃ b, (typE f.data.toList).2 = b := ⟨_, rfl⟩
  rw [hp, hb] at hr
  rw [hp, hb] at hT
  clear hp hb
  by_cases hok : b = true ∧ ¬ p < f.size
  · rw [if_pos hok] at hr
    have hfin : Hid (r = (canN f, 0, p)) := hr.symm
    obtain ⟨rfl, hnp⟩ := hok
    clear hr
    go_enter Tryz.func51, Tryz.ntmps51
    go_wp2_with fail
    refine hF.out.mono ?_
    rintro e W1 ⟨rfl, hb1⟩
    have hb1' : Hid (Below w.heap.size w W1) := hb1
    have hT1 := hT W1
    clear hT hF hb1
    go_wp2_with fail
    refine hT1.out.mono ?_
    rintro e W1' ⟨rfl, hW1⟩
    obtain ⟨W2, hW2⟩ : ∃ W2, W1.alloc (.cells #[.string f] 9) = W2 := ⟨_, rfl⟩
    have hB2 : Below W1.heap.size W1 W2 := by rw [← hW2]; exact (Below.refl _ _).alloc (Nat.le_refl _) _
    have hc2 : W2.cell? ⟨W1.heap.size, 0, none⟩ = some (.string f) := by rw [← hW2]; exact (row_cell (heap_alloc_last W1 _) (j := 0) (by simp)).1
    have hOB := openBook_one f W1.heap.size W2 hc2
    have hH2 : Hid (Below w.heap.size w W2) := hb1'.out.trans (hB2.mono hb1'.out.size)
    subst hW1
    clear hT1 hb1' hB2 hc2
    go_wp2_with fail
    refine hOB.mono ?_
    rintro e W3 ⟨B, cs, hB, rfl, hcs, hcz, hco, hlast, hM3, hB3⟩
    have st := st_book W3 cs hcz hco
    obtain ⟨W4, hW4⟩ : ∃ W4, W3.alloc (.cells cs 133) = W4 := ⟨_, rfl⟩
    rw [hW4] at st
    have hB4 : Below W3.heap.size W3 W4 := by rw [← hW4]; exact (Below.refl _ _).alloc (Nat.le_refl _) _
    have hb4 : W4.heap[W3.heap.size]? = some (.cells cs 133 (0, 0)) := by rw [← hW4]; exact heap_alloc_last W3 _
    have hM4 : W4.ownsMap Tryz.prog 9 (plainElem (H := Nat) Tryz.prog 3) B 186 (mapD [f] (upF 62)) := by
      have h := hM3.out.kept (World.grownBy_alloc W3 (.cells cs 133) none) (by simp)
      rw [hW4] at h
      exact h
    have hbk4 : Book W4 W3.heap.size B := by unfold Book; rw [hcs.out]; exact hb4
    have hH4 : Hid (Below w.heap.size w W4) := by
      have h3 : Below W2.heap.size W2 W4 := hB3.trans (hB4.mono hB3.size)
      exact hH2.out.trans (h3.mono hH2.out.size)
    have hC : Hid (Calls Tryz.prog 84 #[.pointer (some ⟨W3.heap.size, 0, none⟩), .string f] W4 fun e w' => e = .returned (.string (canN f)) ∧ w' = W4) := canonical_any f W3.heap.size B W4 hbk4 hM4 hfz.out
    clear hM3 hB3 hB4 hb4 hH2 hOB hW4 hW2 hco hlast hM4 hbk4 hcs hB
    go_wp2_with fail
    refine hC.out.mono ?_
    rintro e W5 ⟨rfl, hW5⟩
    subst hW5
    clear st hcz hC
    go_wp2_with fail
    go_ret3
    exact ⟨by rw [hfin.out]; rfl, hH4.out⟩
  · rw [if_neg hok] at hr
    have hfin : Hid (r = (⟨#[]⟩, 40, p)) := hr.symm
    clear hr
    go_enter Tryz.func51, Tryz.ntmps51
    go_wp2_with fail
    refine hF.out.mono ?_
    rintro e W1 ⟨rfl, hb1⟩
    have hb1' : Hid (Below w.heap.size w W1) := hb1
    have hT1 := hT W1
    clear hT hF hb1
    go_wp2_with fail
    refine hT1.out.mono ?_
    rintro e W1' ⟨rfl, hW1⟩
    subst hW1
    clear hT1
    cases b with
    | false =>
      clear hok
      go_wp2_with fail
      go_ret3
      exact ⟨by rw [hfin.out]; rfl, hb1'.out⟩
    | true =>
      have hlt : p < f.size := by
        rcases Nat.lt_or_ge p f.size with h | h
        · exact h
        · exact absurd ⟨rfl, by omega⟩ hok
      clear hok
      go_wp2_with fail
      go_ret3
      exact ⟨by rw [hfin.out]; rfl, hb1'.out⟩
end Go.Proofs.YtkknenmpdimdbaaGreatDoor
