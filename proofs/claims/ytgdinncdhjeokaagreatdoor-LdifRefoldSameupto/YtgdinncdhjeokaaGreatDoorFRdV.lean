import Derived.Test.YtgdinncdhjeokaaGreatDoorAtOwn
import Derived.Shelf.Strings.Builder1
import Derived.Test.YtgdinncdhjeokaaGreatDoorFPLn
import Derived.Test.YtgdinncdhjeokaaGreatDoorBaseMath
import Derived.Test.YtgdinncdhjeokaaGreatDoorFLrLd
import Derived.Test.YtgdinncdhjeokaaGreatDoorFRdN
import Derived.BigQuiet
namespace Go.Proofs.YtgdinncdhjeokaaGreatDoor
open Go.RowKit Go.Shelf

def ren169 : Go.Shelf.Ren := ⟨fun | 169 => 27 | n => n, fun | 70 => 63 | 9 => 9 | 0 => 0 | 72 => 65 | 37 => 43 | 127 => 88 | 3 => 3 | 5 => 5 | n => n, fun | n => n⟩
theorem lays169 : Go.Proofs.Lays.n169 Tryz.prog ren169 := {
  mixed := by kernel_rfl
  f169 := Tryz.func27.trans (congrArg some (by kernel_rfl))
  t0 := Tryz.underlying0
  a0 := Tryz.isAgg0
  z0 := Tryz.sizeOf0
  v0 := Tryz.zeroValue0
  t3 := Tryz.underlying3
  a3 := Tryz.isAgg3
  z3 := Tryz.sizeOf3
  v3 := Tryz.zeroValue3
  t9 := Tryz.underlying9
  a9 := Tryz.isAgg9
  z9 := Tryz.sizeOf9
  v9 := Tryz.zeroValue9
  t37 := Tryz.underlying43
  a37 := Tryz.isAgg43
  z37 := Tryz.sizeOf43
  v37 := Tryz.zeroValue43
  t70 := Tryz.underlying63
  a70 := Tryz.isAgg63
  z70 := Tryz.sizeOf63
  v70 := Tryz.zeroValue63
  t72 := Tryz.underlying65
  a72 := Tryz.isAgg65
  z72 := Tryz.sizeOf65
  v72 := Tryz.zeroValue65
  t127 := Tryz.underlying88
  a127 := Tryz.isAgg88
  z127 := Tryz.sizeOf88
  v127 := Tryz.zeroValue88 }
theorem extra169 : Builder.Extra Tryz.prog ren169 := {
  sizeBuilder := by kernel_rfl
  liesBuilder := by kernel_rfl
  t5 := Tryz.underlying5
  a5 := Tryz.isAgg5
  z5 := Tryz.sizeOf5
  v5 := Tryz.zeroValue5
  infoByte := by kernel_rfl
  cellsByte := by kernel_rfl
  sizeByte := by kernel_rfl
  neB5 := by decide }
/-- A builder that holds the bytes l. -/
def IsB (B b : Nat) (l : List UInt8) (w : World) : Prop := Lib.IsBuilder 65 5 B b (bv l) w
theorem bytes_bv (l : List UInt8) : Lib.byteCells l = bv l := rfl
theorem bString_any (B b : Nat) (l : List UInt8) (w : World) (h : IsB B b l w) (hBw : B ≤ w.heap.size) :
    Calls Tryz.prog 27 #[.pointer (some ⟨b, 0, none⟩)] w fun e w' => e = .returned (.string (S l)) ∧ Below B w w' := Any.Builder_String_any lays169 extra169 B b l w h hBw

set_option maxHeartbeats 1000000 in
set_option maxRecDepth 100000 in
theorem copyCheck_any (B b : Nat) (l : List UInt8) (w : World) (h : IsB B b l w) :
    Calls Tryz.prog 45 #[.pointer (some ⟨b, 0, none⟩)] w fun e w' => e = .returned (.tuple #[]) ∧ Lib.BuilderAt 65 5 B b (.pointer (some ⟨b, 0, none⟩)) (bv l) w' ∧ Below B w w' := by
  obtain ⟨j, hj, hjs⟩ := Option.map_eq_some_iff.1 extra169.sizeBuilder
  rcases h with h | h
  · have h0 := h.cell0
    have hsh := h.shape
    have hfz := h.frozen0
    go_enter Tryz.func45, Tryz.ntmps45
    go_wp2
    rw [Lib.run_to_unsafe w ⟨b, 0, none⟩ Tryz.underlying63 Tryz.underlying103 hj (by rw [hjs]; decide) hsh (Nat.zero_lt_succ 1)]
    simp only [Result.andThen]
    rw [Oper.upon_value]
    go_wp2
    rw [run_callFunc_extern Tryz.func53 (by kernel_rfl) (by kernel_rfl) (by kernel_rfl) (e := Extern.AbiNoEscape.same) (by kernel_rfl)]
    rw [Lib.run_noEscape]
    simp only [Result.andThen]
    rw [Oper.upon_value]
    go_wp2
    rw [Lib.run_from_unsafe w ⟨b, 0, none⟩ Tryz.underlying103 Tryz.underlying63 hj hsh extra169.liesBuilder]
    simp only [Result.andThen]
    rw [Oper.upon_value]
    go_wp2
    go_end0
    exact ⟨rfl, h.used _, (Below.refl B w).setCell (p := ⟨b, 0, none⟩) h.1 _⟩
  · have h0 := h.cell0
    go_enter Tryz.func45, Tryz.ntmps45
    go_wp2
    rw [Lib.run_neq_ptr_same w _ Tryz.underlying63 hj]
    go_wp2
    go_end0
    exact ⟨rfl, h, Below.refl B _⟩

set_option maxHeartbeats 1000000 in
set_option maxRecDepth 100000 in
theorem writeByte_any (B b : Nat) (l : List UInt8) (c : UInt8) (w : World) (h : IsB B b l w) (hlen : l.length ≤ 1099511627776) (hBw : B ≤ w.heap.size) :
    Calls Tryz.prog 38 #[.pointer (some ⟨b, 0, none⟩), .int .u8 (c.toNat : Int)] w fun e w' => e = .returned .nilIface ∧ IsB B b (l ++ [c]) w' ∧ Below B w w' := by
  go_enter Tryz.func38, Tryz.ntmps38
  go_wp2_with (go_at_call 45; refine (copyCheck_any B b l _ h).mono ?_)
  rintro e w1 ⟨rfl, h1, hb1⟩
  obtain ⟨hB, v, hbk, hown, hne⟩ := h1
  have c0 : w1.cell? ⟨b, 0, none⟩ = some (.pointer (some ⟨b, 0, none⟩)) := by rw [Lib.cell_of_heap hbk]; rfl
  have c1 : w1.cell? ⟨b, 1, none⟩ = some v := by rw [Lib.cell_of_heap hbk]; rfl
  obtain ⟨i0, hi, hz0, hz1, hz2⟩ := info_parts info_u8
  have hlt : b < w1.heap.size := by
    rcases Nat.lt_or_ge b w1.heap.size with h' | h'
    · exact h'
    · simp [Array.getElem?_eq_none h'] at hbk
  have hn1 : w.heap.size ≤ w1.heap.size := hb1.size
  have hbl : Hid ((bv l).length = l.length) := bv_len l
  go_wp2_with (at_builtin; refine wpList_append_own _ rfl _ _ 43 rfl B 5 i0 (.int .u8 0) 1 1 Tryz.underlying43 hi hz0 hz1 hz2 rfl (by decide) _ _ _ rfl (hown.alloc _) ⟨w1.heap.size, 0, none⟩ 1 1 [.int .u8 (c.toNat : Int)] rfl rfl ?_ ?_ ?_ ?_ ?_ ?_)
  · exact cell_one_new _ _ _
  · intro u hu; simp at hu; subst hu; rfl
  · have := hbl.out; unfold maxLen; omega
  · have := hbl.out; omega
  · simp; omega
  intro v' w2 hown' hgrow _
  have hb2 : w2.heap[b]? = some (.cells #[.pointer (some ⟨b, 0, none⟩), v] 65 (0, 0)) := by
    rw [hgrow.block b (by simp; omega) (fun e => hne e.symm), Lib.alloc_old w1 _ b hlt]
    exact hbk
  have d0 : w2.cell? ⟨b, 0, none⟩ = some (.pointer (some ⟨b, 0, none⟩)) := by rw [Lib.cell_of_heap hb2]; rfl
  have d1 : w2.cell? ⟨b, 1, none⟩ = some v := by rw [Lib.cell_of_heap hb2]; rfl
  have f1 : w2.frozen? ⟨b, 1, none⟩ = false := Lib.frozen_of_heap hb2 1
  obtain ⟨g, cap, rfl⟩ : ∃ g cap, v' = .slice (some ⟨g, 0, none⟩) ((bv l).length + 1) cap := by
    rcases hown'.2 with ⟨_, h0⟩ | ⟨g, cap, cur, hv, _⟩
    · omega
    · exact ⟨g, cap, hv⟩
  go_wp2
  go_ret
  refine ⟨rfl, Or.inr ?_, ?_⟩
  · rw [bv_app]
    exact Lib.BuilderAt.put (T := 65) (e := 5) hB hb2 (bs' := bv l ++ [.int .u8 (c.toNat : Int)]) (by simpa using hown') (by decide)
  · exact ((hb1.alloc (by omega) _).grown hgrow (by simp; omega) (fun k hk => (hown.lt k hk).1)).setCell (p := ⟨b, 1, none⟩) hB _

set_option maxHeartbeats 1000000 in
set_option maxRecDepth 100000 in
theorem writeString_any (B b : Nat) (l : List UInt8) (s : ByteArray) (w : World) (h : IsB B b l w) (hlen : l.length + s.size ≤ 1099511627776) (hBw : B ≤ w.heap.size) :
    Calls Tryz.prog 37 #[.pointer (some ⟨b, 0, none⟩), .string s] w fun e w' => e = .returned (.tuple #[.int .i64 s.size, .nilIface]) ∧ IsB B b (l ++ s.data.toList) w' ∧ Below B w w' := by
  go_enter Tryz.func37, Tryz.ntmps37
  go_wp2_with (go_at_call 45; refine (copyCheck_any B b l _ h).mono ?_)
  rintro e w1 ⟨rfl, h1, hb1⟩
  obtain ⟨hB, v, hbk, hown, hne⟩ := h1
  have c0 : w1.cell? ⟨b, 0, none⟩ = some (.pointer (some ⟨b, 0, none⟩)) := by rw [Lib.cell_of_heap hbk]; rfl
  have c1 : w1.cell? ⟨b, 1, none⟩ = some v := by rw [Lib.cell_of_heap hbk]; rfl
  obtain ⟨i0, hi, hz0, hz1, hz2⟩ := info_parts info_u8
  have hlt : b < w1.heap.size := by
    rcases Nat.lt_or_ge b w1.heap.size with h' | h'
    · exact h'
    · simp [Array.getElem?_eq_none h'] at hbk
  have hn1 : w.heap.size ≤ w1.heap.size := hb1.size
  have hbl : Hid ((bv l).length = l.length) := bv_len l
  go_wp2_with (at_builtin; refine Lib.wpList_append_own_string _ rfl _ _ 43 9 rfl B 5 i0 Tryz.underlying43 Tryz.underlying9 hi hz0 hz1 hz2 _ _ _ rfl hown s rfl ?_ ?_ ?_ ?_)
  · have := hbl.out; unfold maxLen; omega
  · have := hbl.out; omega
  · omega
  intro v' w2 hown' hgrow _
  have hb2 : w2.heap[b]? = some (.cells #[.pointer (some ⟨b, 0, none⟩), v] 65 (0, 0)) := by
    rw [hgrow.block b hlt (fun e => hne e.symm)]
    exact hbk
  have d0 : w2.cell? ⟨b, 0, none⟩ = some (.pointer (some ⟨b, 0, none⟩)) := by rw [Lib.cell_of_heap hb2]; rfl
  have d1 : w2.cell? ⟨b, 1, none⟩ = some v := by rw [Lib.cell_of_heap hb2]; rfl
  have f1 : w2.frozen? ⟨b, 1, none⟩ = false := Lib.frozen_of_heap hb2 1
  obtain ⟨ao, n', cap, rfl⟩ : ∃ ao n' cap, v' = .slice ao n' cap := by
    rcases hown'.2 with ⟨hv, _⟩ | ⟨g, cap, cur, hv, _⟩
    · exact ⟨_, _, _, hv⟩
    · exact ⟨_, _, _, hv⟩
  go_wp2
  go_ret2
  refine ⟨rfl, Or.inr ?_, ?_⟩
  · rw [bv_app]
    exact Lib.BuilderAt.put (T := 65) (e := 5) hB hb2 (bs' := bv l ++ Lib.strCells s) (by simpa [Lib.strCells_length] using hown') (by decide)
  · exact (hb1.grown hgrow (by omega) (fun k hk => (hown.lt k hk).1)).setCell (p := ⟨b, 1, none⟩) hB _
end Go.Proofs.YtgdinncdhjeokaaGreatDoor

namespace Go.Proofs.YtgdinncdhjeokaaGreatDoor
namespace Rd
open TextMath (b64 fold unb grp al)
open LdMath
open Lr (PR RC pf chg okD dnB)
set_option linter.unusedVariables false
set_option maxRecDepth 100000

theorem phR_no : ∀ (l : List UInt8) (n : Nat) (acc : List UInt8), 10 ∉ l → phR n acc l = if acc ++ l = [] then [] else [(n, acc ++ l)]
  | [], n, acc, _ => by rw [phR, List.append_nil]
  | c :: l, n, acc, h => by
    have hc : ¬ c = 10 := fun e => h (by rw [e]; exact List.mem_cons_self)
    rw [phR, if_neg hc, phR_no l n _ (fun h' => h (List.mem_cons_of_mem _ h')), List.append_assoc]
    rfl
theorem phR_line : ∀ (l r : List UInt8) (n : Nat) (acc : List UInt8), 10 ∉ l → phR n acc (l ++ 10 :: r) = (n, trimCR (acc ++ l)) :: phR (n + 1) [] r
  | [], r, n, acc, _ => by rw [List.nil_append, phR, if_pos rfl, List.append_nil]
  | c :: l, r, n, acc, h => by
    have hc : ¬ c = 10 := fun e => h (by rw [e]; exact List.mem_cons_self)
    rw [List.cons_append, phR, if_neg hc, phR_line l r n _ (fun h' => h (List.mem_cons_of_mem _ h')), List.append_assoc]
    rfl
/-- Bytes that no text of base64 holds. -/
def gb (b : UInt8) : Prop := b ≠ 10 ∧ b ≠ 13 ∧ b ≠ 32
theorem gb_al (n : Nat) (h : n < 64) : gb (al n) := by
  have h1 := TextMath.al_toNat n h
  refine ⟨?_, ?_, ?_⟩
  all_goals
    intro e
    rw [e] at h1
    revert h1
    simp only [UInt8.reduceToNat]
    repeat' split
    all_goals omega
theorem gb_pad : gb 61 := by unfold gb; decide
theorem gb_grp : ∀ l : List UInt8, ∀ b ∈ grp l, gb b := by
  intro l b hb
  unfold grp at hb
  split at hb
  · rename_i x
    have := x.toNat_lt
    simp only [List.mem_cons, List.mem_nil_iff, or_false] at hb
    rcases hb with rfl | rfl | rfl | rfl
    · exact gb_al _ (by omega)
    · exact gb_al _ (by omega)
    · exact gb_pad
    · exact gb_pad
  · rename_i x y
    have := x.toNat_lt
    have := y.toNat_lt
    simp only [List.mem_cons, List.mem_nil_iff, or_false] at hb
    rcases hb with rfl | rfl | rfl | rfl
    · exact gb_al _ (by omega)
    · exact gb_al _ (by omega)
    · exact gb_al _ (by omega)
    · exact gb_pad
  · rename_i x y z
    have := x.toNat_lt
    have := y.toNat_lt
    have := z.toNat_lt
    simp only [List.mem_cons, List.mem_nil_iff, or_false] at hb
    rcases hb with rfl | rfl | rfl | rfl
    · exact gb_al _ (by omega)
    · exact gb_al _ (by omega)
    · exact gb_al _ (by omega)
    · exact gb_al _ (by omega)
  · simp at hb
theorem gb_b64 : ∀ l : List UInt8, ∀ b ∈ b64 l, gb b
  | [], b, hb => by simp [b64] at hb
  | [x], b, hb => by unfold b64 at hb; exact gb_grp _ b hb
  | [x, y], b, hb => by unfold b64 at hb; exact gb_grp _ b hb
  | x :: y :: z :: t, b, hb => by
    unfold b64 at hb
    rcases List.mem_append.1 hb with h | h
    · exact gb_grp _ b h
    · exact gb_b64 t b h
theorem skip_b64 (v : List UInt8) : skipS (32 :: b64 v) = b64 v := by
  unfold skipS
  rw [List.dropWhile_cons, if_pos (by decide)]
  have h := gb_b64 v
  generalize b64 v = x at h
  cases x with
  | nil => rfl
  | cons c x => rw [List.dropWhile_cons, if_neg (by have := (h c List.mem_cons_self).2.2; simpa using this)]
/-- The texts of LdifRaw. -/
def L1 : List UInt8 := [118, 101, 114, 115, 105, 111, 110, 58, 32, 49]
def L3 : List UInt8 := [100, 110, 58, 32, 111, 61, 120]
def L4 : List UInt8 := [111, 58, 32, 120]
def L5 (w : List UInt8) : List UInt8 := 99 :: 110 :: 58 :: 32 :: w
def rawA (w : List UInt8) : List UInt8 := L1 ++ 10 :: ([] ++ 10 :: (L3 ++ 10 :: (L4 ++ 10 :: L5 w)))
def M3 (v : List UInt8) : List UInt8 := 100 :: 110 :: 58 :: 58 :: 32 :: b64 v
def M4 (v : List UInt8) : List UInt8 := 67 :: 78 :: 59 :: 120 :: 58 :: 58 :: 32 :: b64 v
def rawB (v : List UInt8) : List UInt8 := L1 ++ 10 :: ([] ++ 10 :: (M3 v ++ 10 :: (M4 v ++ 10 :: [])))
theorem physA (w : List UInt8) (h10 : 10 ∉ w) : phys (rawA w) = [(1, L1), (2, []), (3, L3), (4, L4), (5, L5 w)] := by
  rw [phys_eq]
  unfold rawA
  have h5 : 10 ∉ L5 w := by unfold L5; simp [h10]
  rw [phR_line L1 _ _ _ (by decide), phR_line [] _ _ _ (by decide), phR_line L3 _ _ _ (by decide), phR_line L4 _ _ _ (by decide), phR_no _ _ _ h5]
  rw [if_neg (by unfold L5; simp)]
  simp only [List.nil_append]
  rw [trim_no L1 (by decide), trim_no [] (by decide), trim_no L3 (by decide), trim_no L4 (by decide)]
theorem nB (v : List UInt8) : (10 ∉ M3 v ∧ 13 ∉ M3 v) ∧ 10 ∉ M4 v ∧ 13 ∉ M4 v := by
  have h1 : 10 ∉ b64 v := fun h => (gb_b64 v _ h).1 rfl
  have h2 : 13 ∉ b64 v := fun h => (gb_b64 v _ h).2.1 rfl
  unfold M3 M4
  simp [h1, h2]
theorem physB (v : List UInt8) : phys (rawB v) = [(1, L1), (2, []), (3, M3 v), (4, M4 v)] := by
  obtain ⟨⟨h1, h2⟩, h3, h4⟩ := nB v
  rw [phys_eq]
  unfold rawB
  rw [phR_line L1 _ _ _ (by decide), phR_line [] _ _ _ (by decide), phR_line _ _ _ _ h1, phR_line _ _ _ _ h3, phR_no _ _ _ (by decide)]
  rw [if_pos (by simp)]
  simp only [List.nil_append]
  rw [trim_no L1 (by decide), trim_no [] (by decide), trim_no _ h2, trim_no _ h4]
theorem flt_no (a x : List UInt8) (h : 13 ∉ x) (hg : goes x = false) : flt a x = none := by
  unfold flt
  rw [if_neg (by simpa using h), hg]
  rfl
theorem ferr_no (l : List (Nat × List UInt8)) : ∀ a, (∀ p ∈ l, 13 ∉ p.2 ∧ goes p.2 = false) → ferr a l = none := by
  induction l with
  | nil => intro a _; rfl
  | cons x l ih =>
    intro a h
    have hx := h x List.mem_cons_self
    rw [ferr, flt_no a x.2 hx.1 hx.2]
    exact ih _ (fun p hp => h p (List.mem_cons_of_mem _ hp))
theorem joinS_no (l : List (Nat × List UInt8)) : (∀ p ∈ l, goes p.2 = false) → joinS l = l := by
  induction l using snocInd with
  | nil => intro _; rfl
  | append_singleton pre x ih =>
    intro h
    rw [joinS_new pre x (h x (by simp)), ih (fun p hp => h p (List.mem_append_left _ hp))]
theorem rdT_no (b : List UInt8) (l : List (Nat × List UInt8)) (hp : phys b = l) (h : ∀ p ∈ l, 13 ∉ p.2 ∧ goes p.2 = false) : rdT b = rdL (l.length + 1) st0 l := by
  unfold rdT
  rw [hp, ferr_no l [] h, joinS_no l (fun p hp => (h p hp).2)]
/-- What is read. -/
theorem rdA (w : List UInt8) (h10 : 10 ∉ w) (h13 : 13 ∉ w) : rdT (rawA w) = if safe (skipS w) then ([(3, [111, 61, 120], [([111], [120]), ([99, 110], skipS w)])], 0, 0) else ([], 76, 5) := by
  rw [rdT_no _ _ (physA w h10) (by
    intro p hp
    simp only [List.mem_cons, List.mem_nil_iff, or_false] at hp
    rcases hp with rfl | rfl | rfl | rfl | rfl
    · decide
    · decide
    · decide
    · decide
    · refine ⟨?_, rfl⟩
      show 13 ∉ L5 w
      unfold L5
      simp [h13])]
  have t1 : takeF st0 L1 = 0 ∧ takeS st0 1 L1 = (1, 0, [], []) := by decide
  have t3 : takeF (1, 0, [], []) L3 = 0 ∧ takeS (1, 0, [], []) 3 L3 = (3, 3, [111, 61, 120], []) := by decide
  have t4 : takeF (3, 3, [111, 61, 120], []) L4 = 0 ∧ takeS (3, 3, [111, 61, 120], []) 4 L4 = (4, 3, [111, 61, 120], [([111], [120])]) := by decide
  have w5 : wordOf (L5 w) = [99, 110] := by unfold wordOf L5; simp
  have r5 : restOf (L5 w) = 32 :: w := by unfold restOf L5; simp
  have v5 : valOf (32 :: w) = if safe (skipS w) then (skipS w, 0) else ([], 76) := by
    unfold valOf
    have e : skipS (32 :: w) = skipS w := rfl
    rw [if_neg (by simp), if_neg (by simp), e]
  have f5 : takeF (4, 3, [111, 61, 120], [([111], [120])]) (L5 w) = if safe (skipS w) then 0 else 76 := by
    unfold takeF
    rw [w5, r5, v5, if_neg (by decide), if_neg (by decide), if_neg (by decide)]
    split <;> rfl
  have s5 : takeS (4, 3, [111, 61, 120], [([111], [120])]) 5 (L5 w) = (4, 3, [111, 61, 120], [([111], [120]), ([99, 110], (valOf (32 :: w)).1)]) := by
    unfold takeS
    rw [w5, r5, if_neg (by decide), if_neg (by decide)]
    rfl
  rw [rdL, if_neg (by decide), if_pos (by decide), if_pos t1.1, t1.2]
  rw [rdL, if_neg (by decide), if_neg (by decide), if_neg (by decide), if_neg (by decide)]
  rw [rdL, if_neg (by decide), if_pos (by decide), if_pos t3.1, t3.2]
  rw [rdL, if_neg (by decide), if_pos (by decide), if_pos t4.1, t4.2]
  rw [rdL, if_neg (by unfold L5; simp), if_pos (by unfold L5; simp), f5, s5, v5]
  by_cases hs : safe (skipS w) = true
  · rw [if_pos hs, if_pos hs, if_pos hs, if_pos rfl]
    rfl
  · rw [if_neg hs, if_neg hs, if_neg hs, if_neg (by decide)]
theorem rdB (v : List UInt8) : rdT (rawB v) = ([(3, v, [([67, 78, 59, 120], v)])], 0, 0) := by
  obtain ⟨⟨h1, h2⟩, h3, h4⟩ := nB v
  rw [rdT_no _ _ (physB v) (by
    intro p hp
    simp only [List.mem_cons, List.mem_nil_iff, or_false] at hp
    rcases hp with rfl | rfl | rfl | rfl
    · decide
    · decide
    · exact ⟨h2, rfl⟩
    · exact ⟨h4, rfl⟩)]
  have t1 : takeF st0 L1 = 0 ∧ takeS st0 1 L1 = (1, 0, [], []) := by decide
  have vv : valOf (58 :: 32 :: b64 v) = (v, 0) := by
    unfold valOf
    rw [if_neg (by simp), if_pos (by rfl)]
    show (match unb (skipS (32 :: b64 v)) 0 with | .ok v => (v, 0) | .error _ => ([], 76)) = (v, 0)
    rw [skip_b64, TextMath.unb_b64]
  have w3 : wordOf (M3 v) = [100, 110] := by unfold wordOf M3; simp
  have r3 : restOf (M3 v) = 58 :: 32 :: b64 v := by unfold restOf M3; simp
  have w4 : wordOf (M4 v) = [67, 78, 59, 120] := by unfold wordOf M4; simp
  have r4 : restOf (M4 v) = 58 :: 32 :: b64 v := by unfold restOf M4; simp
  have t3 : takeF (1, 0, [], []) (M3 v) = 0 ∧ takeS (1, 0, [], []) 3 (M3 v) = (3, 3, v, []) := by
    unfold takeF takeS
    rw [w3, r3, vv]
    refine ⟨?_, ?_⟩
    · rw [if_neg (by decide), if_neg (by decide), if_pos (by decide), if_pos rfl]
    · rw [if_neg (by decide), if_pos (by decide)]
  have t4 : takeF (3, 3, v, []) (M4 v) = 0 ∧ takeS (3, 3, v, []) 4 (M4 v) = (4, 3, v, [([67, 78, 59, 120], v)]) := by
    unfold takeF takeS
    rw [w4, r4, vv]
    refine ⟨?_, ?_⟩
    · rw [if_neg (by show ¬ wfl 3 [67, 78, 59, 120] ≠ 0; decide), if_neg (by simp), if_neg (by simp)]
    · rw [if_neg (by simp), if_neg (by simp)]
      rfl
  rw [rdL, if_neg (by decide), if_pos (by decide), if_pos t1.1, t1.2]
  rw [rdL, if_neg (by decide), if_neg (by decide), if_neg (by decide), if_neg (by decide)]
  rw [rdL, if_neg (by unfold M3; simp), if_pos (by unfold M3; simp), if_pos t3.1, t3.2]
  rw [rdL, if_neg (by unfold M4; simp), if_pos (by unfold M4; simp), if_pos t4.1, t4.2]
  rfl
theorem ldA (w : List UInt8) (h10 : 10 ∉ w) (h13 : 13 ∉ w) : ldR (rawA w) = if safe (skipS w) then [(3, [111, 61, 120], [([111], [120]), ([99, 110], skipS w)])] else [] := by
  unfold ldR
  rw [rdA w h10 h13]
  split <;> rfl
theorem ldB (v : List UInt8) : ldR (rawB v) = [(3, v, [([67, 78, 59, 120], v)])] := by
  unfold ldR
  rw [rdB v]
  rfl
end Rd
end Go.Proofs.YtgdinncdhjeokaaGreatDoor

namespace Go.Proofs.YtgdinncdhjeokaaGreatDoor.LdMath

/-- Is the line broken ahead of its byte k? -/
def brk (w k : Nat) : List UInt8 := if w ≤ k ∧ (k - w) % (w - 1) = 0 then [10, 32] else []
/-- A line's first k bytes, folded at w. -/
def rf (w : Nat) (t : List UInt8) : Nat → List UInt8
  | 0 => []
  | k + 1 => rf w t k ++ (brk w k ++ (t.drop k).take 1)
/-- A line folded at w. -/
def fld (w : Nat) (t : List UInt8) : List UInt8 := rf w t t.length ++ [10]
/-- Lines folded at w. -/
def flds (w : Nat) (L : List (Nat × List UInt8)) : List UInt8 := L.flatMap (fun p => fld w p.2)
theorem flds_snoc (w : Nat) (L : List (Nat × List UInt8)) (p : Nat × List UInt8) : flds w (L ++ [p]) = flds w L ++ fld w p.2 := by simp [flds]
theorem brk_len (w k : Nat) : (brk w k).length ≤ 2 := by unfold brk; split <;> simp
theorem rf_len (w : Nat) (t : List UInt8) : ∀ k, (rf w t k).length ≤ 3 * k
  | 0 => Nat.le_refl _
  | k + 1 => by
    have h1 := rf_len w t k
    have h2 := brk_len w k
    have h3 : ((t.drop k).take 1).length ≤ 1 := by rw [List.length_take]; omega
    show (rf w t k ++ (brk w k ++ (t.drop k).take 1)).length ≤ _
    rw [List.length_append, List.length_append]
    omega
theorem fld_len (w : Nat) (t : List UInt8) : (fld w t).length ≤ 3 * t.length + 1 := by
  have := rf_len w t t.length
  unfold fld
  rw [List.length_append]
  simp
  omega
theorem flds_len (w : Nat) : ∀ (L : List (Nat × List UInt8)), (flds w L).length ≤ 3 * ltot L + L.length
  | [] => Nat.le_refl _
  | p :: L => by
    have h1 := flds_len w L
    have h2 := fld_len w p.2
    have e : flds w (p :: L) = fld w p.2 ++ flds w L := rfl
    have e2 : ltot (p :: L) = p.2.length + ltot L := rfl
    rw [e, List.length_append, e2, List.length_cons]
    omega
theorem ltot_app (a b : List (Nat × List UInt8)) : ltot (a ++ b) = ltot a + ltot b := by simp [ltot]
theorem joinS_ltot : ∀ (l : List (Nat × List UInt8)), ltot (joinS l) ≤ ltot l := by
  intro l
  induction l using snocInd with
  | nil => exact Nat.le_refl _
  | append_singleton pre x ih =>
    rw [ltot_snoc]
    cases hg : goes x.2 with
    | false => rw [joinS_new pre x hg, ltot_snoc]; omega
    | true =>
      rw [joinS_on pre x hg]
      have ht : x.2.tail.length ≤ x.2.length := by simp
      rcases List.eq_nil_or_concat (joinS pre) with h | ⟨L0, p, h⟩
      · rw [h]
        exact Nat.zero_le _
      · rw [List.concat_eq_append] at h
        rw [h] at ih ⊢
        have e : addLast (L0 ++ [p]) x.2.tail = L0 ++ [(p.1, p.2 ++ x.2.tail)] := addLast_snoc L0 p.1 p.2 x.2.tail
        rw [e, ltot_snoc]
        rw [ltot_snoc] at ih
        simp only [List.length_append]
        omega
/-- The first stretch is not broken. -/
theorem rf_front (w : Nat) (t : List UInt8) : ∀ k, k ≤ w → k ≤ t.length → rf w t k = t.take k
  | 0, _, _ => by simp [rf]
  | k + 1, h, hl => by
    have ih := rf_front w t k (by omega) (by omega)
    show rf w t k ++ (brk w k ++ (t.drop k).take 1) = _
    have hb : brk w k = [] := by unfold brk; rw [if_neg (by omega)]
    rw [ih, hb, List.nil_append, List.take_add]
theorem mod_add (a q m : Nat) (hq : q < m) (ha : a % m = 0) : (a + q) % m = q := by
  rw [Nat.add_mod, ha, Nat.zero_add, Nat.mod_mod, Nat.mod_eq_of_lt hq]
/-- A stretch behind a place at which the line is broken. -/
theorem rf_next (w : Nat) (t : List UInt8) (p : Nat) (hw : 2 ≤ w) (hp : w ≤ p) (hm : (p - w) % (w - 1) = 0) : ∀ q, 1 ≤ q → q ≤ w - 1 → p + q ≤ t.length → rf w t (p + q) = rf w t p ++ ([10, 32] ++ (t.drop p).take q)
  | 0, h, _, _ => by omega
  | 1, _, _, _ => by
    show rf w t p ++ (brk w p ++ (t.drop p).take 1) = _
    have hb : brk w p = [10, 32] := by unfold brk; rw [if_pos ⟨hp, hm⟩]
    rw [hb]
  | q + 2, _, h2, hl => by
    have ih := rf_next w t p hw hp hm (q + 1) (by omega) (by omega) (by omega)
    show rf w t (p + (q + 1)) ++ (brk w (p + (q + 1)) ++ (t.drop (p + (q + 1))).take 1) = _
    have hb : brk w (p + (q + 1)) = [] := by
      unfold brk
      rw [if_neg]
      rintro ⟨_, h⟩
      have e : p + (q + 1) - w = (p - w) + (q + 1) := by omega
      rw [e, mod_add _ _ _ (by omega) hm] at h
      omega
    rw [ih, hb, List.nil_append, List.append_assoc, List.append_assoc]
    congr 2
    rw [← List.drop_drop]
    exact (List.take_add (l := t.drop p) (i := q + 1) (j := 1)).symm
theorem rf_snoc (w : Nat) (t : List UInt8) (k : Nat) (h : k < t.length) : rf w t (k + 1) = rf w t k ++ (brk w k ++ [t[k]]) := by
  show rf w t k ++ (brk w k ++ (t.drop k).take 1) = _
  rw [List.drop_eq_getElem_cons h]
  rfl
end Go.Proofs.YtgdinncdhjeokaaGreatDoor.LdMath

namespace Go.Proofs.YtgdinncdhjeokaaGreatDoor
namespace Rd
open LdMath
set_option linter.unusedVariables false
set_option maxRecDepth 100000

/-- The physical lines of one line, folded. -/
def Blk (n : Nat) (T : List UInt8) (Q : List (Nat × List UInt8)) : Prop := ∃ q0 Q', Q = (n, q0) :: Q' ∧ goes q0 = false ∧ 13 ∉ q0 ∧ (∀ q ∈ Q', goes q.2 = true ∧ 13 ∉ q.2) ∧ (Q' ≠ [] → q0 ≠ []) ∧ q0 ++ Q'.flatMap (fun q => q.2.tail) = T
theorem goes_ne {x : List UInt8} (h : goes x = true) : x ≠ [] := by
  intro e
  rw [e] at h
  exact absurd h (by decide)
theorem ferr_goes : ∀ (Q : List (Nat × List UInt8)) (a : List UInt8) (R : List (Nat × List UInt8)), a ≠ [] → (∀ q ∈ Q, goes q.2 = true ∧ 13 ∉ q.2) → ferr a (Q ++ R) = ferr (lastA a Q) R
  | [], a, R, _, _ => rfl
  | x :: Q, a, R, ha, h => by
    have hx := h x List.mem_cons_self
    have hf : flt a x.2 = none := by
      unfold flt
      rw [if_neg (by simpa using hx.2)]
      have : a.isEmpty = false := by cases a with | nil => exact absurd rfl ha | cons _ _ => rfl
      rw [this]
      simp
    rw [List.cons_append, ferr, hf, lastA_cons]
    exact ferr_goes Q x.2 R (goes_ne hx.1) (fun q hq => h q (List.mem_cons_of_mem _ hq))
theorem Blk.ferr {n : Nat} {T : List UInt8} {Q : List (Nat × List UInt8)} (h : Blk n T Q) (a : List UInt8) (R : List (Nat × List UInt8)) : ∃ b, LdMath.ferr a (Q ++ R) = LdMath.ferr b R := by
  obtain ⟨q0, Q', rfl, h1, h2, h3, h4, _⟩ := h
  rw [List.cons_append, LdMath.ferr, flt_no a q0 h2 h1]
  by_cases hq : Q' = []
  · subst hq
    exact ⟨q0, rfl⟩
  · exact ⟨_, ferr_goes Q' q0 R (h4 hq) h3⟩
theorem fold_goes : ∀ (Q : List (Nat × List UInt8)) (L : List (Nat × List UInt8)) (n : Nat) (t : List UInt8), (∀ q ∈ Q, goes q.2 = true) → Q.foldl stepJ (L ++ [(n, t)]) = L ++ [(n, t ++ Q.flatMap (fun q => q.2.tail))]
  | [], L, n, t, _ => by simp
  | x :: Q, L, n, t, h => by
    have hx := h x List.mem_cons_self
    have e : stepJ (L ++ [(n, t)]) x = L ++ [(n, t ++ x.2.tail)] := by
      unfold stepJ
      rw [if_pos hx, addLast_snoc]
    rw [List.foldl_cons, e, fold_goes Q L n _ (fun q hq => h q (List.mem_cons_of_mem _ hq)), List.flatMap_cons, List.append_assoc]
theorem Blk.join {n : Nat} {T : List UInt8} {Q : List (Nat × List UInt8)} (h : Blk n T Q) (L : List (Nat × List UInt8)) : Q.foldl stepJ L = L ++ [(n, T)] := by
  obtain ⟨q0, Q', rfl, h1, h2, h3, h4, h5⟩ := h
  have e : stepJ L (n, q0) = L ++ [(n, q0)] := by unfold stepJ; rw [if_neg (by rw [h1]; decide)]
  rw [List.foldl_cons, e, fold_goes Q' L n q0 (fun q hq => (h3 q hq).1), h5]
/-- How far a folded line is read. -/
def FI (w n : Nat) (T : List UInt8) (k : Nat) : Prop := ∃ P A, (∀ X, phR n [] (rf w T k ++ X) = P ++ phR (n + P.length) A X) ∧ ((P = [] ∧ A = T.take k) ∨ (∃ p0 P', P = (n, p0) :: P' ∧ p0 ≠ [] ∧ goes p0 = false ∧ 13 ∉ p0 ∧ (∀ q ∈ P', goes q.2 = true ∧ 13 ∉ q.2) ∧ goes A = true ∧ 13 ∉ A ∧ p0 ++ P'.flatMap (fun q => q.2.tail) ++ A.tail = T.take k))
theorem phR_one (n : Nat) (A X : List UInt8) (c : UInt8) (h : c ≠ 10) : phR n A (c :: X) = phR n (A ++ [c]) X := by rw [phR, if_neg h]
theorem goes_take (T : List UInt8) (k : Nat) (h : goes T = false) : goes (T.take k) = false := by
  cases T with
  | nil => simp [goes]
  | cons c T => cases k with
    | zero => rfl
    | succ k => exact h
theorem goes_app {A B : List UInt8} (h : goes A = true) : goes (A ++ B) = true := by
  cases A with
  | nil => exact absurd h (by decide)
  | cons c A => exact h
theorem fi_all (w n : Nat) (hw : 2 ≤ w) (T : List UInt8) (hg : goes T = false) (h10 : 10 ∉ T) (h13 : 13 ∉ T) : ∀ k, k ≤ T.length → FI w n T k
  | 0, _ => ⟨[], [], fun X => rfl, .inl ⟨rfl, rfl⟩⟩
  | k + 1, hk => by
    have hkl : k < T.length := by omega
    obtain ⟨P, A, e, hA⟩ := fi_all w n hw T hg h10 h13 k (by omega)
    have hc : T[k] ≠ 10 := fun e => h10 (e ▸ List.getElem_mem hkl)
    have hc' : T[k] ≠ 13 := fun e => h13 (e ▸ List.getElem_mem hkl)
    have htk : T.take (k + 1) = T.take k ++ [T[k]] := List.take_succ_eq_append_getElem hkl
    have hAn : 13 ∉ A := by
      rcases hA with ⟨_, rfl⟩ | ⟨_, _, _, _, _, _, _, _, h, _⟩
      · exact fun h => h13 (List.mem_of_mem_take h)
      · exact h
    by_cases hb : w ≤ k ∧ (k - w) % (w - 1) = 0
    · have hbr : brk w k = [10, 32] := by unfold brk; rw [if_pos hb]
      refine ⟨P ++ [(n + P.length, A)], [32, T[k]], fun X => ?_, .inr ?_⟩
      · rw [rf_snoc w T k hkl, hbr, List.append_assoc, e]
        show P ++ phR (n + P.length) A (10 :: 32 :: T[k] :: X) = _
        rw [phR, if_pos rfl, trim_no A hAn, phR_one _ _ _ _ (by decide), phR_one _ _ _ _ hc]
        simp [Nat.add_assoc]
      · have g32 : goes [32, T[k]] = true := rfl
        have n32 : 13 ∉ [32, T[k]] := by
          intro h
          rcases List.mem_cons.1 h with h | h
          · exact absurd h (by decide)
          · exact hc' (List.mem_singleton.1 h).symm
        rcases hA with ⟨rfl, rfl⟩ | ⟨p0, P', rfl, q1, q2, q3, q4, q5, q6, q7⟩
        · refine ⟨T.take k, [], by simp, ?_, goes_take T k hg, hAn, fun q hq => by simp at hq, g32, n32, ?_⟩
          · intro h0
            have := congrArg List.length h0
            rw [List.length_take, List.length_nil] at this
            omega
          · rw [htk]; simp
        · refine ⟨p0, P' ++ [(n + ((n, p0) :: P').length, A)], by simp, q1, q2, q3, ?_, g32, n32, ?_⟩
          · intro q hq
            rcases List.mem_append.1 hq with hq | hq
            · exact q4 q hq
            · have : q = (n + ((n, p0) :: P').length, A) := by simpa using hq
              rw [this]
              exact ⟨q5, q6⟩
          · rw [htk, ← q7]
            simp
    · have hbr : brk w k = [] := by unfold brk; rw [if_neg hb]
      refine ⟨P, A ++ [T[k]], fun X => ?_, ?_⟩
      · rw [rf_snoc w T k hkl, hbr, List.append_assoc, e]
        show P ++ phR (n + P.length) A (T[k] :: X) = _
        rw [phR_one _ _ _ _ hc]
      · rcases hA with ⟨rfl, rfl⟩ | ⟨p0, P', rfl, q1, q2, q3, q4, q5, q6, q7⟩
        · exact .inl ⟨rfl, htk.symm⟩
        · refine .inr ⟨p0, P', rfl, q1, q2, q3, q4, goes_app q5, ?_, ?_⟩
          · intro h
            rcases List.mem_append.1 h with h | h
            · exact q6 h
            · exact hc' (List.mem_singleton.1 h).symm
          · rw [htk, ← q7]
            cases A with
            | nil => exact absurd q5 (by decide)
            | cons c A => simp
theorem fld_blk (w n : Nat) (hw : 2 ≤ w) (T : List UInt8) (hg : goes T = false) (h10 : 10 ∉ T) (h13 : 13 ∉ T) : ∃ Q, Blk n T Q ∧ ∀ X, phR n [] (fld w T ++ X) = Q ++ phR (n + Q.length) [] X := by
  obtain ⟨P, A, e, hA⟩ := fi_all w n hw T hg h10 h13 T.length (Nat.le_refl _)
  rw [List.take_length] at hA
  have hAn : 13 ∉ A := by
    rcases hA with ⟨_, rfl⟩ | ⟨_, _, _, _, _, _, _, _, h, _⟩
    · exact h13
    · exact h
  refine ⟨P ++ [(n + P.length, A)], ?_, fun X => ?_⟩
  · rcases hA with ⟨rfl, rfl⟩ | ⟨p0, P', rfl, q1, q2, q3, q4, q5, q6, q7⟩
    · exact ⟨A, [], by simp, hg, hAn, fun q hq => by simp at hq, fun h => absurd rfl h, by simp⟩
    · refine ⟨p0, P' ++ [(n + ((n, p0) :: P').length, A)], by simp, q2, q3, ?_, fun _ => q1, ?_⟩
      · intro q hq
        rcases List.mem_append.1 hq with hq | hq
        · exact q4 q hq
        · have : q = (n + ((n, p0) :: P').length, A) := by simpa using hq
          rw [this]
          exact ⟨q5, q6⟩
      · rw [← q7]
        simp
  · unfold fld
    rw [List.append_assoc, e]
    show P ++ phR (n + P.length) A (10 :: X) = _
    rw [phR, if_pos rfl, trim_no A hAn]
    simp [Nat.add_assoc]
/-- Lines folded: they are read without a fault, and joined they are the lines that were. -/
theorem flds_read (w : Nat) (hw : 2 ≤ w) : ∀ (L : List (Nat × List UInt8)) (n : Nat) (a : List UInt8), (∀ p ∈ L, goes p.2 = false ∧ 10 ∉ p.2 ∧ 13 ∉ p.2) → ferr a (phR n [] (flds w L)) = none ∧ ∃ M, M.map (·.2) = L.map (·.2) ∧ ∀ pre, (phR n [] (flds w L)).foldl stepJ pre = pre ++ M
  | [], n, a, _ => ⟨rfl, [], rfl, fun pre => by simp [flds, phR]⟩
  | p :: L, n, a, h => by
    obtain ⟨g, h10, h13⟩ := h p List.mem_cons_self
    obtain ⟨Q, hQ, e⟩ := fld_blk w n hw p.2 g h10 h13
    have e0 : flds w (p :: L) = fld w p.2 ++ flds w L := rfl
    rw [e0, e]
    obtain ⟨b, hb⟩ := hQ.ferr a (phR (n + Q.length) [] (flds w L))
    obtain ⟨i1, M, i2, i3⟩ := flds_read w hw L (n + Q.length) b (fun q hq => h q (List.mem_cons_of_mem _ hq))
    refine ⟨by rw [hb]; exact i1, (n, p.2) :: M, by simp [i2], fun pre => ?_⟩
    rw [List.foldl_append, hQ.join pre, i3, List.append_assoc]
    rfl
theorem flds_texts (w : Nat) : ∀ (L M : List (Nat × List UInt8)), M.map (·.2) = L.map (·.2) → flds w M = flds w L
  | [], [], _ => rfl
  | [], _ :: _, h => by simp at h
  | _ :: _, [], h => by simp at h
  | p :: L, q :: M, h => by
    simp only [List.map_cons, List.cons.injEq] at h
    show fld w q.2 ++ flds w M = fld w p.2 ++ flds w L
    rw [h.1, flds_texts w L M h.2]
end Rd
end Go.Proofs.YtgdinncdhjeokaaGreatDoor

namespace Go.Proofs.YtgdinncdhjeokaaGreatDoor
namespace Rd
open LdMath
set_option linter.unusedVariables false
set_option maxRecDepth 100000

theorem trim_mem {l : List UInt8} {c : UInt8} (h : c ∈ trimCR l) : c ∈ l := by
  unfold trimCR at h
  split at h
  · exact List.dropLast_subset _ h
  · exact h
theorem phR_ten : ∀ (l : List UInt8) (n : Nat) (acc : List UInt8), 10 ∉ acc → ∀ p ∈ phR n acc l, 10 ∉ p.2
  | [], n, acc, ha, p, hp => by
    rw [phR] at hp
    split at hp
    · simp at hp
    · have : p = (n, acc) := by simpa using hp
      rw [this]
      exact ha
  | c :: l, n, acc, ha, p, hp => by
    rw [phR] at hp
    split at hp
    · rcases List.mem_cons.1 hp with rfl | hp
      · exact fun h => ha (trim_mem h)
      · exact phR_ten l (n + 1) [] (by simp) p hp
    · rename_i hc
      refine phR_ten l n _ ?_ p hp
      intro h
      rcases List.mem_append.1 h with h | h
      · exact ha h
      · exact hc (List.mem_singleton.1 h).symm
theorem phys_ten (b : List UInt8) : ∀ p ∈ phys b, 10 ∉ p.2 := by rw [phys_eq]; exact phR_ten b 1 [] (by simp)
/-- What joined lines are like. -/
theorem join_form : ∀ (l : List (Nat × List UInt8)), ferr [] l = none → (∀ p ∈ l, 10 ∉ p.2) → (∀ p ∈ joinS l, goes p.2 = false ∧ 10 ∉ p.2 ∧ 13 ∉ p.2) ∧ ∀ L n, joinS l = L ++ [(n, [])] → lastA [] l = [] := by
  intro l
  induction l using snocInd with
  | nil => intro _ _; exact ⟨fun p hp => by simp [joinS_nil] at hp, fun L n h => rfl⟩
  | append_singleton pre x ih =>
    intro hf h10
    obtain ⟨hf0, hx⟩ := ferr_front x pre [] hf
    obtain ⟨i1, i2⟩ := ih hf0 (fun p hp => h10 p (List.mem_append_left _ hp))
    have hx10 : 10 ∉ x.2 := h10 x (by simp)
    obtain ⟨k1, k2⟩ := flt_ok hx
    have hx13 : 13 ∉ x.2 := by simpa using k1
    cases hg : goes x.2 with
    | false =>
      rw [joinS_new pre x hg]
      refine ⟨fun p hp => ?_, fun L n h => ?_⟩
      · rcases List.mem_append.1 hp with hp | hp
        · exact i1 p hp
        · rw [List.mem_singleton.1 hp]
          exact ⟨hg, hx10, hx13⟩
      · have h2 := congrArg List.getLast? h
        simp at h2
        rw [lastA_snoc, h2]
    | true =>
      obtain ⟨L0, m, t, e⟩ : ∃ L0 m t, joinS pre = L0 ++ [(m, t)] := by
        obtain ⟨L0, m, t, e⟩ := joinS_goes pre x.2 hf0 hx hg
        first | exact ⟨L0, m, t, e⟩ | exact ⟨L0, m, t, e.1⟩
      have ht : t ≠ [] := by
        intro h0
        subst h0
        rw [i2 L0 m e, hg] at k2
        exact absurd k2 (by decide)
      rw [joinS_on pre x hg, e, addLast_snoc]
      have it := i1 (m, t) (by rw [e]; simp)
      refine ⟨fun p hp => ?_, fun L n h => ?_⟩
      · rcases List.mem_append.1 hp with hp | hp
        · exact i1 p (by rw [e]; exact List.mem_append_left _ hp)
        · rw [List.mem_singleton.1 hp]
          refine ⟨?_, ?_, ?_⟩
          · cases t with
            | nil => exact absurd rfl ht
            | cons c t => exact it.1
          · intro h
            rcases List.mem_append.1 h with h | h
            · exact it.2.1 h
            · exact hx10 (List.mem_of_mem_tail h)
          · intro h
            rcases List.mem_append.1 h with h | h
            · exact it.2.2 h
            · exact hx13 (List.mem_of_mem_tail h)
      · have h2 := congrArg List.getLast? h
        simp at h2
        exact absurd h2.2.1 ht
/-- The look over a folded text: no run is longer than w, and a line that goes on is full. -/
def chk (w : Nat) : Nat → List UInt8 → Prop
  | _, [] => True
  | r, c :: l => if c = 10 then (l.head? = some 32 → r = w) ∧ chk w 0 l else r + 1 ≤ w ∧ chk w (r + 1) l
def run (w k : Nat) : Nat := if k ≤ w then k else (k - w - 1) % (w - 1) + 2
theorem mod_pred (a m : Nat) (hm : 1 ≤ m) (ha : 1 ≤ a) : (a % m = 0 → (a - 1) % m = m - 1) ∧ (a % m ≠ 0 → (a - 1) % m = a % m - 1) := by
  have h1 := Nat.div_add_mod a m
  have h2 := Nat.mod_lt a (show 0 < m by omega)
  constructor
  · intro h0
    have hq : 1 ≤ a / m := by
      rcases Nat.eq_zero_or_pos (a / m) with h | h
      · rw [h, h0] at h1; simp at h1; omega
      · exact h
    have e : a - 1 = m * (a / m - 1) + (m - 1) := by
      have : m * (a / m - 1) = m * (a / m) - m := by rw [Nat.mul_sub, Nat.mul_one]
      have h3 : m ≤ m * (a / m) := Nat.le_mul_of_pos_right m hq
      omega
    rw [e, Nat.mul_add_mod, Nat.mod_eq_of_lt (by omega)]
  · intro h0
    have e : a - 1 = m * (a / m) + (a % m - 1) := by omega
    rw [e, Nat.mul_add_mod, Nat.mod_eq_of_lt (by omega)]
theorem chk_rf (w : Nat) (hw : 2 ≤ w) (T : List UInt8) (h10 : 10 ∉ T) : ∀ k, k ≤ T.length → ∀ X, chk w (run w k) X → chk w 0 (rf w T k ++ X)
  | 0, _, X, h => by
    have e : run w 0 = 0 := by unfold run; rw [if_pos (by omega)]
    rw [e] at h
    exact h
  | k + 1, hk, X, h => by
    have hkl : k < T.length := by omega
    have hc : T[k] ≠ 10 := fun e => h10 (e ▸ List.getElem_mem hkl)
    rw [rf_snoc w T k hkl, List.append_assoc]
    refine chk_rf w hw T h10 k (by omega) _ ?_
    by_cases hb : w ≤ k ∧ (k - w) % (w - 1) = 0
    · have hbr : brk w k = [10, 32] := by unfold brk; rw [if_pos hb]
      have e1 : run w k = w := by
        unfold run
        split
        · omega
        · rw [(mod_pred (k - w) (w - 1) (by omega) (by omega)).1 hb.2]; omega
      have e2 : run w (k + 1) = 2 := by
        unfold run
        rw [if_neg (by omega)]
        have : k + 1 - w - 1 = k - w := by omega
        rw [this, hb.2]
      rw [hbr, e1]
      show chk w w (10 :: 32 :: T[k] :: X)
      rw [chk, if_pos rfl]
      refine ⟨fun _ => rfl, ?_⟩
      rw [chk, if_neg (by decide)]
      refine ⟨by omega, ?_⟩
      rw [chk, if_neg hc]
      refine ⟨by omega, ?_⟩
      rw [e2] at h
      exact h
    · have hbr : brk w k = [] := by unfold brk; rw [if_neg hb]
      have e1 : run w k + 1 = run w (k + 1) ∧ run w k + 1 ≤ w := by
        unfold run
        by_cases h1 : k < w
        · rw [if_pos (by omega), if_pos (by omega)]; omega
        · have hm : (k - w) % (w - 1) ≠ 0 := fun h => hb ⟨by omega, h⟩
          have hkw : k ≠ w := by
            intro e
            rw [e, Nat.sub_self, Nat.zero_mod] at hm
            exact hm rfl
          have h2 := (mod_pred (k - w) (w - 1) (by omega) (by omega)).2 hm
          have h3 := Nat.mod_lt (k - w) (show 0 < w - 1 by omega)
          have e3 : k + 1 - w - 1 = k - w := by omega
          rw [if_neg (by omega), if_neg (by omega), e3, h2]
          omega
      rw [hbr]
      show chk w (run w k) (T[k] :: X)
      rw [chk, if_neg hc]
      refine ⟨e1.2, ?_⟩
      rw [e1.1]
      exact h
theorem flds_head (w : Nat) (hw : 2 ≤ w) (L : List (Nat × List UInt8)) (h : ∀ p ∈ L, goes p.2 = false) : (flds w L).head? ≠ some 32 := by
  cases L with
  | nil => simp [flds]
  | cons p L =>
    have hp := h p List.mem_cons_self
    have e0 : flds w (p :: L) = fld w p.2 ++ flds w L := rfl
    rw [e0]
    unfold fld
    cases ht : p.2 with
    | nil => simp [rf]
    | cons c t =>
      have h1 : rf w (c :: t) ((c :: t).length) = c :: (rf w (c :: t) (c :: t).length).tail := by
        have key : ∀ k, 1 ≤ k → (rf w (c :: t) k).head? = some c := by
          intro k
          induction k with
          | zero => intro h; omega
          | succ k ih =>
            intro _
            show (rf w (c :: t) k ++ (brk w k ++ ((c :: t).drop k).take 1)).head? = some c
            cases k with
            | zero =>
              have hb : brk w 0 = [] := by unfold brk; rw [if_neg (by omega)]
              rw [hb]
              rfl
            | succ k =>
              have := ih (by omega)
              rw [List.head?_append, this]
              rfl
        have h2 := key (c :: t).length (by simp)
        cases hr : rf w (c :: t) (c :: t).length with
        | nil => rw [hr] at h2; cases h2
        | cons d r =>
          rw [hr] at h2
          simp at h2
          rw [h2]
          rfl
      rw [h1]
      rw [ht] at hp
      intro e
      have e' : c = 32 := by simpa using e
      rw [e'] at hp
      exact absurd hp (by simp [goes])
theorem chk_flds (w : Nat) (hw : 2 ≤ w) : ∀ (L : List (Nat × List UInt8)), (∀ p ∈ L, goes p.2 = false ∧ 10 ∉ p.2) → chk w 0 (flds w L)
  | [], _ => trivial
  | p :: L, h => by
    have e0 : flds w (p :: L) = fld w p.2 ++ flds w L := rfl
    have hp := h p List.mem_cons_self
    have hL : ∀ q ∈ L, goes q.2 = false ∧ 10 ∉ q.2 := fun q hq => h q (List.mem_cons_of_mem _ hq)
    rw [e0]
    unfold fld
    rw [List.append_assoc]
    refine chk_rf w hw p.2 hp.2 _ (Nat.le_refl _) _ ?_
    show chk w _ (10 :: flds w L)
    rw [chk, if_pos rfl]
    exact ⟨fun e => absurd e (flds_head w hw L (fun q hq => (hL q hq).1)), chk_flds w hw L hL⟩
theorem flds_last (w : Nat) (L : List (Nat × List UInt8)) (h : L ≠ []) : (flds w L).getLast? = some 10 := by
  rcases List.eq_nil_or_concat L with h0 | ⟨L0, p, h0⟩
  · exact absurd h0 h
  · rw [h0, List.concat_eq_append, flds_snoc]
    unfold fld
    rw [← List.append_assoc, List.getLast?_concat]
/-- Reading does not look at the lines' numbers. -/
theorem takeF_num (st st' : St) (t : List UInt8) (h : st.1 = st'.1) : takeF st t = takeF st' t := by unfold takeF; rw [h]
def SE (st st' : St) : Prop := st.1 = st'.1 ∧ st.2.2 = st'.2.2
theorem takeS_num (st st' : St) (n n' : Nat) (t : List UInt8) (h : SE st st') : SE (takeS st n t) (takeS st' n' t) := by
  obtain ⟨h1, h2⟩ := h
  unfold SE takeS
  rw [← h1, ← h2]
  split
  · exact ⟨rfl, h2 ▸ rfl⟩
  · split
    · exact ⟨rfl, rfl⟩
    · exact ⟨rfl, rfl⟩
theorem fin_num (e e' : Nat) (st st' : St) (h : SE st st') : (fin e st).1.map (·.2) = (fin e' st').1.map (·.2) ∧ (fin e st).2.1 = (fin e' st').2.1 := by
  obtain ⟨h1, h2⟩ := h
  unfold fin
  rw [← h1]
  repeat' split
  all_goals simp [h2]
theorem rdL_num (e e' : Nat) : ∀ (l l' : List (Nat × List UInt8)) (st st' : St), l'.map (·.2) = l.map (·.2) → SE st st' → (rdL e st l).1.map (·.2) = (rdL e' st' l').1.map (·.2) ∧ (rdL e st l).2.1 = (rdL e' st' l').2.1
  | [], [], st, st', _, h => by rw [rdL, rdL]; exact fin_num e e' st st' h
  | [], _ :: _, _, _, h, _ => by simp at h
  | _ :: _, [], _, _, h, _ => by simp at h
  | (n, t) :: l, (n', t') :: l', st, st', hl, h => by
    simp only [List.map_cons, List.cons.injEq] at hl
    obtain ⟨ht, hl⟩ := hl
    have ht' : t' = t := ht
    subst ht'
    rw [rdL, rdL, ← h.1, ← takeF_num st st' t' h.1]
    split
    · exact rdL_num e e' l l' st st' hl h
    · split
      · split
        · exact rdL_num e e' l l' _ _ hl (takeS_num st st' n n' t' h)
        · exact ⟨rfl, rfl⟩
      · split
        · exact fin_num e e' st st' h
        · split
          · have ih := rdL_num e e' l l' (2, st.2) (2, st'.2) hl ⟨rfl, h.2⟩
            refine ⟨?_, ih.2⟩
            simp only [List.map_cons]
            rw [ih.1, h.2]
          · exact rdL_num e e' l l' st st' hl h
end Rd
end Go.Proofs.YtgdinncdhjeokaaGreatDoor

namespace Go.Proofs.YtgdinncdhjeokaaGreatDoor
open Go.RowKit
open LdMath

def szOfF : Value → Nat
  | .string s => s.size
  | _ => 0

set_option maxRecDepth 100000 in
set_option maxHeartbeats 2000000 in
theorem writeFolded_any (B b : Nat) (l t : List UInt8) (k : Nat) (w : World) (hI : IsB B b l w) (hBw : B ≤ w.heap.size) (hk : 2 ≤ k) (hk2 : k ≤ 9223372036854775807) (hl : l.length ≤ 1073741824) (ht : t.length ≤ 4194304) :
    Calls Tryz.prog 26 #[.pointer (some ⟨b, 0, none⟩), .string (S t), .int .i64 (k : Int)] w fun e w' => e = .returned (.tuple #[]) ∧ IsB B b (l ++ fld k t) w' ∧ Below B w w' := by
  obtain ⟨n, hn⟩ : ∃ n, t.length = n := ⟨_, rfl⟩
  obtain ⟨T, hT⟩ : ∃ T, S t = T := ⟨_, rfl⟩
  have hTs : T.size = n := by rw [← hT, S_size, hn]
  obtain ⟨e, he⟩ : ∃ e, min k n = e := ⟨_, rfl⟩
  have m1 : min (k : Int) (n : Int) = (e : Int) := by omega
  have e0 : (0 : Int) ≤ (e : Int) := Int.natCast_nonneg _
  have e1 : (e : Int) ≤ (n : Int) := by omega
  have htd : T.data.toList = t := by rw [← hT, S_l]
  have hx1 : (T.extract 0 e).data.toList = rf k t e := by rw [take_l, htd, rf_front k t e (by omega) (by omega)]
  have hx1s : (T.extract 0 e).size = e := by rw [← size_l, hx1, rf_front k t e (by omega) (by omega), List.length_take]; omega
  have hws : Hid (Calls Tryz.prog 37 #[.pointer (some ⟨b, 0, none⟩), .string (T.extract 0 e)] w fun r w' => r = .returned (.tuple #[.int .i64 ((T.extract 0 e).size : Int), .nilIface]) ∧ IsB B b (l ++ rf k t e) w' ∧ Below B w w') := by
    have := writeString_any B b l (T.extract 0 e) w hI (by omega) hBw
    rw [hx1] at this
    exact this
  have hx2 : T.extract e n = S (t.drop e) := by refine S_eq _ _ ?_; rw [← hTs, drop_l, htd]
  have hP0 : Hid (e ≤ n ∧ (e = n ∨ (k ≤ e ∧ (e - k) % (k - 1) = 0))) := by
    refine ⟨by omega, ?_⟩
    by_cases h : n ≤ k
    · exact .inl (by omega)
    · have : e = k := by omega
      subst this
      exact .inr ⟨Nat.le_refl _, by simp⟩
  have hkk : wrap64 ((k : Int) - 1) = ((k - 1 : Nat) : Int) := by unfold wrap64; omega
  obtain ⟨j, hj⟩ : ∃ j, k - 1 = j := ⟨_, rfl⟩
  rw [hj] at hkk
  have hkk2 : (k : Int) - 1 = (j : Int) := by omega
  have hH : Hid (t.length = n ∧ n ≤ 4194304 ∧ 2 ≤ k ∧ k - 1 = j ∧ l.length ≤ 1073741824 ∧ B ≤ w.heap.size) := ⟨hn, by omega, hk, hj, hl, hBw⟩
  rw [hT]
  rw [hx1s] at hws
  clear hI hBw hk hl ht hn hT he htd hx1 hx1s hj
  go_enter Tryz.func26, Tryz.ntmps26
  go_wp2_with (go_at_call 37; refine hws.out.mono ?_; rintro r w1 ⟨rfl, hI1, hb1⟩)
  have hI1' : Hid (IsB B b (l ++ rf k t e) w1) := hI1
  have hb1' : Hid (Below B w w1) := hb1
  clear hI1 hb1 hws m1 e0 e1
  first | rw [hx2] | skip
  go_loopw [7] (fun rv wr => ∃ p : Nat, Hid (p ≤ n ∧ (p = n ∨ (k ≤ p ∧ (p - k) % (k - 1) = 0))) ∧ rv = .string (S (t.drop p)) ∧ Hid (IsB B b (l ++ rf k t p) wr) ∧ Hid (Below B w wr)) (fun rv _ => szOfF rv)
  case atStart => exact ⟨e, hP0, rfl, hI1', hb1'⟩
  case round =>
    obtain ⟨p, hp, rfl, hIp, hBp⟩ := hrel
    obtain ⟨h1, h2, h3, h4, h5, h6⟩ := hH.out
    have hbz : B ≤ wr.heap.size := Nat.le_trans h6 hBp.out.size
    have hrl := rf_len k t p
    by_cases hpn : p = n
    · have hre : S (t.drop p) = (⟨#[]⟩ : ByteArray) := by rw [List.drop_of_length_le (by omega)]; rfl
      rw [hre]
      have hwb : Hid (Calls Tryz.prog 38 #[.pointer (some ⟨b, 0, none⟩), .int .u8 10] wr fun r w' => r = .returned .nilIface ∧ IsB B b (l ++ fld k t) w' ∧ Below B wr w') := by
        have := writeByte_any B b (l ++ rf k t p) 10 wr hIp.out (by rw [List.length_append]; have := hp.out.1; omega) hbz
        unfold fld
        rw [h1, ← hpn, ← List.append_assoc]
        exact this
      clear hp hIp hP0 h1 h2 h3 h4 h5 h6 hbz hrl hI1' hb1' hre hpn
      go_wp2_with (go_at_call 38; refine hwb.out.mono ?_; rintro r w2 ⟨rfl, hI2, hb2⟩)
      go_end0
      exact ⟨rfl, hI2, hBp.out.trans hb2⟩
    · obtain ⟨hpl, hpm⟩ := hp.out
      have hpm2 : k ≤ p ∧ (p - k) % (k - 1) = 0 := hpm.resolve_left hpn
      obtain ⟨m, hm⟩ : ∃ m, n - p = m := ⟨_, rfl⟩
      obtain ⟨q, hq⟩ : ∃ q, min j m = q := ⟨_, rfl⟩
      obtain ⟨R, hR⟩ : ∃ R, S (t.drop p) = R := ⟨_, rfl⟩
      have hRs : R.size = m := by rw [← hR, S_size, List.length_drop]; omega
      have hRd : R.data.toList = t.drop p := by rw [← hR, S_l]
      have hRe : R.toList.isEmpty = false := by
        rw [← hR, toList_S]
        cases hd : t.drop p with
        | nil => have := congrArg List.length hd; rw [List.length_drop] at this; simp at this; omega
        | cons a b => rfl
      have mq : min (j : Int) (m : Int) = (q : Int) := by omega
      have q0 : (0 : Int) ≤ (q : Int) := Int.natCast_nonneg _
      have q1 : (q : Int) ≤ (m : Int) := by omega
      have hx3 : (R.extract 0 q).data.toList = (t.drop p).take q := by rw [take_l, hRd]
      have hx3s : (R.extract 0 q).size = q := by rw [← size_l, hx3, List.length_take, List.length_drop]; omega
      have hx4 : R.extract q m = S (t.drop (p + q)) := by refine S_eq _ _ ?_; rw [← hRs, drop_l, hRd, List.drop_drop]
      have hnx := rf_next k t p h3 hpm2.1 hpm2.2 q (by omega) (by omega) (by omega)
      have hw1 : Hid (Calls Tryz.prog 37 #[.pointer (some ⟨b, 0, none⟩), .string ⟨#[10, 32]⟩] wr fun r w' => r = .returned (.tuple #[.int .i64 2, .nilIface]) ∧ IsB B b (l ++ rf k t p ++ [10, 32]) w' ∧ Below B wr w') := by
        have := writeString_any B b (l ++ rf k t p) ⟨#[10, 32]⟩ wr hIp.out (by rw [List.length_append, show (⟨#[10, 32]⟩ : ByteArray).size = 2 from rfl]; omega) hbz
        exact this
      have hw2 : ∀ W, IsB B b (l ++ rf k t p ++ [10, 32]) W → B ≤ W.heap.size → Hid (Calls Tryz.prog 37 #[.pointer (some ⟨b, 0, none⟩), .string (R.extract 0 q)] W fun r w' => r = .returned (.tuple #[.int .i64 (q : Int), .nilIface]) ∧ IsB B b (l ++ rf k t (p + q)) w' ∧ Below B W w') := fun W hW hz => by
        have := writeString_any B b (l ++ rf k t p ++ [10, 32]) (R.extract 0 q) W hW (by rw [List.length_append, List.length_append, hx3s]; simp; omega) hz
        rw [hx3, hx3s] at this
        unfold Hid
        rw [hnx]
        rw [List.append_assoc, List.append_assoc] at this
        exact this
      have hw2' : Hid (∀ W, IsB B b (l ++ rf k t p ++ [10, 32]) W → B ≤ W.heap.size → Hid (Calls Tryz.prog 37 #[.pointer (some ⟨b, 0, none⟩), .string (R.extract 0 q)] W fun r w' => r = .returned (.tuple #[.int .i64 (q : Int), .nilIface]) ∧ IsB B b (l ++ rf k t (p + q)) w' ∧ Below B W w')) := hw2
      have hpn' : Hid (p + q ≤ n ∧ (p + q = n ∨ (k ≤ p + q ∧ (p + q - k) % (k - 1) = 0))) := by
        refine ⟨by omega, ?_⟩
        by_cases hc : j ≤ m
        · refine .inr ⟨by omega, ?_⟩
          have e1 : p + q - k = (p - k) + (k - 1) := by omega
          rw [e1, Nat.add_mod_right]
          exact hpm2.2
        · exact .inl (by omega)
      have hsz : Hid (szOfF (.string (S (t.drop (p + q)))) < R.size) := by
        unfold Hid
        show (S _).size < _
        rw [S_size, List.length_drop, hRs]
        omega
      have hbz' : Hid (B ≤ wr.heap.size) := hbz
      rw [hR]
      clear hp hIp hP0 h1 h2 h3 h4 h5 h6 hbz hrl hI1' hb1' hpn hpl hpm hpm2 hm hq hR hRd hx3 hx3s hnx hw2
      go_wp2_with (go_at_call 37; first | (refine hw1.out.mono ?_; clear hw1; rintro r w2 ⟨rfl, hI2, hb2⟩; have hw3 := hw2'.out w2 hI2 (Nat.le_trans hbz'.out hb2.size)) | (refine hw3.out.mono ?_; rintro r w3 ⟨rfl, hI3, hb3⟩))
      first | rw [hx4] | skip
      go_roundw
      case rel => exact ⟨p + q, hpn', rfl, hI3, hBp.out.trans (hb2.trans hb3)⟩
      case measure => exact hsz.out
end Go.Proofs.YtgdinncdhjeokaaGreatDoor

namespace Go.Proofs.YtgdinncdhjeokaaGreatDoor
open Go.RowKit
open LdMath

/-- What Refold answers. -/
def rfT (PL : List (Nat × List UInt8)) (d : Int) : List UInt8 := if d < 2 then [] else flds d.toNat (outL PL)
def rfE (PL : List (Nat × List UInt8)) (d : Int) : Nat × Nat := if d < 2 then (1, 0) else outE PL
theorem ferr_val : ∀ (l : List (Nat × List UInt8)) (a : List UInt8) (p : Nat × Nat), ferr a l = some p → p.1 = 70 ∨ p.1 = 71
  | [], _, _, h => by cases h
  | x :: l, a, p, h => by
    unfold ferr at h
    cases hf : flt a x.2 with
    | none => rw [hf] at h; exact ferr_val l x.2 p h
    | some e =>
      rw [hf] at h
      injection h with h
      subst h
      unfold flt at hf
      split at hf
      · injection hf with hf; exact .inl hf.symm
      · split at hf
        · injection hf with hf; exact .inr hf.symm
        · cases hf
theorem isB_alloc {B b : Nat} {l : List UInt8} {w : World} (h : IsB B b l w) (o : Obj) : IsB B b l (w.alloc o) := by
  have key : ∀ p, Lib.BuilderAt 65 5 B b p (bv l) w → Lib.BuilderAt 65 5 B b p (bv l) (w.alloc o) := by
    rintro p ⟨hB, v, hb, hown, hne⟩
    exact ⟨hB, v, (Below.heap_alloc _ _ _ (Array.getElem?_eq_some_iff.1 hb).1).trans hb, hown.alloc _, hne⟩
  exact h.elim (fun x => .inl (key _ x)) (fun x => .inr (key _ x))
theorem take_nextF {α : Type} (L : List α) (i : Nat) (h : i < L.length) : L.take (i + 1) = L.take i ++ [L[i]] := List.take_succ_eq_append_getElem h
theorem flds_take (k : Nat) (L : List (Nat × List UInt8)) (i : Nat) (h : i < L.length) : flds k (L.take (i + 1)) = flds k (L.take i) ++ fld k L[i].2 := by rw [take_nextF L i h, flds_snoc]

set_option maxRecDepth 100000 in
set_option maxHeartbeats 2000000 in
theorem refold_any (s : ByteArray) (hs : s.size ≤ 4194304) (d : Int) (hd : d ≤ 9223372036854775807) (w : World) :
    Calls Tryz.prog 17 #[.string s, .int .i64 d] w fun e w' => e = .returned (.tuple #[.string (S (rfT (phys s.data.toList) d)), .int .i64 ((rfE (phys s.data.toList) d).1 : Int), .int .i64 ((rfE (phys s.data.toList) d).2 : Int)]) ∧ Below w.heap.size w w' := by
  by_cases h2 : d < 2
  · have e1 : rfT (phys s.data.toList) d = [] := by unfold rfT; rw [if_pos h2]
    have e2 : rfE (phys s.data.toList) d = (1, 0) := by unfold rfE; rw [if_pos h2]
    rw [e1, e2]
    go_enter Tryz.func17, Tryz.ntmps17
    go_wp2_with fail
    go_ret3
    exact ⟨rfl, Below.refl _ _⟩
  · obtain ⟨k, rfl⟩ : ∃ k : Nat, d = (k : Int) := ⟨d.toNat, by omega⟩
    have hk : 2 ≤ k := by omega
    have hk2 : k ≤ 9223372036854775807 := by omega
    have e1 : rfT (phys s.data.toList) (k : Int) = flds k (outL (phys s.data.toList)) := by unfold rfT; rw [if_neg h2, Int.toNat_natCast]
    have e2 : rfE (phys s.data.toList) (k : Int) = outE (phys s.data.toList) := by unfold rfE; rw [if_neg h2]
    rw [e1, e2]
    have hU : Hid (Calls Tryz.prog 23 #[.string s] w fun e w' => ∃ v er ln, e = .returned (.tuple #[v, .agg #[.int .i64 ((er : Nat) : Int), .int .i64 ((ln : Nat) : Int)]]) ∧ UnfIs s.data.toList w.heap.size w' v er ln ∧ Below w.heap.size w w') := unfold_any s hs w
    have hlenP : (outL (phys s.data.toList)).length ≤ 4194305 := outL_len s hs
    have htot : ltot (outL (phys s.data.toList)) ≤ 4194304 := by
      have h1 := joinS_ltot (phys s.data.toList)
      have h2 := phys_tot s.data.toList
      rw [size_l] at h2
      unfold outL
      split
      · exact Nat.zero_le _
      · omega
    obtain ⟨PL, hPL⟩ : ∃ PL, phys s.data.toList = PL := ⟨_, rfl⟩
    unfold UnfIs at hU
    rw [hPL] at hU hlenP htot ⊢
    obtain ⟨L, hL⟩ : ∃ L, outL PL = L := ⟨_, rfl⟩
    obtain ⟨n, hn⟩ : ∃ n, L.length = n := ⟨_, rfl⟩
    obtain ⟨ex, hex⟩ : ∃ ex, (outE PL).1 = ex := ⟨_, rfl⟩
    obtain ⟨ey, hey⟩ : ∃ ey, (outE PL).2 = ey := ⟨_, rfl⟩
    have hor : (ex = 70 ∨ ex = 71) ∧ L = [] ∨ ex = 0 ∧ ey = 0 := by
      rw [← hex, ← hey, ← hL]
      unfold outE outL
      cases hf : ferr [] PL with
      | some p => exact .inl ⟨ferr_val PL [] p hf, rfl⟩
      | none => exact .inr ⟨rfl, rfl⟩
    rw [hL] at hlenP htot ⊢
    rw [hex, hey]
    have hU' : Hid (Calls Tryz.prog 23 #[.string s] w fun e w' => ∃ a c, e = .returned (.tuple #[.slice a n c, .agg #[.int .i64 (ex : Int), .int .i64 (ey : Int)]]) ∧ LinR w' a L ∧ Below w.heap.size w w') := by
      refine hU.out.mono ?_
      rintro e w' ⟨v, er, ln, rfl, h1, h2⟩
      obtain ⟨⟨a, c, rfl, h3⟩, rfl, rfl⟩ := unf_out h1
      rw [hL] at h3 ⊢
      rw [hn, hex, hey]
      exact ⟨a, c, rfl, h3, h2⟩
    have hH : Hid (L.length = n ∧ n ≤ 4194305 ∧ ltot L ≤ 4194304 ∧ 2 ≤ k ∧ k ≤ 9223372036854775807) := ⟨hn, by omega, htot, hk, hk2⟩
    have hk3 : ¬ ((k : Int) < 2) := h2
    clear hU hL hex hey hlenP htot hPL e1 e2 hn hk2 hs
    rcases hor with ⟨hor, rfl⟩ | ⟨rfl, rfl⟩
    · have hx0 : ((ex : Int) != 0) = true := by simp only [bne_iff_ne, ne_eq]; omega
      have hfl : Hid (flds k ([] : List (Nat × List UInt8)) = []) := rfl
      clear hor
      go_enter Tryz.func17, Tryz.ntmps17
      go_upto_region 5 with (go_at_call 23; refine hU'.out.mono ?_; rintro e w1 ⟨a, c, rfl, hR, hb1⟩)
      obtain ⟨W2, hW2⟩ : ∃ W2, w1.alloc (.cells #[.int .i64 (ex : Int), .int .i64 (ey : Int)] 55) = W2 := ⟨_, rfl⟩
      rw [hW2]
      have g2 : W2.heap[w1.heap.size]? = some (.cells #[.int .i64 (ex : Int), .int .i64 (ey : Int)] 55 (0, 0)) := by rw [← hW2]; exact heap_alloc_last w1 _
      have c0 : W2.cell? ⟨w1.heap.size, 0, none⟩ = some (.int .i64 (ex : Int)) := by rw [cell_of_row W2 _ 0 _ _ _ g2]; rfl
      have c1 : W2.cell? ⟨w1.heap.size, 1, none⟩ = some (.int .i64 (ey : Int)) := by rw [cell_of_row W2 _ 1 _ _ _ g2]; rfl
      have hb2 : Below w1.heap.size w1 W2 := by rw [← hW2]; exact (Below.refl _ _).alloc (Nat.le_refl _) _
      clear hW2 g2 hU' hR
      go_region_held3 (fun w' => w'.cell? ⟨w1.heap.size, 0, none⟩ = some (.int .i64 (ex : Int)) ∧ w'.cell? ⟨w1.heap.size, 1, none⟩ = some (.int .i64 (ey : Int)))
        (go_keep)
        (fail)
      go_wp2_with fail
      go_ret3
      have hb3 : Below w1.heap.size w1 W2.drew := hb2.drew
      exact ⟨rfl, hb1.trans (hb3.mono hb1.size)⟩
    · go_enter Tryz.func17, Tryz.ntmps17
      go_wp2_with (go_at_call 23; refine hU'.out.mono ?_; rintro e w1 ⟨a, c, rfl, hR, hb1⟩)
      have hI0 : IsB (w1.heap.size + 1) (w1.heap.size + 1) [] ((w1.alloc (.cells #[.int .i64 0, .int .i64 0] 55)).alloc (.cells #[.pointer none, .slice none 0 0] 65)) := by
        have h := Lib.fresh_isBuilder 65 5 (w1.alloc (.cells #[.int .i64 0, .int .i64 0] 55))
        rw [World.size_alloc] at h
        exact h
      obtain ⟨W3, hW3⟩ : ∃ W3, (w1.alloc (.cells #[.int .i64 0, .int .i64 0] 55)).alloc (.cells #[.pointer none, .slice none 0 0] 65) = W3 := ⟨_, rfl⟩
      rw [hW3] at hI0 ⊢
      have hb3 : Below w1.heap.size w1 W3 := by rw [← hW3]; exact ((Below.refl _ _).alloc (Nat.le_refl _) _).alloc (by simp) _
      have hs3 : W3.heap.size = w1.heap.size + 2 := by rw [← hW3]; simp
      obtain ⟨bb, hbb⟩ : ∃ bb, w1.heap.size + 1 = bb := ⟨_, rfl⟩
      rw [hbb] at hI0 ⊢
      have hK : Hid (LinR w1 a L ∧ Below w.heap.size w w1 ∧ Below w1.heap.size w1 W3 ∧ W3.heap.size = w1.heap.size + 2 ∧ w1.heap.size + 1 = bb) := ⟨hR, hb1, hb3, hs3, hbb⟩
      have hI0' : Hid (IsB bb bb [] W3) := hI0
      clear hR hb1 hb3 hs3 hbb hI0 hW3 hU'
      go_loopw [28] (fun iv wr => ∃ i : Nat, i ≤ n ∧ iv = .int .i64 (i : Int) ∧ Hid (IsB bb bb (flds k (L.take i)) wr) ∧ Hid (Below bb W3 wr)) (fun iv _ => n - (intOf iv).toNat)
      case atStart => exact ⟨0, Nat.zero_le _, rfl, hI0', Below.refl _ _⟩
      case round =>
        obtain ⟨i, hle, rfl, hIi, hB⟩ := hrel
        clear hI0'
        obtain ⟨h1, h2, h3, h4, h5⟩ := hH.out
        obtain ⟨k1, k2, k3, k4, k5⟩ := hK.out
        have hBw : Below w1.heap.size w1 wr := k3.trans (hB.out.mono (by omega))
        have hHB : Hid (Below w.heap.size w wr) := k2.trans (hBw.mono k2.size)
        have hwz : bb ≤ wr.heap.size := by have := hB.out.size; omega
        have i0 : (0 : Int) ≤ (i : Int) := Int.natCast_nonneg _
        have i1 : (i : Int) < 4194306 := by omega
        by_cases hlt : i < n
        · have hiL : i < L.length := by omega
          obtain ⟨g, rfl, c0, c1⟩ := (k1.below hBw) i hiL
          obtain ⟨z, hz⟩ : ∃ z, (L[i].1 : Int) = z := ⟨_, rfl⟩
          obtain ⟨x, hx⟩ : ∃ x, L[i].2 = x := ⟨_, rfl⟩
          rw [hz] at c0
          rw [hx] at c1
          have hft := flds_take k L i hiL
          rw [hx] at hft
          have hxl : x.length ≤ 4194304 := by
            have h6 := ltot_pre (List.take_prefix (i + 1) L)
            rw [take_nextF L i hiL, ltot_snoc, hx] at h6
            omega
          have hfl : (flds k (L.take i)).length ≤ 1073741824 := by
            have h6 := flds_len k (L.take i)
            have h7 := ltot_pre (List.take_prefix i L)
            rw [List.length_take] at h6
            omega
          obtain ⟨Wb, hWb⟩ : ∃ Wb, wr.alloc (.cells #[.int .i64 z, .string (S x)] 45) = Wb := ⟨_, rfl⟩
          have hIb : IsB bb bb (flds k (L.take i)) Wb := by rw [← hWb]; exact isB_alloc hIi.out _
          have hbW : Below bb wr Wb := by rw [← hWb]; exact (Below.refl _ _).alloc hwz _
          have gW : Wb.heap[wr.heap.size]? = some (.cells #[.int .i64 z, .string (S x)] 45 (0, 0)) := by rw [← hWb]; exact heap_alloc_last wr _
          have cW : Wb.cell? ⟨wr.heap.size, 1, none⟩ = some (.string (S x)) := by rw [cell_of_row Wb _ 1 _ _ _ gW]; rfl
          have hWF : Hid (Calls Tryz.prog 26 #[.pointer (some ⟨bb, 0, none⟩), .string (S x), .int .i64 (k : Int)] Wb fun e w' => e = .returned (.tuple #[]) ∧ IsB bb bb (flds k (L.take (i + 1))) w' ∧ Below bb Wb w') := by
            have := writeFolded_any bb bb (flds k (L.take i)) x k Wb hIb (Nat.le_trans hwz hbW.size) h4 h5 hfl hxl
            rw [← hft] at this
            exact this
          have hbW' : Hid (Below bb W3 Wb) := hB.out.trans hbW
          have hWb' : Hid (wr.alloc (.cells #[.int .i64 z, .string (S x)] 45) = Wb) := hWb
          have i2 : (i : Int) < (n : Int) := by omega
          have hlt' : Hid (i < n) := hlt
          clear h1 h2 h3 h4 h5 k1 k2 k3 k4 k5 hBw hwz hiL hft hxl hfl hIb hbW hIi hB hHB gW hlt hle hk hd hz hx
          go_wp2_with (go_at_call 26; refine hWF.out.mono ?_; rintro e w4 ⟨rfl, hI4, hb4⟩)
          go_roundw
          case rel => exact ⟨i + 1, hlt'.out, by simp, hI4, hbW'.out.trans hb4⟩
          case measure => have := hlt'.out; simp [intOf]; omega
        · have hie : n = i := by omega
          subst hie
          have hIf := hIi.out
          rw [List.take_of_length_le (by omega)] at hIf
          have hst : Hid (Calls Tryz.prog 27 #[.pointer (some ⟨bb, 0, none⟩)] wr fun e w' => e = .returned (.string (S (flds k L))) ∧ Below bb wr w') := bString_any _ _ _ wr hIf hwz
          have hfin : Hid (∀ w', Below bb wr w' → Below w.heap.size w w') := fun w' h => hHB.out.trans (h.mono (by have := k2.size; omega))
          clear h1 h2 h3 h4 h5 k1 k2 k3 k4 k5 hBw hwz hIf hIi hB hHB hlt hle hk hd
          go_wp2_with (go_at_call 27; refine hst.out.mono ?_; rintro e w4 ⟨rfl, hb4⟩)
          go_ret3
          exact ⟨rfl, hfin.out _ hb4⟩
end Go.Proofs.YtgdinncdhjeokaaGreatDoor

namespace Go.Proofs.YtgdinncdhjeokaaGreatDoor
namespace Rd
open LdMath
set_option linter.unusedVariables false
set_option maxRecDepth 100000

theorem phR_tot : ∀ (l : List UInt8) (n : Nat) (acc : List UInt8), ltot (phR n acc l) + (phR n acc l).length ≤ acc.length + l.length + 1
  | [], n, acc => by
    rw [phR]
    split
    · simp [ltot]
    · simp [ltot]
  | c :: l, n, acc => by
    rw [phR]
    split
    · have h1 := phR_tot l (n + 1) []
      have h2 := trimCR_len acc
      have e : ltot ((n, trimCR acc) :: phR (n + 1) [] l) = (trimCR acc).length + ltot (phR (n + 1) [] l) := by simp [ltot]
      rw [e]
      simp only [List.length_cons, List.length_nil] at h1 ⊢
      omega
    · have h1 := phR_tot l n (acc ++ [c])
      simp only [List.length_cons, List.length_append, List.length_nil] at h1 ⊢
      omega
theorem phys_both (b : List UInt8) : ltot (phys b) + (phys b).length ≤ b.length + 1 := by
  rw [phys_eq]
  have := phR_tot b 1 []
  simpa using this
/-- What a text and the same refolded have in common. -/
def RfS (b : List UInt8) (w : Nat) (t : List UInt8) : Prop := ferr [] (phys t) = none ∧ (outL (phys t)).map (·.2) = (outL (phys b)).map (·.2) ∧ flds w (outL (phys t)) = t ∧ chk w 0 t ∧ (t ≠ [] → t.getLast? = some 10) ∧ (rdT b).2.1 = (rdT t).2.1 ∧ (ldR b).map (·.2) = (ldR t).map (·.2) ∧ t.length ≤ 3 * b.length + 3
theorem refold_same (b : List UInt8) (w : Nat) (hw : 2 ≤ w) (hf : ferr [] (phys b) = none) : RfS b w (flds w (outL (phys b))) := by
  have hL : outL (phys b) = joinS (phys b) := by unfold outL; rw [hf]
  obtain ⟨hform, _⟩ := join_form (phys b) hf (phys_ten b)
  obtain ⟨h1, M, h2, h3⟩ := flds_read w hw (joinS (phys b)) 1 [] hform
  obtain ⟨t, ht⟩ : ∃ t, flds w (outL (phys b)) = t := ⟨_, rfl⟩
  have hp : phys t = phR 1 [] (flds w (joinS (phys b))) := by rw [phys_eq, ← ht, hL]
  have hft : ferr [] (phys t) = none := by rw [hp]; exact h1
  have hj : joinS (phys t) = M := by
    have := h3 []
    rw [← hp] at this
    simpa [joinS] using this
  have hLt : outL (phys t) = M := by unfold outL; rw [hft]; exact hj
  have hrd : ∀ e e', (rdL e st0 (joinS (phys b))).1.map (·.2) = (rdL e' st0 M).1.map (·.2) ∧ (rdL e st0 (joinS (phys b))).2.1 = (rdL e' st0 M).2.1 := fun e e' => rdL_num e e' _ _ st0 st0 h2 ⟨rfl, rfl⟩
  have r1 : rdT b = rdL ((phys b).length + 1) st0 (joinS (phys b)) := by unfold rdT; rw [hf]
  have r2 : rdT t = rdL ((phys t).length + 1) st0 M := by unfold rdT; rw [hft, ← hj]
  have hnum : (rdT b).2.1 = (rdT t).2.1 := by rw [r1, r2]; exact (hrd _ _).2
  have hrec : (rdT b).1.map (·.2) = (rdT t).1.map (·.2) := by rw [r1, r2]; exact (hrd _ _).1
  rw [ht]
  refine ⟨hft, by rw [hLt, hL, h2], by rw [hLt, ← ht, hL]; exact flds_texts w _ _ h2, ?_, ?_, hnum, ?_, ?_⟩
  · rw [← ht, hL]
    exact chk_flds w hw _ (fun p hp => ⟨(hform p hp).1, (hform p hp).2.1⟩)
  · intro h0
    rw [← ht]
    refine flds_last w _ ?_
    intro e
    rw [e] at ht
    exact h0 (by rw [← ht]; rfl)
  · unfold ldR
    rw [hnum]
    split
    · exact hrec
    · rfl
  · have k1 := flds_len w (joinS (phys b))
    have k2 := joinS_ltot (phys b)
    have k3 := (joinS_sizes (phys b)).1
    have k4 := phys_both b
    rw [← ht, hL]
    omega
end Rd
end Go.Proofs.YtgdinncdhjeokaaGreatDoor

namespace Go.Proofs.YtgdinncdhjeokaaGreatDoor
namespace Rd
open Go.RowKit
open LdMath
open Lr (PR RC pf chg okD dnB ChgTab GOwn GRow pV pV_len Kd PX RX rV rV_len append_gen RRow PRow said rrow_at prow_at drewN_below)
set_option linter.unusedVariables false
set_option maxRecDepth 100000

theorem S_nil_eq {E : ByteArray} (h : S [] = E) : E.toList = [] := by rw [← h]; simp [S, ByteArray.toList, ByteArray.toList.loop, ByteArray.size]
/-- A width below two. -/
theorem rfs_low (s : ByteArray) (hs : s.size ≤ 1048576) (d : Int) (hd : d ≤ 9223372036854775807) (hd2 : d < 2) (w : World) (hWt : WTab w) (hCt : ChgTab w) :
    Calls Tryz.prog 6 #[.string s, .int .i64 d] w fun e w' => e = .returned (.bool true) ∧ Below w.heap.size w w' := by
  have hF : Hid (Calls Tryz.prog 12 #[] w fun e w' => e = .returned (.bool true) ∧ Below w.heap.size w w') := fixed_any w hWt hCt
  obtain ⟨E, hE⟩ : ∃ E, S [] = E := ⟨_, rfl⟩
  have hEe := S_nil_eq hE
  have hR : Hid (∀ W, Calls Tryz.prog 17 #[.string s, .int .i64 d] W fun e w' => e = .returned (.tuple #[.string E, .int .i64 1, .int .i64 0]) ∧ Below W.heap.size W w') := fun W => by
    have h := refold_any s (by omega) d hd W
    have e1 : rfT (phys s.data.toList) d = [] := by unfold rfT; rw [if_pos hd2]
    have e2 : rfE (phys s.data.toList) d = (1, 0) := by unfold rfE; rw [if_pos hd2]
    rw [e1, e2, hE] at h
    exact h
  clear hWt hCt hs hd hE
  go_enter Tryz.func6, Tryz.ntmps6
  go_wp2_with (first
    | (go_at_call 12; refine hF.out.mono ?_; rintro e w1 ⟨rfl, hb1⟩; have H1 : Hid (Below w.heap.size w w1) := hb1; clear hb1 hF)
    | (go_at_call 17; refine (hR.out _).mono ?_; rintro e w2 ⟨rfl, hb2⟩; have H2 : Hid (Below w.heap.size w w2) := H1.out.trans (hb2.mono H1.out.size); clear hb2)
    | (go_at_call 10; refine (num_any _ _).mono ?_; rintro e w9 ⟨rfl, rfl⟩))
  go_ret
  exact ⟨rfl, H2.out⟩
/-- A fault of the lines. -/
theorem rfs_err (s : ByteArray) (hs : s.size ≤ 1048576) (d : Int) (hd : d ≤ 9223372036854775807) (hd2 : ¬ d < 2) (p : Nat × Nat) (hp : ferr [] (phys s.data.toList) = some p) (w : World) (hWt : WTab w) (hCt : ChgTab w) :
    Calls Tryz.prog 6 #[.string s, .int .i64 d] w fun e w' => e = .returned (.bool true) ∧ Below w.heap.size w w' := by
  have hF : Hid (Calls Tryz.prog 12 #[] w fun e w' => e = .returned (.bool true) ∧ Below w.heap.size w w') := fixed_any w hWt hCt
  obtain ⟨E, hE⟩ : ∃ E, S [] = E := ⟨_, rfl⟩
  have hEe := S_nil_eq hE
  have o1 : outL (phys s.data.toList) = [] := by unfold outL; rw [hp]
  have o2 : outE (phys s.data.toList) = p := by unfold outE; rw [hp]
  have hp0 : ((p.1 : Int) != 0) = true := by
    rw [bne_iff_ne]
    have := ferr_val _ _ _ hp
    omega
  have hR : Hid (∀ W, Calls Tryz.prog 17 #[.string s, .int .i64 d] W fun e w' => e = .returned (.tuple #[.string E, .int .i64 (p.1 : Int), .int .i64 (p.2 : Int)]) ∧ Below W.heap.size W w') := fun W => by
    have h := refold_any s (by omega) d hd W
    have e1 : rfT (phys s.data.toList) d = [] := by unfold rfT; rw [if_neg hd2, o1]; rfl
    have e2 : rfE (phys s.data.toList) d = p := by unfold rfE; rw [if_neg hd2, o2]
    rw [e1, e2, hE] at h
    exact h
  have hU : Hid (∀ W, Calls Tryz.prog 13 #[.string s] W fun e w' => ∃ a c, e = .returned (.tuple #[.slice a 0 c, .int .i64 (p.1 : Int), .int .i64 (p.2 : Int)]) ∧ Below W.heap.size W w') := fun W => by
    refine (linesR_any s (by omega) _ rfl 0 (by rw [o1]; rfl) W).mono ?_
    rintro e w' ⟨a, c, rfl, _, hb⟩
    rw [o2]
    exact ⟨a, c, rfl, hb⟩
  generalize (p.1 : Int) = p1 at *
  generalize (p.2 : Int) = p2 at *
  clear hWt hCt hs hd hE o1 o2 hp
  go_enter Tryz.func6, Tryz.ntmps6
  go_wp2_with (first
    | (go_at_call 12; refine hF.out.mono ?_; rintro e w1 ⟨rfl, hb1⟩; have H1 : Hid (Below w.heap.size w w1) := hb1; clear hb1 hF)
    | (go_at_call 13; refine (hU.out _).mono ?_; rintro e w2 ⟨a1, c1, rfl, hb2⟩; have H2 : Hid (Below w.heap.size w w2) := H1.out.trans (hb2.mono H1.out.size); clear hb2)
    | (go_at_call 17; refine (hR.out _).mono ?_; rintro e w3 ⟨rfl, hb3⟩; have H3 : Hid (Below w.heap.size w w3) := H2.out.trans (hb3.mono H2.out.size); clear hb3)
    | (go_at_call 10; refine (num_any _ _).mono ?_; rintro e w9 ⟨rfl, rfl⟩))
  go_ret
  exact ⟨rfl, H3.out⟩
end Rd
end Go.Proofs.YtgdinncdhjeokaaGreatDoor

namespace Go.Proofs.YtgdinncdhjeokaaGreatDoor
namespace Rd
open Go.RowKit
open LdMath
open Lr (PR RC pf chg okD dnB ChgTab GOwn GRow pV pV_len Kd PX RX rV rV_len append_gen RRow PRow said rrow_at prow_at drewN_below)
set_option linter.unusedVariables false
set_option maxRecDepth 100000

theorem chk_at (k r : Nat) (t : ByteArray) (i : Nat) (hi : i < t.size) (h : chk k r (t.data.toList.drop i)) : (t[i] ≠ 10 → r + 1 ≤ k ∧ chk k (r + 1) (t.data.toList.drop (i + 1))) ∧ (t[i] = 10 → (∀ h : i + 1 < t.size, t[i + 1] = 32 → r = k) ∧ chk k 0 (t.data.toList.drop (i + 1))) := by
  have hl : i < t.data.toList.length := by rw [size_l]; exact hi
  have e : t.data.toList.drop i = t[i] :: t.data.toList.drop (i + 1) := List.drop_eq_getElem_cons hl
  rw [e, chk] at h
  refine ⟨fun hc => ?_, fun hc => ?_⟩
  · rw [if_neg hc] at h
    exact h
  · rw [if_pos hc] at h
    refine ⟨fun h2 h3 => h.1 ?_, h.2⟩
    have hl2 : i + 1 < t.data.toList.length := by rw [size_l]; exact h2
    rw [List.drop_eq_getElem_cons hl2]
    have h4 : t.data.toList[i + 1] = 32 := h3
    rw [h4]
    rfl
set_option maxHeartbeats 8000000 in
theorem rfs_main (s : ByteArray) (hs : s.size ≤ 1048576) (k : Nat) (hd : (k : Int) ≤ 9223372036854775807) (hk : 2 ≤ k) (hp : ferr [] (phys s.data.toList) = none) (w : World) (hWt : WTab w) (hCt : ChgTab w) :
    Calls Tryz.prog 6 #[.string s, .int .i64 (k : Int)] w fun e w' => e = .returned (.bool true) ∧ Below w.heap.size w w' := by
  have hF : Hid (Calls Tryz.prog 12 #[] w fun e w' => e = .returned (.bool true) ∧ Below w.heap.size w w') := fixed_any w hWt hCt
  have hd2 : ¬ ((k : Int) < 2) := by omega
  obtain ⟨r1, r2, r3, r4, r5, r6, r7, r8⟩ := refold_same s.data.toList k hk hp
  have o2 : outE (phys s.data.toList) = (0, 0) := by unfold outE; rw [hp]
  obtain ⟨L, hL⟩ : ∃ L, outL (phys s.data.toList) = L := ⟨_, rfl⟩
  rw [hL] at r1 r2 r3 r4 r5 r6 r7 r8
  obtain ⟨t, ht⟩ : ∃ t, S (flds k L) = t := ⟨_, rfl⟩
  have htl : t.data.toList = flds k L := by rw [← ht, S_l]
  rw [← htl] at r1 r2 r3 r4 r5 r6 r7 r8
  have hts : t.size ≤ 4194304 := by rw [size_l, size_l] at r8; omega
  have o3 : outE (phys t.data.toList) = (0, 0) := by unfold outE; rw [r1]
  obtain ⟨M, hM⟩ : ∃ M, outL (phys t.data.toList) = M := ⟨_, rfl⟩
  rw [hM] at r2 r3
  obtain ⟨n, hn⟩ : ∃ n, L.length = n := ⟨_, rfl⟩
  have hn' : M.length = n := by have := congrArg List.length r2; simp at this; rw [this, hn]
  have hnb : n ≤ 4194305 := by rw [← hn, ← hL]; exact outL_len s (by omega)
  have hR : Hid (∀ W, Calls Tryz.prog 17 #[.string s, .int .i64 (k : Int)] W fun e w' => e = .returned (.tuple #[.string t, .int .i64 0, .int .i64 0]) ∧ Below W.heap.size W w') := fun W => by
    have h := refold_any s (by omega) (k : Int) hd W
    have e1 : rfT (phys s.data.toList) (k : Int) = flds k L := by unfold rfT; rw [if_neg hd2, hL]; rfl
    have e2 : rfE (phys s.data.toList) (k : Int) = (0, 0) := by unfold rfE; rw [if_neg hd2, o2]
    rw [e1, e2, ht] at h
    exact h
  have hR2 : Hid (∀ W, Calls Tryz.prog 17 #[.string t, .int .i64 (k : Int)] W fun e w' => e = .returned (.tuple #[.string t, .int .i64 0, .int .i64 0]) ∧ Below W.heap.size W w') := fun W => by
    have h := refold_any t hts (k : Int) hd W
    have e1 : rfT (phys t.data.toList) (k : Int) = t.data.toList := by unfold rfT; rw [if_neg hd2, hM]; exact r3
    have e2 : rfE (phys t.data.toList) (k : Int) = (0, 0) := by unfold rfE; rw [if_neg hd2, o3]
    rw [e1, e2, S_of] at h
    exact h
  have hU : Hid (∀ W, Calls Tryz.prog 13 #[.string s] W fun e w' => ∃ a c, e = .returned (.tuple #[.slice a n c, .int .i64 0, .int .i64 0]) ∧ LinR w' a L ∧ Below W.heap.size W w') := fun W => by
    have h := linesR_any s (by omega) _ rfl n (by rw [hL]; exact hn) W
    rw [o2, hL] at h
    exact h
  have hV : Hid (∀ W, Calls Tryz.prog 13 #[.string t] W fun e w' => ∃ a c, e = .returned (.tuple #[.slice a n c, .int .i64 0, .int .i64 0]) ∧ LinR w' a M ∧ Below W.heap.size W w') := fun W => by
    have h := linesR_any t hts _ rfl n (by rw [hM]; exact hn') W
    rw [o3, hM] at h
    exact h
  have hTx : Hid ((L.length = n ∧ M.length = n) ∧ ∀ j (h : j < L.length) (h' : j < M.length), L[j].2 = M[j].2) := by
    refine ⟨⟨hn, hn'⟩, fun j h h' => ?_⟩
    have := congrArg (fun l => l[j]?) r2
    simp only [List.getElem?_map, List.getElem?_eq_getElem h, List.getElem?_eq_getElem h', Option.map_some, Option.some.injEq] at this
    exact this.symm
  -- the loads
  obtain ⟨m, hm⟩ : ∃ m, (ldR s.data.toList).length = m := ⟨_, rfl⟩
  have hm' : (ldR t.data.toList).length = m := by have := congrArg List.length r7; simp at this; rw [← this, hm]
  have z1 := ldR_size s.data.toList
  rw [size_l] at z1
  obtain ⟨er, her⟩ : ∃ er : Int, ((rdT s.data.toList).2.1 : Int) = er := ⟨_, rfl⟩
  have hL1 : Hid (∀ W, Below w.heap.size w W → Calls Tryz.prog 8 #[.string s] W fun e w' => ∃ a c Rs x, e = .returned (.tuple #[.slice a m c, .int .i64 er, .int .i64 x]) ∧ LdRw w' (ldR s.data.toList) a Rs ∧ Below W.heap.size W w') := fun W hb => by
    refine (loads_any s (by omega) W (hWt.below hb) (hCt.below hb) m hm).mono ?_
    rintro e w' ⟨a, c, Rs, rfl, h1, h2⟩
    rw [her]
    exact ⟨a, c, Rs, _, rfl, h1, h2⟩
  have hL2 : Hid (∀ W, Below w.heap.size w W → Calls Tryz.prog 8 #[.string t] W fun e w' => ∃ a c Rs x, e = .returned (.tuple #[.slice a m c, .int .i64 er, .int .i64 x]) ∧ LdRw w' (ldR t.data.toList) a Rs ∧ Below W.heap.size W w') := fun W hb => by
    refine (loads_any t hts W (hWt.below hb) (hCt.below hb) m hm').mono ?_
    rintro e w' ⟨a, c, Rs, rfl, h1, h2⟩
    rw [← r6, her]
    exact ⟨a, c, Rs, _, rfl, h1, h2⟩
  have hsame : Hid (∀ W a b c d Rs Qs, LdRw W (ldR s.data.toList) a Rs → LdRw W (ldR t.data.toList) b Qs → Calls Tryz.prog 18 #[.slice a m c, .slice b m d, .bool false] W fun e w' => e = .returned (.bool true) ∧ Below W.heap.size W w') := fun W a b c d Rs Qs h1 h2 => by
    refine Lr.sameRecordsF_any a b c d Rs Qs m W (by rw [h1.2.1, hm]) (by rw [h2.2.1, hm']) (by omega) h1.1 h2.1 (fun i hi hi' => ?_) (fun r hr => ?_)
    · have hi1 : i < (ldR s.data.toList).length := by rw [← h1.2.1]; exact hi
      have hi2 : i < (ldR t.data.toList).length := by rw [← h2.2.1]; exact hi'
      rw [(h1.2.2 i hi hi1).2, (h2.2.2 i hi' hi2).2]
      have := congrArg (fun l => l[i]?) r7
      simp only [List.getElem?_map, List.getElem?_eq_getElem hi1, List.getElem?_eq_getElem hi2, Option.map_some, Option.some.injEq] at this
      exact this
    · obtain ⟨i, hi, rfl⟩ := List.getElem_of_mem hr
      have hi1 : i < (ldR s.data.toList).length := by rw [← h1.2.1]; exact hi
      have h3 := (h1.2.2 i hi hi1).2
      have h4 := (z1.2 _ (List.getElem_mem hi1)).2
      have h5 : Rs[i].2.2.2.2 = (ldR s.data.toList)[i].2.2 := congrArg Prod.snd h3
      rw [h5]
      omega
  have hLook : Hid (chk k 0 t.data.toList) := r4
  have hLast : t.size = 0 ∨ ∃ h : t.size - 1 < t.size, t[t.size - 1] = 10 := by
    by_cases h0 : t.size = 0
    · exact .inl h0
    · refine .inr ⟨by omega, ?_⟩
      have h1 := r5 (by intro e; rw [← size_l, e] at h0; exact h0 rfl)
      rw [List.getLast?_eq_getElem?, size_l, List.getElem?_eq_getElem (by rw [size_l]; omega)] at h1
      exact Option.some.inj h1
  have hLast' : Hid (t.size = 0 ∨ ∃ h : t.size - 1 < t.size, t[t.size - 1] = 10) := hLast
  have nb : (n : Int) ≤ 4194305 := by omega
  have tb : (t.size : Int) ≤ 4194304 := by omega
  clear hWt hCt hs r1 r2 r3 r4 r5 r6 r7 r8 o2 o3 hL hM ht htl hts hn hn' hnb hm hm' z1 her hLast hp hk
  go_enter Tryz.func6, Tryz.ntmps6
  go_wp2_with (first
    | (go_at_call 12; refine hF.out.mono ?_; rintro e w1 ⟨rfl, hb1⟩; have H1 : Hid (Below w.heap.size w w1) := hb1; clear hb1 hF)
    | (go_at_call 13; refine (hU.out _).mono ?_; rintro e w2 ⟨a1, c1, rfl, hR1, hb2⟩; have H2 : Hid (LinR w2 a1 L ∧ Below w.heap.size w w2) := ⟨hR1, H1.out.trans (hb2.mono H1.out.size)⟩; clear hb2 hR1 H1 hU)
    | (go_at_call 17; refine (hR.out _).mono ?_; rintro e w3 ⟨rfl, hb3⟩; have H3 : Hid (LinR w3 a1 L ∧ Below w.heap.size w w3) := ⟨H2.out.1.below hb3, H2.out.2.trans (hb3.mono H2.out.2.size)⟩; clear hb3 H2 hR)
    | (go_at_call 13; refine (hV.out _).mono ?_; rintro e w4 ⟨a2, c2, rfl, hR2', hb4⟩; have H4 : Hid (LinR w4 a1 L ∧ LinR w4 a2 M ∧ Below w.heap.size w w4) := ⟨H3.out.1.below hb4, hR2', H3.out.2.trans (hb4.mono H3.out.2.size)⟩; clear hb4 hR2' H3 hV)
    | (go_at_call 17; refine (hR2.out _).mono ?_; rintro e w5 ⟨rfl, hb5⟩; have H5 : Hid (LinR w5 a1 L ∧ LinR w5 a2 M ∧ Below w.heap.size w w5) := ⟨H4.out.1.below hb5, H4.out.2.1.below hb5, H4.out.2.2.trans (hb5.mono H4.out.2.2.size)⟩; clear hb5 H4 hR2)
    | (go_at_call 10; refine (num_any _ _).mono ?_; rintro e w9 ⟨rfl, rfl⟩))
  obtain ⟨W9, rfl⟩ : ∃ W9, W9 = w9 := ⟨_, rfl⟩
  go_loopw [20] (fun iv wr => ∃ i q : Nat, i ≤ n ∧ iv = .int .i64 (i : Int) ∧ Hid (wr = W9.drewN q)) (fun iv _ => n - (intOf iv).toNat)
  case atStart => exact ⟨0, 0, Nat.zero_le _, rfl, rfl⟩
  case round =>
    obtain ⟨j, q, hj, rfl, hw⟩ := hrel
    have j0 : (0 : Int) ≤ (j : Int) := Int.natCast_nonneg _
    by_cases hlt : j < n
    · have j1 : (j : Int) < (n : Int) := Int.ofNat_lt.2 hlt
      have hkL : j < L.length := by rw [hTx.out.1.1]; exact hlt
      have hkM : j < M.length := by rw [hTx.out.1.2]; exact hlt
      obtain ⟨g, rfl, p0, p1⟩ := H5.out.1 j hkL
      obtain ⟨g', rfl, q0, q1⟩ := H5.out.2.1 j hkM
      rw [← hTx.out.2 j hkL hkM] at q1
      have hE : ∀ a, wr.cell? a = W9.cell? a := fun a => by rw [hw.out]; rfl
      rw [← hE] at p1 q1
      generalize S L[j].2 = z2 at *
      have hlt' : Hid (j < n) := hlt
      clear hE hkL hkM hj hlt p0 q0
      go_wp2_with fail
      go_quiet (fail)
      go_wp2_with fail
      go_roundw
      case rel => exact ⟨j + 1, _, hlt'.out, by simp, by unfold Hid; rw [hw.out, World.drewN_drewN]⟩
      case measure => have := hlt'.out; simp [intOf]; omega
    · have e : n = j := by omega
      subst e
      have k1 : ¬ (n : Int) < (n : Int) := by omega
      have hwb : Hid (Below w.heap.size w wr) := by unfold Hid; rw [hw.out]; exact H5.out.2.2.trans (drewN_below _ _ _)
      clear hlt hj H5 hw hTx
      go_wp2_with fail
      obtain ⟨W8, rfl⟩ : ∃ W8, W8 = wr := ⟨_, rfl⟩
      clear k1 j0 nb
      go_loopw [21, 22] (fun rv iv wr => ∃ r i : Nat, i ≤ t.size ∧ r ≤ i ∧ rv = .int .i64 (r : Int) ∧ iv = .int .i64 (i : Int) ∧ Hid (chk k r (t.data.toList.drop i)) ∧ wr = W8) (fun _ iv _ => t.size - (intOf iv).toNat)
      case atStart => exact ⟨0, 0, Nat.zero_le _, Nat.le_refl _, rfl, rfl, hLook, rfl⟩
      case round =>
        obtain ⟨r, i, hi, hri, rfl, rfl, hQ, rfl⟩ := hrel
        have i0 : (0 : Int) ≤ (i : Int) := Int.natCast_nonneg _
        have r0 : (0 : Int) ≤ (r : Int) := Int.natCast_nonneg _
        have i1 : (i : Int) ≤ 4194304 := by omega
        have r1 : (r : Int) ≤ 4194304 := by omega
        by_cases hlt : i < t.size
        · obtain ⟨q1, q2⟩ := chk_at k r t i hlt hQ.out
          obtain ⟨z, hz⟩ : ∃ z : Int, (t[i].toNat : Int) = z := ⟨_, rfl⟩
          by_cases hc : t[i] = 10
          · have hb : (z != 10) = false := by rw [← hz, hc]; rfl
            obtain ⟨q3, q4⟩ := q2 hc
            have q4' : Hid (chk k 0 (t.data.toList.drop (i + 1))) := q4
            have hlt' : Hid (i < t.size) := hlt
            clear q1 q2 q4 hc hQ hri hi
            by_cases h2 : i + 1 < t.size
            · have h2' : (i : Int) + 1 < (t.size : Int) := by omega
              obtain ⟨z', hz'⟩ : ∃ z' : Int, (t[i + 1].toNat : Int) = z' := ⟨_, rfl⟩
              by_cases h32 : t[i + 1] = 32
              · have hb2 : (z' == 32) = true := by rw [← hz', h32]; rfl
                have hrk : r = k := q3 h2 h32
                have hrk' : ((r : Int) != (k : Int)) = false := by rw [hrk]; simp
                clear q3 h32 hrk
                go_wp2_with fail
                go_roundw
                case rel => exact ⟨0, i + 1, hlt'.out, Nat.zero_le _, rfl, by simp, q4', trivial⟩
                case measure => have := hlt'.out; simp [intOf]; omega
              · have hb2 : (z' == 32) = false := by
                  rw [← hz', beq_eq_false_iff_ne]
                  intro e
                  exact h32 (UInt8.toNat_inj.1 (by show _ = 32; omega))
                clear q3 h32
                go_wp2_with fail
                go_roundw
                case rel => exact ⟨0, i + 1, hlt'.out, Nat.zero_le _, rfl, by simp, q4', trivial⟩
                case measure => have := hlt'.out; simp [intOf]; omega
            · have h2' : ¬ ((i : Int) + 1 < (t.size : Int)) := by omega
              clear q3 h2
              go_wp2_with fail
              go_roundw
              case rel => exact ⟨0, i + 1, hlt'.out, Nat.zero_le _, rfl, by simp, q4', trivial⟩
              case measure => have := hlt'.out; simp [intOf]; omega
          · have hb : (z != 10) = true := by
              rw [← hz, bne_iff_ne]
              intro e
              exact hc (UInt8.toNat_inj.1 (by show _ = 10; omega))
            obtain ⟨q3, q4⟩ := q1 hc
            have q4' : Hid (chk k (r + 1) (t.data.toList.drop (i + 1))) := q4
            have q3' : ¬ ((r : Int) + 1 > (k : Int)) := by omega
            have hlt' : Hid (i < t.size ∧ r ≤ i) := ⟨hlt, hri⟩
            clear q1 q2 q3 q4 hc hQ hri hi
            go_wp2_with fail
            go_roundw
            case rel => exact ⟨r + 1, i + 1, hlt'.out.1, by have := hlt'.out.2; omega, by simp, by simp, q4', trivial⟩
            case measure => have := hlt'.out.1; simp [intOf]; omega
        · have hnl : ¬ ((i : Int) < (t.size : Int)) := by omega
          clear hlt hQ hri hi
          rcases hLast'.out with h0 | ⟨h0, h1⟩
          · have h0' : ¬ ((t.size : Int) > 0) := by omega
            clear h0
            go_wp2_with (first
              | (go_at_call 8; refine (hL1.out _ hwb.out).mono ?_; rintro e w6 ⟨a3, c3, R3, x3, rfl, hR3, hb6⟩; have H6 : Hid (LdRw w6 (ldR s.data.toList) a3 R3 ∧ Below w.heap.size w w6) := ⟨hR3, hwb.out.trans (hb6.mono hwb.out.size)⟩; clear hR3 hb6 hL1 hwb)
              | (go_at_call 8; refine (hL2.out _ H6.out.2).mono ?_; rintro e w7 ⟨a4, c4, R4, x4, rfl, hR4, hb7⟩; have H7 : Hid (LdRw w7 (ldR s.data.toList) a3 R3 ∧ LdRw w7 (ldR t.data.toList) a4 R4 ∧ Below w.heap.size w w7) := ⟨H6.out.1.below hb7, hR4, H6.out.2.trans (hb7.mono H6.out.2.size)⟩; clear hR4 hb7 hL2 H6)
              | (go_at_call 10; refine (num_any _ _).mono ?_; rintro e w9 ⟨rfl, rfl⟩)
              | (go_at_call 18; refine (hsame.out _ a3 a4 c3 c4 R3 R4 H7.out.1 H7.out.2.1).mono ?_; rintro e w10 ⟨rfl, hb10⟩; have H10 : Hid (Below w.heap.size w w10) := H7.out.2.2.trans (hb10.mono H7.out.2.2.size); clear hb10))
            go_ret
            exact ⟨rfl, H10.out⟩
          · obtain ⟨z, hz⟩ : ∃ z : Int, (t[t.size - 1].toNat : Int) = z := ⟨_, rfl⟩
            have hb : (z != 10) = false := by rw [← hz, h1]; rfl
            have h0' : (t.size : Int) > 0 := by omega
            clear h1
            go_wp2_with (first
              | (go_at_call 8; refine (hL1.out _ hwb.out).mono ?_; rintro e w6 ⟨a3, c3, R3, x3, rfl, hR3, hb6⟩; have H6 : Hid (LdRw w6 (ldR s.data.toList) a3 R3 ∧ Below w.heap.size w w6) := ⟨hR3, hwb.out.trans (hb6.mono hwb.out.size)⟩; clear hR3 hb6 hL1 hwb)
              | (go_at_call 8; refine (hL2.out _ H6.out.2).mono ?_; rintro e w7 ⟨a4, c4, R4, x4, rfl, hR4, hb7⟩; have H7 : Hid (LdRw w7 (ldR s.data.toList) a3 R3 ∧ LdRw w7 (ldR t.data.toList) a4 R4 ∧ Below w.heap.size w w7) := ⟨H6.out.1.below hb7, hR4, H6.out.2.trans (hb7.mono H6.out.2.size)⟩; clear hR4 hb7 hL2 H6)
              | (go_at_call 10; refine (num_any _ _).mono ?_; rintro e w9 ⟨rfl, rfl⟩)
              | (go_at_call 18; refine (hsame.out _ a3 a4 c3 c4 R3 R4 H7.out.1 H7.out.2.1).mono ?_; rintro e w10 ⟨rfl, hb10⟩; have H10 : Hid (Below w.heap.size w w10) := H7.out.2.2.trans (hb10.mono H7.out.2.2.size); clear hb10))
            go_ret
            exact ⟨rfl, H10.out⟩
end Rd
end Go.Proofs.YtgdinncdhjeokaaGreatDoor

namespace Go.Proofs.YtgdinncdhjeokaaGreatDoor
open Go.RowKit
open LdMath
theorem ldifRefoldSame_w (s : ByteArray) (d : Int) (w : World) (hs : s.size ≤ 1048576) (hd : (Lit.int .i64 d).wf = true) (hWt : WTab w) (hCt : Lr.ChgTab w) :
    Calls Tryz.prog 6 #[.string s, .int .i64 d] w fun e w' => e = .returned (.bool true) ∧ Below w.heap.size w w' := by
  have hd1 : d ≤ 9223372036854775807 := by
    simp [Lit.wf, IntKind.min, IntKind.max, IntKind.signed, IntKind.bits] at hd
    omega
  by_cases h2 : d < 2
  · exact Rd.rfs_low s hs d hd1 h2 w hWt hCt
  · cases hp : ferr [] (phys s.data.toList) with
    | some p => exact Rd.rfs_err s hs d hd1 h2 p hp w hWt hCt
    | none =>
      obtain ⟨k, rfl⟩ : ∃ k : Nat, d = (k : Int) := ⟨d.toNat, by omega⟩
      exact Rd.rfs_main s hs k hd1 (by omega) hp w hWt hCt
end Go.Proofs.YtgdinncdhjeokaaGreatDoor
