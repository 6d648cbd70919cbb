import Derived.Test.YtfpphhbpoaobfaaGreatDoorAtOwn
import Derived.Shelf.Strings.Builder1
import Derived.Test.YtfpphhbpoaobfaaGreatDoorGLrA
import Derived.Test.YtfpphhbpoaobfaaGreatDoorGBase
namespace Go.Proofs.YtfpphhbpoaobfaaGreatDoor
open Go.RowKit Go.Shelf

def ren169 : Go.Shelf.Ren := ⟨fun | 169 => 30 | n => n, fun | 70 => 64 | 9 => 9 | 0 => 0 | 72 => 66 | 37 => 62 | 127 => 97 | 3 => 3 | 5 => 5 | n => n, fun | n => n⟩
theorem lays169 : Go.Proofs.Lays.n169 Tryz.prog ren169 := {
  mixed := by kernel_rfl
  f169 := Tryz.func30.trans (congrArg some (by kernel_rfl))
  t0 := Tryz.underlying0
  a0 := Tryz.isAgg0
  z0 := Tryz.sizeOf0
  v0 := Tryz.zeroValue0
  t3 := Tryz.underlying3
  a3 := Tryz.isAgg3
  z3 := Tryz.sizeOf3
  v3 := Tryz.zeroValue3
  t9 := Tryz.underlying9
  a9 := Tryz.isAgg9
  z9 := Tryz.sizeOf9
  v9 := Tryz.zeroValue9
  t37 := Tryz.underlying62
  a37 := Tryz.isAgg62
  z37 := Tryz.sizeOf62
  v37 := Tryz.zeroValue62
  t70 := Tryz.underlying64
  a70 := Tryz.isAgg64
  z70 := Tryz.sizeOf64
  v70 := Tryz.zeroValue64
  t72 := Tryz.underlying66
  a72 := Tryz.isAgg66
  z72 := Tryz.sizeOf66
  v72 := Tryz.zeroValue66
  t127 := Tryz.underlying97
  a127 := Tryz.isAgg97
  z127 := Tryz.sizeOf97
  v127 := Tryz.zeroValue97 }
theorem extra169 : Builder.Extra Tryz.prog ren169 := {
  sizeBuilder := by kernel_rfl
  liesBuilder := by kernel_rfl
  t5 := Tryz.underlying5
  a5 := Tryz.isAgg5
  z5 := Tryz.sizeOf5
  v5 := Tryz.zeroValue5
  infoByte := by kernel_rfl
  cellsByte := by kernel_rfl
  sizeByte := by kernel_rfl
  neB5 := by decide }
/-- A builder that holds the bytes l. -/
def IsB (B b : Nat) (l : List UInt8) (w : World) : Prop := Lib.IsBuilder 66 5 B b (bv l) w
theorem bytes_bv (l : List UInt8) : Lib.byteCells l = bv l := rfl
theorem bString_any (B b : Nat) (l : List UInt8) (w : World) (h : IsB B b l w) (hBw : B ≤ w.heap.size) :
    Calls Tryz.prog 30 #[.pointer (some ⟨b, 0, none⟩)] w fun e w' => e = .returned (.string (S l)) ∧ Below B w w' := Any.Builder_String_any lays169 extra169 B b l w h hBw

set_option maxHeartbeats 1000000 in
set_option maxRecDepth 100000 in
theorem copyCheck_any (B b : Nat) (l : List UInt8) (w : World) (h : IsB B b l w) :
    Calls Tryz.prog 43 #[.pointer (some ⟨b, 0, none⟩)] w fun e w' => e = .returned (.tuple #[]) ∧ Lib.BuilderAt 66 5 B b (.pointer (some ⟨b, 0, none⟩)) (bv l) w' ∧ Below B w w' := by
  obtain ⟨j, hj, hjs⟩ := Option.map_eq_some_iff.1 extra169.sizeBuilder
  rcases h with h | h
  · have h0 := h.cell0
    have hsh := h.shape
    have hfz := h.frozen0
    go_enter Tryz.func43, Tryz.ntmps43
    go_wp2
    rw [Lib.run_to_unsafe w ⟨b, 0, none⟩ Tryz.underlying64 Tryz.underlying115 hj (by rw [hjs]; decide) hsh (Nat.zero_lt_succ 1)]
    simp only [Result.andThen]
    rw [Oper.upon_value]
    go_wp2
    rw [run_callFunc_extern Tryz.func56 (by kernel_rfl) (by kernel_rfl) (by kernel_rfl) (e := Extern.AbiNoEscape.same) (by kernel_rfl)]
    rw [Lib.run_noEscape]
    simp only [Result.andThen]
    rw [Oper.upon_value]
    go_wp2
    rw [Lib.run_from_unsafe w ⟨b, 0, none⟩ Tryz.underlying115 Tryz.underlying64 hj hsh extra169.liesBuilder]
    simp only [Result.andThen]
    rw [Oper.upon_value]
    go_wp2
    go_end0
    exact ⟨rfl, h.used _, (Below.refl B w).setCell (p := ⟨b, 0, none⟩) h.1 _⟩
  · have h0 := h.cell0
    go_enter Tryz.func43, Tryz.ntmps43
    go_wp2
    rw [Lib.run_neq_ptr_same w _ Tryz.underlying64 hj]
    go_wp2
    go_end0
    exact ⟨rfl, h, Below.refl B _⟩

set_option maxHeartbeats 1000000 in
set_option maxRecDepth 100000 in
theorem writeByte_any (B b : Nat) (l : List UInt8) (c : UInt8) (w : World) (h : IsB B b l w) (hlen : l.length ≤ 1099511627776) (hBw : B ≤ w.heap.size) :
    Calls Tryz.prog 28 #[.pointer (some ⟨b, 0, none⟩), .int .u8 (c.toNat : Int)] w fun e w' => e = .returned .nilIface ∧ IsB B b (l ++ [c]) w' ∧ Below B w w' := by
  go_enter Tryz.func28, Tryz.ntmps28
  go_wp2_with (go_at_call 43; refine (copyCheck_any B b l _ h).mono ?_)
  rintro e w1 ⟨rfl, h1, hb1⟩
  obtain ⟨hB, v, hbk, hown, hne⟩ := h1
  have c0 : w1.cell? ⟨b, 0, none⟩ = some (.pointer (some ⟨b, 0, none⟩)) := by rw [Lib.cell_of_heap hbk]; rfl
  have c1 : w1.cell? ⟨b, 1, none⟩ = some v := by rw [Lib.cell_of_heap hbk]; rfl
  obtain ⟨i0, hi, hz0, hz1, hz2⟩ := info_parts info_u8
  have hlt : b < w1.heap.size := by
    rcases Nat.lt_or_ge b w1.heap.size with h' | h'
    · exact h'
    · simp [Array.getElem?_eq_none h'] at hbk
  have hn1 : w.heap.size ≤ w1.heap.size := hb1.size
  have hbl : Hid ((bv l).length = l.length) := bv_len l
  go_wp2_with (at_builtin; refine wpList_append_own _ rfl _ _ 62 rfl B 5 i0 (.int .u8 0) 1 1 Tryz.underlying62 hi hz0 hz1 hz2 rfl (by decide) _ _ _ rfl (hown.alloc _) ⟨w1.heap.size, 0, none⟩ 1 1 [.int .u8 (c.toNat : Int)] rfl rfl ?_ ?_ ?_ ?_ ?_ ?_)
  · exact cell_one_new _ _ _
  · intro u hu; simp at hu; subst hu; rfl
  · have := hbl.out; unfold maxLen; omega
  · have := hbl.out; omega
  · simp; omega
  intro v' w2 hown' hgrow _
  have hb2 : w2.heap[b]? = some (.cells #[.pointer (some ⟨b, 0, none⟩), v] 66 (0, 0)) := by
    rw [hgrow.block b (by simp; omega) (fun e => hne e.symm), Lib.alloc_old w1 _ b hlt]
    exact hbk
  have d0 : w2.cell? ⟨b, 0, none⟩ = some (.pointer (some ⟨b, 0, none⟩)) := by rw [Lib.cell_of_heap hb2]; rfl
  have d1 : w2.cell? ⟨b, 1, none⟩ = some v := by rw [Lib.cell_of_heap hb2]; rfl
  have f1 : w2.frozen? ⟨b, 1, none⟩ = false := Lib.frozen_of_heap hb2 1
  obtain ⟨g, cap, rfl⟩ : ∃ g cap, v' = .slice (some ⟨g, 0, none⟩) ((bv l).length + 1) cap := by
    rcases hown'.2 with ⟨_, h0⟩ | ⟨g, cap, cur, hv, _⟩
    · omega
    · exact ⟨g, cap, hv⟩
  go_wp2
  go_ret
  refine ⟨rfl, Or.inr ?_, ?_⟩
  · rw [bv_app]
    exact Lib.BuilderAt.put (T := 66) (e := 5) hB hb2 (bs' := bv l ++ [.int .u8 (c.toNat : Int)]) (by simpa using hown') (by decide)
  · exact ((hb1.alloc (by omega) _).grown hgrow (by simp; omega) (fun k hk => (hown.lt k hk).1)).setCell (p := ⟨b, 1, none⟩) hB _

set_option maxHeartbeats 1000000 in
set_option maxRecDepth 100000 in
theorem writeString_any (B b : Nat) (l : List UInt8) (s : ByteArray) (w : World) (h : IsB B b l w) (hlen : l.length + s.size ≤ 1099511627776) (hBw : B ≤ w.heap.size) :
    Calls Tryz.prog 26 #[.pointer (some ⟨b, 0, none⟩), .string s] w fun e w' => e = .returned (.tuple #[.int .i64 s.size, .nilIface]) ∧ IsB B b (l ++ s.data.toList) w' ∧ Below B w w' := by
  go_enter Tryz.func26, Tryz.ntmps26
  go_wp2_with (go_at_call 43; refine (copyCheck_any B b l _ h).mono ?_)
  rintro e w1 ⟨rfl, h1, hb1⟩
  obtain ⟨hB, v, hbk, hown, hne⟩ := h1
  have c0 : w1.cell? ⟨b, 0, none⟩ = some (.pointer (some ⟨b, 0, none⟩)) := by rw [Lib.cell_of_heap hbk]; rfl
  have c1 : w1.cell? ⟨b, 1, none⟩ = some v := by rw [Lib.cell_of_heap hbk]; rfl
  obtain ⟨i0, hi, hz0, hz1, hz2⟩ := info_parts info_u8
  have hlt : b < w1.heap.size := by
    rcases Nat.lt_or_ge b w1.heap.size with h' | h'
    · exact h'
    · simp [Array.getElem?_eq_none h'] at hbk
  have hn1 : w.heap.size ≤ w1.heap.size := hb1.size
  have hbl : Hid ((bv l).length = l.length) := bv_len l
  go_wp2_with (at_builtin; refine Lib.wpList_append_own_string _ rfl _ _ 62 9 rfl B 5 i0 Tryz.underlying62 Tryz.underlying9 hi hz0 hz1 hz2 _ _ _ rfl hown s rfl ?_ ?_ ?_ ?_)
  · have := hbl.out; unfold maxLen; omega
  · have := hbl.out; omega
  · omega
  intro v' w2 hown' hgrow _
  have hb2 : w2.heap[b]? = some (.cells #[.pointer (some ⟨b, 0, none⟩), v] 66 (0, 0)) := by
    rw [hgrow.block b hlt (fun e => hne e.symm)]
    exact hbk
  have d0 : w2.cell? ⟨b, 0, none⟩ = some (.pointer (some ⟨b, 0, none⟩)) := by rw [Lib.cell_of_heap hb2]; rfl
  have d1 : w2.cell? ⟨b, 1, none⟩ = some v := by rw [Lib.cell_of_heap hb2]; rfl
  have f1 : w2.frozen? ⟨b, 1, none⟩ = false := Lib.frozen_of_heap hb2 1
  obtain ⟨ao, n', cap, rfl⟩ : ∃ ao n' cap, v' = .slice ao n' cap := by
    rcases hown'.2 with ⟨hv, _⟩ | ⟨g, cap, cur, hv, _⟩
    · exact ⟨_, _, _, hv⟩
    · exact ⟨_, _, _, hv⟩
  go_wp2
  go_ret2
  refine ⟨rfl, Or.inr ?_, ?_⟩
  · rw [bv_app]
    exact Lib.BuilderAt.put (T := 66) (e := 5) hB hb2 (bs' := bv l ++ Lib.strCells s) (by simpa [Lib.strCells_length] using hown') (by decide)
  · exact (hb1.grown hgrow (by omega) (fun k hk => (hown.lt k hk).1)).setCell (p := ⟨b, 1, none⟩) hB _
end Go.Proofs.YtfpphhbpoaobfaaGreatDoor

namespace Go.Proofs.YtfpphhbpoaobfaaGreatDoor
namespace Lr
open Go.RowKit Go.Shelf
set_option linter.unusedVariables false

/-- What is no builder and no row of bytes stays as it was. -/
def Kt (w w' : World) : Prop := ∀ (k : Nat) (o : Obj), w.heap[k]? = some o → (∀ cs fz, o ≠ .cells cs 66 fz) → (∀ cs fz, o ≠ .cells cs 5 fz) → w'.heap[k]? = some o
theorem Kt.refl (w : World) : Kt w w := fun _ _ h _ _ => h
theorem Kt.trans {a b c : World} (h : Kt a b) (h' : Kt b c) : Kt a c := fun k o q1 q2 q3 => h' k o (h k o q1 q2 q3) q2 q3
theorem Kt.below {w w' : World} (h : Below w.heap.size w w') : Kt w w' := fun k o q _ _ => by rw [h.block k (Array.getElem?_eq_some_iff.1 q).1]; exact q
theorem Kt.alloc (w : World) (o : Obj) : Kt w (w.alloc o) := Kt.below ((Below.refl _ _).alloc (Nat.le_refl _) _)
theorem Kt.set {w : World} {b : Nat} {cs : Array Value} {fz : Nat × Nat} (h : w.heap[b]? = some (.cells cs 66 fz)) (j : Nat) (v : Value) : Kt w (w.setCell ⟨b, j, none⟩ v) := fun k o q1 q2 q3 => by
  have hne : k ≠ b := fun e => by
    subst e
    rw [h] at q1
    injection q1 with q1
    exact q2 cs fz q1.symm
  rw [Below.heap_setCell _ _ _ _ hne]
  exact q1
theorem Kt.grown {w w' : World} {B n : Nat} {v : Value} {xs : List Value} (h : w.ownsRow B 5 1 v n xs) (hg : w.grownBy w' v.ownBlock) : Kt w w' := fun k o q1 q2 q3 => by
  have hlt : k < w.heap.size := (Array.getElem?_eq_some_iff.1 q1).1
  rw [hg.block k hlt (fun e => ?_)]
  · exact q1
  · rcases h with ⟨h1, ⟨rfl, h2⟩ | ⟨g, cap, cur, rfl, h3, h4, h5⟩⟩
    · cases e
    · injection e with e
      subst e
      rw [h4] at q1
      injection q1 with q1
      exact q3 _ _ q1.symm

set_option maxHeartbeats 1000000 in
set_option maxRecDepth 100000 in
theorem copyCheckK_any (B b : Nat) (l : List UInt8) (w : World) (h : IsB B b l w) :
    Calls Tryz.prog 43 #[.pointer (some ⟨b, 0, none⟩)] w fun e w' => e = .returned (.tuple #[]) ∧ Lib.BuilderAt 66 5 B b (.pointer (some ⟨b, 0, none⟩)) (bv l) w' ∧ Below B w w' ∧ Kt w w' := by
  obtain ⟨j, hj, hjs⟩ := Option.map_eq_some_iff.1 extra169.sizeBuilder
  rcases h with h | h
  · have hcp := h
    obtain ⟨_, v0, hbk0, _, _⟩ := hcp
    have h0 := h.cell0
    have hsh := h.shape
    have hfz := h.frozen0
    go_enter Tryz.func43, Tryz.ntmps43
    go_wp2
    rw [Lib.run_to_unsafe w ⟨b, 0, none⟩ Tryz.underlying64 Tryz.underlying115 hj (by rw [hjs]; decide) hsh (Nat.zero_lt_succ 1)]
    simp only [Result.andThen]
    rw [Oper.upon_value]
    go_wp2
    rw [run_callFunc_extern Tryz.func56 (by kernel_rfl) (by kernel_rfl) (by kernel_rfl) (e := Extern.AbiNoEscape.same) (by kernel_rfl)]
    rw [Lib.run_noEscape]
    simp only [Result.andThen]
    rw [Oper.upon_value]
    go_wp2
    rw [Lib.run_from_unsafe w ⟨b, 0, none⟩ Tryz.underlying115 Tryz.underlying64 hj hsh extra169.liesBuilder]
    simp only [Result.andThen]
    rw [Oper.upon_value]
    go_wp2
    go_end0
    exact ⟨rfl, h.used _, (Below.refl B w).setCell (p := ⟨b, 0, none⟩) h.1 _, Kt.set hbk0 0 _⟩
  · have h0 := h.cell0
    go_enter Tryz.func43, Tryz.ntmps43
    go_wp2
    rw [Lib.run_neq_ptr_same w _ Tryz.underlying64 hj]
    go_wp2
    go_end0
    exact ⟨rfl, h, Below.refl B _, Kt.refl _⟩

set_option maxHeartbeats 1000000 in
set_option maxRecDepth 100000 in
theorem writeByteK_any (B b : Nat) (l : List UInt8) (c : UInt8) (w : World) (h : IsB B b l w) (hlen : l.length ≤ 1099511627776) (hBw : B ≤ w.heap.size) :
    Calls Tryz.prog 28 #[.pointer (some ⟨b, 0, none⟩), .int .u8 (c.toNat : Int)] w fun e w' => e = .returned .nilIface ∧ IsB B b (l ++ [c]) w' ∧ Below B w w' ∧ Kt w w' := by
  go_enter Tryz.func28, Tryz.ntmps28
  go_wp2_with (go_at_call 43; refine (copyCheckK_any B b l _ h).mono ?_)
  rintro e w1 ⟨rfl, h1, hb1, hk1⟩
  obtain ⟨hB, v, hbk, hown, hne⟩ := h1
  have c0 : w1.cell? ⟨b, 0, none⟩ = some (.pointer (some ⟨b, 0, none⟩)) := by rw [Lib.cell_of_heap hbk]; rfl
  have c1 : w1.cell? ⟨b, 1, none⟩ = some v := by rw [Lib.cell_of_heap hbk]; rfl
  obtain ⟨i0, hi, hz0, hz1, hz2⟩ := info_parts info_u8
  have hlt : b < w1.heap.size := by
    rcases Nat.lt_or_ge b w1.heap.size with h' | h'
    · exact h'
    · simp [Array.getElem?_eq_none h'] at hbk
  have hn1 : w.heap.size ≤ w1.heap.size := hb1.size
  have hbl : Hid ((bv l).length = l.length) := bv_len l
  go_wp2_with (at_builtin; refine wpList_append_own _ rfl _ _ 62 rfl B 5 i0 (.int .u8 0) 1 1 Tryz.underlying62 hi hz0 hz1 hz2 rfl (by decide) _ _ _ rfl (hown.alloc _) ⟨w1.heap.size, 0, none⟩ 1 1 [.int .u8 (c.toNat : Int)] rfl rfl ?_ ?_ ?_ ?_ ?_ ?_)
  · exact cell_one_new _ _ _
  · intro u hu; simp at hu; subst hu; rfl
  · have := hbl.out; unfold maxLen; omega
  · have := hbl.out; omega
  · simp; omega
  intro v' w2 hown' hgrow _
  have hb2 : w2.heap[b]? = some (.cells #[.pointer (some ⟨b, 0, none⟩), v] 66 (0, 0)) := by
    rw [hgrow.block b (by simp; omega) (fun e => hne e.symm), Lib.alloc_old w1 _ b hlt]
    exact hbk
  have d0 : w2.cell? ⟨b, 0, none⟩ = some (.pointer (some ⟨b, 0, none⟩)) := by rw [Lib.cell_of_heap hb2]; rfl
  have d1 : w2.cell? ⟨b, 1, none⟩ = some v := by rw [Lib.cell_of_heap hb2]; rfl
  have f1 : w2.frozen? ⟨b, 1, none⟩ = false := Lib.frozen_of_heap hb2 1
  obtain ⟨g, cap, rfl⟩ : ∃ g cap, v' = .slice (some ⟨g, 0, none⟩) ((bv l).length + 1) cap := by
    rcases hown'.2 with ⟨_, h0⟩ | ⟨g, cap, cur, hv, _⟩
    · omega
    · exact ⟨g, cap, hv⟩
  go_wp2
  go_ret
  refine ⟨rfl, Or.inr ?_, ?_, ?_⟩
  · rw [bv_app]
    exact Lib.BuilderAt.put (T := 66) (e := 5) hB hb2 (bs' := bv l ++ [.int .u8 (c.toNat : Int)]) (by simpa using hown') (by decide)
  · exact ((hb1.alloc (by omega) _).grown hgrow (by simp; omega) (fun k hk => (hown.lt k hk).1)).setCell (p := ⟨b, 1, none⟩) hB _
  · exact hk1.trans ((Kt.alloc w1 _).trans ((Kt.grown (hown.alloc _) hgrow).trans (Kt.set hb2 1 _)))

set_option maxHeartbeats 1000000 in
set_option maxRecDepth 100000 in
theorem writeStringK_any (B b : Nat) (l : List UInt8) (s : ByteArray) (w : World) (h : IsB B b l w) (hlen : l.length + s.size ≤ 1099511627776) (hBw : B ≤ w.heap.size) :
    Calls Tryz.prog 26 #[.pointer (some ⟨b, 0, none⟩), .string s] w fun e w' => e = .returned (.tuple #[.int .i64 s.size, .nilIface]) ∧ IsB B b (l ++ s.data.toList) w' ∧ Below B w w' ∧ Kt w w' := by
  go_enter Tryz.func26, Tryz.ntmps26
  go_wp2_with (go_at_call 43; refine (copyCheckK_any B b l _ h).mono ?_)
  rintro e w1 ⟨rfl, h1, hb1, hk1⟩
  obtain ⟨hB, v, hbk, hown, hne⟩ := h1
  have c0 : w1.cell? ⟨b, 0, none⟩ = some (.pointer (some ⟨b, 0, none⟩)) := by rw [Lib.cell_of_heap hbk]; rfl
  have c1 : w1.cell? ⟨b, 1, none⟩ = some v := by rw [Lib.cell_of_heap hbk]; rfl
  obtain ⟨i0, hi, hz0, hz1, hz2⟩ := info_parts info_u8
  have hlt : b < w1.heap.size := by
    rcases Nat.lt_or_ge b w1.heap.size with h' | h'
    · exact h'
    · simp [Array.getElem?_eq_none h'] at hbk
  have hn1 : w.heap.size ≤ w1.heap.size := hb1.size
  have hbl : Hid ((bv l).length = l.length) := bv_len l
  go_wp2_with (at_builtin; refine Lib.wpList_append_own_string _ rfl _ _ 62 9 rfl B 5 i0 Tryz.underlying62 Tryz.underlying9 hi hz0 hz1 hz2 _ _ _ rfl hown s rfl ?_ ?_ ?_ ?_)
  · have := hbl.out; unfold maxLen; omega
  · have := hbl.out; omega
  · omega
  intro v' w2 hown' hgrow _
  have hb2 : w2.heap[b]? = some (.cells #[.pointer (some ⟨b, 0, none⟩), v] 66 (0, 0)) := by
    rw [hgrow.block b hlt (fun e => hne e.symm)]
    exact hbk
  have d0 : w2.cell? ⟨b, 0, none⟩ = some (.pointer (some ⟨b, 0, none⟩)) := by rw [Lib.cell_of_heap hb2]; rfl
  have d1 : w2.cell? ⟨b, 1, none⟩ = some v := by rw [Lib.cell_of_heap hb2]; rfl
  have f1 : w2.frozen? ⟨b, 1, none⟩ = false := Lib.frozen_of_heap hb2 1
  obtain ⟨ao, n', cap, rfl⟩ : ∃ ao n' cap, v' = .slice ao n' cap := by
    rcases hown'.2 with ⟨hv, _⟩ | ⟨g, cap, cur, hv, _⟩
    · exact ⟨_, _, _, hv⟩
    · exact ⟨_, _, _, hv⟩
  go_wp2
  go_ret2
  refine ⟨rfl, Or.inr ?_, ?_, ?_⟩
  · rw [bv_app]
    exact Lib.BuilderAt.put (T := 66) (e := 5) hB hb2 (bs' := bv l ++ Lib.strCells s) (by simpa [Lib.strCells_length] using hown') (by decide)
  · exact (hb1.grown hgrow (by omega) (fun k hk => (hown.lt k hk).1)).setCell (p := ⟨b, 1, none⟩) hB _
  · exact hk1.trans ((Kt.grown hown hgrow).trans (Kt.set hb2 1 _))
end Lr
end Go.Proofs.YtfpphhbpoaobfaaGreatDoor

namespace Go.Proofs.YtfpphhbpoaobfaaGreatDoor
namespace Lr
open Go.RowKit
open TextMath (b64 fold)
set_option linter.unusedVariables false
set_option maxRecDepth 100000

/-- A builder at block b that holds l, made behind w0. -/
def Bd (b : Nat) (w0 wS : World) (l : List UInt8) (W : World) : Prop := IsB w0.heap.size b l W ∧ Below w0.heap.size w0 W ∧ Kt wS W
theorem isB_below {B b : Nat} {l : List UInt8} {W W' : World} (h : IsB B b l W) (hb : Below W.heap.size W W') : IsB B b l W' := by
  have key : ∀ p, Lib.BuilderAt 66 5 B b p (bv l) W → Lib.BuilderAt 66 5 B b p (bv l) W' := fun p hp => by
    obtain ⟨h1, v, h2, h3, h4⟩ := hp
    have hlt : b < W.heap.size := (Array.getElem?_eq_some_iff.1 h2).1
    exact ⟨h1, v, by rw [hb.block b hlt]; exact h2, owns_same h3 (fun g hg => hb.block g (World.ownsRow.lt h3 g hg).2), h4⟩
  rcases h with h | h
  · exact Or.inl (key _ h)
  · exact Or.inr (key _ h)
theorem Bd.below {b : Nat} {w0 wS : World} {l : List UInt8} {W W' : World} (h : Bd b w0 wS l W) (hb : Below W.heap.size W W') : Bd b w0 wS l W' := ⟨isB_below h.1 hb, h.2.1.trans (hb.mono h.2.1.size), h.2.2.trans (Kt.below hb)⟩
theorem Bd.byte {b : Nat} {w0 wS : World} {l : List UInt8} {W : World} (h : Bd b w0 wS l W) (c : UInt8) (hl : l.length ≤ 1099511627776) :
    Calls Tryz.prog 28 #[.pointer (some ⟨b, 0, none⟩), .int .u8 (c.toNat : Int)] W fun e w' => e = .returned .nilIface ∧ Bd b w0 wS (l ++ [c]) w' := by
  refine (writeByteK_any w0.heap.size b l c W h.1 hl h.2.1.size).mono ?_
  rintro e w' ⟨rfl, h1, h2, h3⟩
  exact ⟨rfl, h1, h.2.1.trans h2, h.2.2.trans h3⟩
theorem Bd.str {b : Nat} {w0 wS : World} {l : List UInt8} {W : World} (h : Bd b w0 wS l W) (s : ByteArray) (hl : l.length + s.size ≤ 1099511627776) :
    Calls Tryz.prog 26 #[.pointer (some ⟨b, 0, none⟩), .string s] W fun e w' => e = .returned (.tuple #[.int .i64 s.size, .nilIface]) ∧ Bd b w0 wS (l ++ s.data.toList) w' := by
  refine (writeStringK_any w0.heap.size b l s W h.1 hl h.2.1.size).mono ?_
  rintro e w' ⟨rfl, h1, h2, h3⟩
  exact ⟨rfl, h1, h.2.1.trans h2, h.2.2.trans h3⟩
theorem Bd.rebase {b : Nat} {w0 wS : World} {l : List UInt8} {W : World} (h : Bd b w0 wS l W) : Bd b w0 W l W := ⟨h.1, h.2.1, Kt.refl _⟩
theorem nil_toList (v : ByteArray) : (v.toList == []) = decide (v.data.toList = []) := by
  rw [Lib.toList_data]
  cases v.data.toList <;> rfl
set_option maxHeartbeats 2000000 in
theorem writeLine_any (b : Nat) (w0 wS : World) (l : List UInt8) (d v : ByteArray) (w : World) (h : Bd b w0 wS l w) (ht : AlTab w0) (hz : l.length + d.size + 2 * v.size ≤ 1073741824) :
    Calls Tryz.prog 45 #[.pointer (some ⟨b, 0, none⟩), .string d, .string v] w fun e w' => e = .returned (.tuple #[]) ∧ Bd b w0 wS (l ++ lin d.data.toList v.data.toList) w' := by
  have hz' : Hid (l.length + d.size + 2 * v.size ≤ 1073741824) := hz
  have ht' : Hid (AlTab w0) := ht
  have hdl : Hid (d.data.toList.length = d.size) := size_l d
  have hvl : Hid (v.data.toList.length = v.size) := size_l v
  have hS : Hid (Calls Tryz.prog 26 #[.pointer (some ⟨b, 0, none⟩), .string d] w fun e w' => e = .returned (.tuple #[.int .i64 d.size, .nilIface]) ∧ Bd b w0 wS (l ++ d.data.toList) w') := h.str d (by omega)
  have hv0 := nil_toList v
  clear h hz ht
  go_enter Tryz.func45, Tryz.ntmps45
  go_wp2_with fail
  refine hS.out.mono ?_
  rintro e w1 ⟨rfl, h1⟩
  have hB1 : Hid (Calls Tryz.prog 28 #[.pointer (some ⟨b, 0, none⟩), .int .u8 58] w1 fun e w' => e = .returned .nilIface ∧ Bd b w0 wS (l ++ d.data.toList ++ [58]) w') := h1.byte 58 (by rw [List.length_append, hdl.out]; have := hz'.out; omega)
  clear h1 hS
  go_wp2_with fail
  refine hB1.out.mono ?_
  rintro e w2 ⟨rfl, h2⟩
  have h2' : Hid (Bd b w0 wS (l ++ d.data.toList ++ [58]) w2) := h2
  have hl2 : Hid ((l ++ d.data.toList ++ [58]).length = l.length + d.size + 1) := by unfold Hid; rw [List.length_append, List.length_append, hdl.out]; rfl
  clear h2 hB1
  by_cases hv : v.data.toList = []
  · rw [decide_eq_true hv] at hv0
    have hB3 : Hid (Calls Tryz.prog 28 #[.pointer (some ⟨b, 0, none⟩), .int .u8 10] w2 fun e w' => e = .returned .nilIface ∧ Bd b w0 wS (l ++ d.data.toList ++ [58] ++ [10]) w') := h2'.out.byte 10 (by rw [hl2.out]; have := hz'.out; omega)
    have hfin : Hid (l ++ lin d.data.toList v.data.toList = l ++ d.data.toList ++ [58] ++ [10]) := by unfold Hid lin beh; rw [if_pos hv]; simp
    clear hv
    go_wp2_with fail
    refine hB3.out.mono ?_
    rintro e w3 ⟨rfl, h3⟩
    go_wp2_with fail
    go_end0
    exact ⟨rfl, by rw [hfin.out]; exact h3⟩
  · rw [decide_eq_false hv] at hv0
    have hP : Hid (Calls Tryz.prog 58 #[.string v] w2 fun e w' => e = .returned (.bool (plain v.data.toList)) ∧ Below w2.heap.size w2 w') := plain_any v w2 (by have := hz'.out; omega)
    cases hp : plain v.data.toList with
    | true =>
      have hfin : Hid (l ++ lin d.data.toList v.data.toList = l ++ d.data.toList ++ [58] ++ [32] ++ v.data.toList ++ [10]) := by unfold Hid lin beh; rw [if_neg hv, if_pos hp]; simp
      rw [hp] at hP
      clear hv hp
      go_wp2_with fail
      refine hP.out.mono ?_
      rintro e w3 ⟨rfl, hb3⟩
      have hB4 : Hid (Calls Tryz.prog 28 #[.pointer (some ⟨b, 0, none⟩), .int .u8 32] w3 fun e w' => e = .returned .nilIface ∧ Bd b w0 wS (l ++ d.data.toList ++ [58] ++ [32]) w') := (h2'.out.below hb3).byte 32 (by rw [hl2.out]; have := hz'.out; omega)
      clear hb3 hP
      go_wp2_with fail
      refine hB4.out.mono ?_
      rintro e w4 ⟨rfl, h4⟩
      have hS5 : Hid (Calls Tryz.prog 26 #[.pointer (some ⟨b, 0, none⟩), .string v] w4 fun e w' => e = .returned (.tuple #[.int .i64 v.size, .nilIface]) ∧ Bd b w0 wS (l ++ d.data.toList ++ [58] ++ [32] ++ v.data.toList) w') := h4.str v (by rw [List.length_append, hl2.out]; have := hz'.out; simp; omega)
      clear h4 hB4
      go_wp2_with fail
      refine hS5.out.mono ?_
      rintro e w5 ⟨rfl, h5⟩
      have hB6 : Hid (Calls Tryz.prog 28 #[.pointer (some ⟨b, 0, none⟩), .int .u8 10] w5 fun e w' => e = .returned .nilIface ∧ Bd b w0 wS (l ++ d.data.toList ++ [58] ++ [32] ++ v.data.toList ++ [10]) w') := h5.byte 10 (by rw [List.length_append, List.length_append, hl2.out, hvl.out]; have := hz'.out; simp; omega)
      clear h5 hS5
      go_wp2_with fail
      refine hB6.out.mono ?_
      rintro e w6 ⟨rfl, h6⟩
      go_wp2_with fail
      go_end0
      exact ⟨rfl, by rw [hfin.out]; exact h6⟩
    | false =>
      have hfin : Hid (l ++ lin d.data.toList v.data.toList = l ++ d.data.toList ++ [58] ++ [58] ++ [32] ++ b64 v.data.toList ++ [10]) := by unfold Hid lin beh; rw [if_neg hv, if_neg (by rw [hp]; decide)]; simp
      have hbl : Hid ((b64 v.data.toList).length ≤ 2 * v.size + 4) := by unfold Hid; rw [TextMath.b64_len, hvl.out]; omega
      rw [hp] at hP
      clear hv hp
      go_wp2_with fail
      refine hP.out.mono ?_
      rintro e w3 ⟨rfl, hb3⟩
      have hB4 : Hid (Calls Tryz.prog 28 #[.pointer (some ⟨b, 0, none⟩), .int .u8 58] w3 fun e w' => e = .returned .nilIface ∧ Bd b w0 wS (l ++ d.data.toList ++ [58] ++ [58]) w') := (h2'.out.below hb3).byte 58 (by rw [hl2.out]; have := hz'.out; omega)
      clear hb3 hP
      go_wp2_with fail
      refine hB4.out.mono ?_
      rintro e w4 ⟨rfl, h4⟩
      have h4' : Hid (Bd b w0 wS (l ++ d.data.toList ++ [58] ++ [58]) w4) := h4
      have hE : Hid (Calls Tryz.prog 59 #[.string v] w4 fun e w' => e = .returned (.string (S (b64 v.data.toList))) ∧ Below w4.heap.size w4 w') := base64_any v w4 (by have := hz'.out; omega) (ht'.out.below h4.2.1)
      clear h4 hB4
      go_wp2_with fail
      refine hE.out.mono ?_
      rintro e w5 ⟨rfl, hb5⟩
      have hB6 : Hid (Calls Tryz.prog 28 #[.pointer (some ⟨b, 0, none⟩), .int .u8 32] w5 fun e w' => e = .returned .nilIface ∧ Bd b w0 wS (l ++ d.data.toList ++ [58] ++ [58] ++ [32]) w') := (h4'.out.below hb5).byte 32 (by rw [List.length_append, hl2.out]; have := hz'.out; simp; omega)
      clear hb5 hE
      go_wp2_with fail
      refine hB6.out.mono ?_
      rintro e w6 ⟨rfl, h6⟩
      have hS7 : Hid (Calls Tryz.prog 26 #[.pointer (some ⟨b, 0, none⟩), .string (S (b64 v.data.toList))] w6 fun e w' => e = .returned (.tuple #[.int .i64 (S (b64 v.data.toList)).size, .nilIface]) ∧ Bd b w0 wS (l ++ d.data.toList ++ [58] ++ [58] ++ [32] ++ b64 v.data.toList) w') := by
        have := h6.str (S (b64 v.data.toList)) (by rw [List.length_append, List.length_append, hl2.out, S_size]; have := hz'.out; have := hbl.out; simp; omega)
        rw [S_l] at this
        exact this
      clear h6 hB6
      generalize S (b64 v.data.toList) = E at *
      go_wp2_with fail
      refine hS7.out.mono ?_
      rintro e w7 ⟨rfl, h7⟩
      have hB8 : Hid (Calls Tryz.prog 28 #[.pointer (some ⟨b, 0, none⟩), .int .u8 10] w7 fun e w' => e = .returned .nilIface ∧ Bd b w0 wS (l ++ d.data.toList ++ [58] ++ [58] ++ [32] ++ b64 v.data.toList ++ [10]) w') := h7.byte 10 (by rw [List.length_append, List.length_append, List.length_append, hl2.out]; have := hz'.out; have := hbl.out; simp; omega)
      clear h7 hS7
      go_wp2_with fail
      refine hB8.out.mono ?_
      rintro e w8 ⟨rfl, h8⟩
      go_wp2_with fail
      go_end0
      exact ⟨rfl, by rw [hfin.out]; exact h8⟩
end Lr
end Go.Proofs.YtfpphhbpoaobfaaGreatDoor

namespace Go.Proofs.YtfpphhbpoaobfaaGreatDoor
namespace Lr
open Go.RowKit
open TextMath (b64 fold)
set_option linter.unusedVariables false
set_option maxRecDepth 100000

/-- Where a record's pairs lie, their room, the pairs; a record with its line and name. -/
abbrev PX := Option Addr × Nat × List PR
abbrev RX := Int × List UInt8 × PX
def pV (p : PR) : List Value := [.string (S p.1), .string (S p.2)]
def rV (r : RX) : List Value := [.int .i64 r.1, .string (S r.2.1), .slice r.2.2.1 r.2.2.2.2.length r.2.2.2.1]
/-- What a record says. -/
def said (r : RX) : RC := (r.2.1, r.2.2.2.2)
theorem pV_len (p : PR) : (pV p).length = 2 := rfl
theorem rV_len (r : RX) : (rV r).length = 3 := rfl
abbrev PRow (w : World) (a : Option Addr) (l : List PR) : Prop := GRow 2 pV w a l
theorem prow_at {w : World} {a : Option Addr} {l : List PR} (h : PRow w a l) (i : Nat) (hi : i < l.length) : ∃ b off, a = some ⟨b, off, none⟩ ∧ w.cell? ⟨b, off + i * 2, none⟩ = some (.string (S l[i].1)) ∧ w.cell? ⟨b, off + i * 2 + 1, none⟩ = some (.string (S l[i].2)) := by
  obtain ⟨b, off, e, h1⟩ := h i hi
  exact ⟨b, off, e, h1 0 (by omega), h1 1 (by omega)⟩
/-- Records, wherever they lie, their pairs too. -/
def RRow (w : World) (a : Option Addr) (L : List RX) : Prop := GRow 3 rV w a L ∧ ∀ r ∈ L, PRow w r.2.2.1 r.2.2.2.2 ∧ r.2.2.2.2.length ≤ r.2.2.2.1 ∧ r.2.2.2.1 ≤ maxLen
theorem RRow.below {w w' : World} {a : Option Addr} {L : List RX} (h : RRow w a L) (hb : Below w.heap.size w w') : RRow w' a L := ⟨h.1.below rV_len hb, fun r hr => ⟨(h.2 r hr).1.below pV_len hb, (h.2 r hr).2⟩⟩
theorem rrow_at {w : World} {a : Option Addr} {L : List RX} (h : RRow w a L) (i : Nat) (hi : i < L.length) : ∃ b off, a = some ⟨b, off, none⟩ ∧ w.cell? ⟨b, off + i * 3, none⟩ = some (.int .i64 L[i].1) ∧ w.cell? ⟨b, off + i * 3 + 1, none⟩ = some (.string (S L[i].2.1)) ∧ w.cell? ⟨b, off + i * 3 + 2, none⟩ = some (.slice L[i].2.2.1 L[i].2.2.2.2.length L[i].2.2.2.1) := by
  obtain ⟨b, off, e, h1⟩ := h.1 i hi
  exact ⟨b, off, e, h1 0 (by omega), h1 1 (by omega), h1 2 (by omega)⟩

set_option maxHeartbeats 1000000 in
theorem wordFault_any (s : ByteArray) (first : Bool) (kv : Int) (hk : kv = if first = true then 3 else 4) (w : World) (hs : s.size ≤ 10485760) (hT : ChgTab w) :
    Calls Tryz.prog 44 #[.string s, .int .i64 kv] w fun e w' => e = .returned (.int .i64 (pf first s.data.toList : Nat)) ∧ Below w.heap.size w w' := by
  obtain ⟨f, hf⟩ : ∃ f, S (fold s.data.toList) = f := ⟨_, rfl⟩
  have hfl : f.data.toList = fold s.data.toList := by rw [← hf, S_l]
  have hF : Hid (Calls Tryz.prog 32 #[.string s] w fun e w' => e = .returned (.string f) ∧ Below w.heap.size w w') := by
    have := fold_any s w (by unfold maxLen; omega)
    rw [hf] at this
    exact this
  have hC : Hid (∀ W, Below w.heap.size w W → Calls Tryz.prog 57 #[.string f] W fun e w' => e = .returned (.bool (chg s.data.toList)) ∧ W = w') := fun W hW => by
    have := tells_any f W (hT.below hW)
    rw [hfl] at this
    exact this
  have hP : Hid (∀ W, Calls Tryz.prog 31 #[.string s] W fun e w' => (∃ t a n c q, e = .returned (.tuple #[.agg #[.string t, .slice a n c], .int .i64 (if dacc (drun 0 (fold s.data.toList)) = true then 0 else 40), .int .i64 q])) ∧ Below W.heap.size W w') := fun W => parseE_any s W hs
  have hdn : (f.toList == [100, 110]) = (fold s.data.toList == dnB) := by rw [Lib.toList_data, hfl]; rfl
  have hok : Hid (okD s.data.toList = (dacc (drun 0 (fold s.data.toList)) && !(fold s.data.toList == dnB))) := rfl
  generalize dacc (drun 0 (fold s.data.toList)) = x at *
  generalize (fold s.data.toList == dnB) = y at *
  unfold pf
  cases first with
  | true =>
    rw [if_pos rfl] at hk
    subst hk
    cases hc : chg s.data.toList with
    | true =>
      rw [hc] at hC
      clear hc hf hfl hs hT hdn
      go_enter Tryz.func44, Tryz.ntmps44
      go_wp2_with (first
        | (go_at_call 32; refine hF.out.mono ?_; rintro e w1 ⟨rfl, hb1⟩; have H1 : Hid (Below w.heap.size w w1) := hb1; clear hb1)
        | (go_at_call 57; refine (hC.out w1 H1.out).mono ?_; rintro e w2 ⟨rfl, rfl⟩))
      go_ret
      exact ⟨rfl, H1.out⟩
    | false =>
      rw [hc] at hC
      clear hc hf hfl hs hT
      rw [hok.out]
      clear hok
      cases x <;> cases y
      all_goals
        go_enter Tryz.func44, Tryz.ntmps44
        go_wp2_with (first
          | (go_at_call 32; refine hF.out.mono ?_; rintro e w1 ⟨rfl, hb1⟩; have H1 : Hid (Below w.heap.size w w1) := hb1; clear hb1)
          | (go_at_call 57; refine (hC.out w1 H1.out).mono ?_; rintro e w2 ⟨rfl, rfl⟩)
          | (go_at_call 31; refine (hP.out _).mono ?_; rintro e w3 ⟨⟨t, a, n, c, q, rfl⟩, hb3⟩; have H3 : Hid (Below w.heap.size w w3) := H1.out.trans (hb3.mono H1.out.size); clear hb3))
        go_ret
        exact ⟨rfl, H3.out.alloc H3.out.size _⟩
  | false =>
    rw [if_neg (by decide)] at hk
    subst hk
    clear hf hfl hs hT hC
    rw [hok.out]
    clear hok
    cases x <;> cases y
    all_goals
      go_enter Tryz.func44, Tryz.ntmps44
      go_wp2_with (first
        | (go_at_call 32; refine hF.out.mono ?_; rintro e w1 ⟨rfl, hb1⟩; have H1 : Hid (Below w.heap.size w w1) := hb1; clear hb1)
        | (go_at_call 31; refine (hP.out _).mono ?_; rintro e w3 ⟨⟨t, a, n, c, q, rfl⟩, hb3⟩; have H3 : Hid (Below w.heap.size w w3) := H1.out.trans (hb3.mono H1.out.size); clear hb3))
      go_ret
      exact ⟨rfl, H3.out.alloc H3.out.size _⟩
end Lr
end Go.Proofs.YtfpphhbpoaobfaaGreatDoor
