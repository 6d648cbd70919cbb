import Derived.Test.YtkknenmpdimdbaaGreatDoorBytes
import Derived.Test.YtkknenmpdimdbaaGreatDoorFW8
import Derived.Deep.AppendLies
import Derived.Great.BuildSlice
import Derived.Lib.AppendStr
import Derived.BigQuiet
import Derived.KernelRfl
import Derived.Shelf.Strings.Builder1
import Derived.Test.YtkknenmpdimdbaaGreatDoorFW9
import Derived.Test.YtkknenmpdimdbaaGreatDoorChecked
import Derived.WalkKit
import Derived.Laws.StructEq
import Derived.Deep.WholeRow
import Derived.Deep.RegionHeld3
import Derived.Deep.RegionHeldLaw
import Derived.Deep.DeepCutAuto
import Derived.Lib.OthersKept
namespace Go.Proofs.YtkknenmpdimdbaaGreatDoor
open Go.RowKit
theorem add_off (b o j : Nat) : (⟨b, o, none⟩ : Addr).add j = ⟨b, o + j, none⟩ := by
 unfold Addr.add
 by_cases h : j = 0
 ·subst h; rfl
 ·simp [h]
def Own (W : World) (B : Nat) (v : Value) (l : List UInt8) : Prop := W.ownsRow B 5 1 v l.length (bv l)
theorem own_conv {w : World} {B : Nat} {v : Value} {l : List UInt8} (h : Own w B v l) : (convert 87 9 v).run Tryz.prog w = .ok (.string (S l)) w :=
 own_back_any w B 87 9 5 v l.length l Tryz.underlying87 Tryz.underlying5 Tryz.underlying9 h
theorem push_str (w : World) {ops : Array Oper} {rest : List Oper} {o : Oper} {a : Act} {Q : Exit → Act → World → Prop} (hgd : o.guard = none) (s x : Operand)
  (ho : o.op = .call { callee := .builtin .append, args := #[s, x], argTypes := #[87, 9] }) (B : Nat) (v : Value) (l : List UInt8) (str : ByteArray)
  (hs : a.eval s = v) (hx : a.eval x = .string str) (hown : Own w B v l) (hB : B ≤ w.heap.size) (hl : l.length + str.size ≤ 1099511627776)
  (h : ∀ v' w', Own w' B v' (l ++ str.data.toList) → Below B w w' → wpList Tryz.prog ops Q rest (a.put o.dst v') w') :
  wpList Tryz.prog ops Q (o :: rest) a w := by
 obtain ⟨i0, hi, hz0, hz1, hz2⟩ := info_parts info_u8
 refine Lib.wpList_append_own_string _ hgd s x 87 9 ho B 5 i0 Tryz.underlying87 Tryz.underlying9 hi hz0 hz1 hz2 v l.length (bv l) hs hown str hx (by unfold maxLen; omega) (by omega) hB ?_
 intro v' w' h1 h2 _
 refine h v' w' ?_ ?_
 ·unfold Own
  rw [bv_app, List.length_append, size_l]
  exact h1
 ·refine (Below.refl _ _).grown h2 hB ?_
  intro k hk
  exact (World.ownsRow.lt (show w.ownsRow B 5 1 v l.length (bv l) from hown) _ hk).1
def sv (l : List (List UInt8)) : List Value := l.map fun m => .string (S m)
theorem sv_len (l : List (List UInt8)) : (sv l).length = l.length := by simp [sv]
theorem sv_snoc (l : List (List UInt8)) (m : List UInt8) : sv (l ++ [m]) = sv l ++ [.string (S m)] := by simp [sv]
theorem sv_app (l k : List (List UInt8)) : sv (l ++ k) = sv l ++ sv k := by simp [sv]
theorem sv_one (l : List (List UInt8)) : ∀ u ∈ sv l, u.oneCell' = true := by
 intro u hu
 simp only [sv, List.mem_map] at hu
 obtain ⟨b, _, rfl⟩ := hu
 rfl
theorem info_str : (Tryz.prog.info? 9).map (fun i => (i.zero, i.size, i.bytes)) = some (some (.string ⟨#[]⟩), 1, 16) := by kernel_rfl
def OwnS (W : World) (B : Nat) (v : Value) (l : List (List UInt8)) : Prop := W.ownsRow B 9 1 v l.length (sv l)
theorem ownS_nil (W : World) (B : Nat) : OwnS W B (.slice none 0 0) [] := ⟨rfl, Or.inl ⟨rfl, rfl⟩⟩
theorem ownS_form {w : World} {B : Nat} {v : Value} {l : List (List UInt8)} (h : OwnS w B v l) : (v = .slice none 0 0 ∧ l = []) ∨ (∃ g cap, v = .slice (some ⟨g, 0, none⟩) l.length cap) := by
 have hl := h.1
 rcases h.2 with ⟨rfl, hn⟩ | ⟨g, cap, cur, rfl, _⟩
 ·exact Or.inl ⟨rfl, List.eq_nil_of_length_eq_zero hn⟩
 ·exact Or.inr ⟨g, cap, rfl⟩
theorem ownS_cell {w : World} {B g cap : Nat} {l : List (List UInt8)} (h : OwnS w B (.slice (some ⟨g, 0, none⟩) l.length cap) l) (i : Nat) (hi : i < l.length) : w.cell? ⟨g, i, none⟩ = some (.string (S l[i])) := by
 have hc := World.ownsRow.cellAt (show w.ownsRow B 9 1 _ l.length (sv l) from h) i (by omega)
 rw [hc]
 simp [sv, hi]
theorem push_text (w : World) {ops : Array Oper} {rest : List Oper} {o : Oper} {a : Act} {Q : Exit → Act → World → Prop} (hgd : o.guard = none) (s x : Operand)
  (ho : o.op = .call { callee := .builtin .append, args := #[s, x], argTypes := #[36, 36] }) (B : Nat) (v : Value) (l : List (List UInt8)) (m : List UInt8) (g : Nat)
  (hs : a.eval s = v) (hx : a.eval x = .slice (some ⟨g, 0, none⟩) 1 1) (hown : OwnS w B v l) (hg : w.heap[g]? = some (.cells #[.string (S m)] 9 (0, 0))) (hB : B ≤ w.heap.size) (hl : l.length ≤ 4194304)
  (h : ∀ g' cap w', OwnS w' B (.slice (some ⟨g', 0, none⟩) (l.length + 1) cap) (l ++ [m]) → w.grownBy w' v.ownBlock → (v.ownBlock = some g' ∨ g' = w.heap.size) → Below B w w' → wpList Tryz.prog ops Q rest (a.put o.dst (.slice (some ⟨g', 0, none⟩) (l.length + 1) cap)) w') :
  wpList Tryz.prog ops Q (o :: rest) a w := by
 obtain ⟨i0, hi, hz0, hz1, hz2⟩ := info_parts info_str
 refine wpList_append_lies w hgd s x 36 ho B 9 i0 _ 1 16 Tryz.underlying36 hi hz0 hz1 hz2 rfl (by decide) v l.length (sv l) hs hown ⟨g, 0, none⟩ 1 1 [.string (S m)] hx rfl (World.news_of_block hg) (by intro u hu; simp at hu; subst hu; rfl) (by decide) (by unfold maxLen; omega) (by omega) hB w.heap.size rfl ?_
 intro g' cap w' h1 h2 h3 _
 refine h g' cap w' ?_ h2 h3 ?_
 ·unfold OwnS
  rw [sv_snoc, List.length_append]
  exact h1
 ·refine (Below.refl _ _).grown h2 hB ?_
  intro k hk
  exact (World.ownsRow.lt (show w.ownsRow B 9 1 v l.length (sv l) from hown) _ hk).1
def Strs (w : World) (a : Option Addr) (n : Nat) (X : Nat → ByteArray) : Prop := ∀ i, i < n → ∃ b off, a = some ⟨b, off, none⟩ ∧ w.cell? ⟨b, off + i, none⟩ = some (.string (X i))
theorem Strs.below {w w' : World} {a : Option Addr} {n : Nat} {X : Nat → ByteArray} (h : Strs w a n X) (hb : Below w.heap.size w w') : Strs w' a n X := fun i hi => by
 obtain ⟨b, off, e, h1⟩ := h i hi
 refine ⟨b, off, e, ?_⟩
 rw [hb.cell (World.block_lt_of_cell? w _ h1)]
 exact h1
end Go.Proofs.YtkknenmpdimdbaaGreatDoor

namespace Go.Proofs.YtkknenmpdimdbaaGreatDoor
open Go.RowKit Go.Shelf
def ren169 : Go.Shelf.Ren := ⟨fun | 169 => 43 | n => n, fun | 70 => 86 | 9 => 9 | 0 => 0 | 72 => 89 | 37 => 87 | 127 => 121 | 3 => 3 | 5 => 5 | n => n, fun | n => n⟩
theorem lays169 : Go.Proofs.Lays.n169 Tryz.prog ren169 := {
 mixed := by kernel_rfl
 f169 := Tryz.func43.trans (congrArg some (by kernel_rfl))
 t0 := Tryz.underlying0
 a0 := Tryz.isAgg0
 z0 := Tryz.sizeOf0
 v0 := Tryz.zeroValue0
 t3 := Tryz.underlying3
 a3 := Tryz.isAgg3
 z3 := Tryz.sizeOf3
 v3 := Tryz.zeroValue3
 t9 := Tryz.underlying9
 a9 := Tryz.isAgg9
 z9 := Tryz.sizeOf9
 v9 := Tryz.zeroValue9
 t37 := Tryz.underlying87
 a37 := Tryz.isAgg87
 z37 := Tryz.sizeOf87
 v37 := Tryz.zeroValue87
 t70 := Tryz.underlying86
 a70 := Tryz.isAgg86
 z70 := Tryz.sizeOf86
 v70 := Tryz.zeroValue86
 t72 := Tryz.underlying89
 a72 := Tryz.isAgg89
 z72 := Tryz.sizeOf89
 v72 := Tryz.zeroValue89
 t127 := Tryz.underlying121
 a127 := Tryz.isAgg121
 z127 := Tryz.sizeOf121
 v127 := Tryz.zeroValue121 }
theorem extra169 : Builder.Extra Tryz.prog ren169 := {
 sizeBuilder := by kernel_rfl
 liesBuilder := by kernel_rfl
 t5 := Tryz.underlying5
 a5 := Tryz.isAgg5
 z5 := Tryz.sizeOf5
 v5 := Tryz.zeroValue5
 infoByte := by kernel_rfl
 cellsByte := by kernel_rfl
 sizeByte := by kernel_rfl
 neB5 := by decide }
def IsB (B b : Nat) (l : List UInt8) (w : World) : Prop := Lib.IsBuilder 89 5 B b (bv l) w
theorem bString_any (B b : Nat) (l : List UInt8) (w : World) (h : IsB B b l w) (hBw : B ≤ w.heap.size) :
  Calls Tryz.prog 43 #[.pointer (some ⟨b, 0, none⟩)] w fun e w' => e = .returned (.string (S l)) ∧ Below B w w' := Any.Builder_String_any lays169 extra169 B b l w h hBw
end Go.Proofs.YtkknenmpdimdbaaGreatDoor

namespace Go.Proofs.YtkknenmpdimdbaaGreatDoor
namespace Lr
open Go.RowKit Go.Shelf
set_option linter.unusedVariables false
def Kt (w w' : World) : Prop := ∀ (k : Nat) (o : Obj), w.heap[k]? = some o → (∀ cs fz, o ≠ .cells cs 89 fz) → (∀ cs fz, o ≠ .cells cs 5 fz) → w'.heap[k]? = some o
theorem Kt.refl (w : World) : Kt w w := fun _ _ h _ _ => h
theorem Kt.trans {a b c : World} (h : Kt a b) (h' : Kt b c) : Kt a c := fun k o q1 q2 q3 => h' k o (h k o q1 q2 q3) q2 q3
theorem Kt.below {w w' : World} (h : Below w.heap.size w w') : Kt w w' := fun k o q _ _ => by rw [h.block k (Array.getElem?_eq_some_iff.1 q).1]; exact q
theorem Kt.alloc (w : World) (o : Obj) : Kt w (w.alloc o) := Kt.below ((Below.refl _ _).alloc (Nat.le_refl _) _)
theorem Kt.set {w : World} {b : Nat} {cs : Array Value} {fz : Nat × Nat} (h : w.heap[b]? = some (.cells cs 89 fz)) (j : Nat) (v : Value) : Kt w (w.setCell ⟨b, j, none⟩ v) := fun k o q1 q2 q3 => by
 have hne : k ≠ b := fun e => by
  subst e
  rw [h] at q1
  injection q1 with q1
  exact q2 cs fz q1.symm
 rw [Below.heap_setCell _ _ _ _ hne]
 exact q1
theorem Kt.grown {w w' : World} {B n : Nat} {v : Value} {xs : List Value} (h : w.ownsRow B 5 1 v n xs) (hg : w.grownBy w' v.ownBlock) : Kt w w' := fun k o q1 q2 q3 => by
 have hlt : k < w.heap.size := (Array.getElem?_eq_some_iff.1 q1).1
 rw [hg.block k hlt (fun e => ?_)]
 ·exact q1
 ·rcases h with ⟨h1, ⟨rfl, h2⟩ | ⟨g, cap, cur, rfl, h3, h4, h5⟩⟩
  ·cases e
  ·injection e with e
   subst e
   rw [h4] at q1
   injection q1 with q1
   exact q3 _ _ q1.symm
set_option maxHeartbeats 1000000 in
set_option maxRecDepth 100000 in
theorem copyCheckK_any (B b : Nat) (l : List UInt8) (w : World) (h : IsB B b l w) :
  Calls Tryz.prog 70 #[.pointer (some ⟨b, 0, none⟩)] w fun e w' => e = .returned (.tuple #[]) ∧ Lib.BuilderAt 89 5 B b (.pointer (some ⟨b, 0, none⟩)) (bv l) w' ∧ Below B w w' ∧ Kt w w' := by
 obtain ⟨j, hj, hjs⟩ := Option.map_eq_some_iff.1 extra169.sizeBuilder
 rcases h with h | h
 ·have hcp := h
  obtain ⟨_, v0, hbk0, _, _⟩ := hcp
  have h0 := h.cell0
  have hsh := h.shape
  have hfz := h.frozen0
  go_enter Tryz.func70, Tryz.ntmps70
  go_wp2
  rw [Lib.run_to_unsafe w ⟨b, 0, none⟩ Tryz.underlying86 Tryz.underlying166 hj (by rw [hjs]; decide) hsh (Nat.zero_lt_succ 1)]
  simp only [Result.andThen]
  rw [Oper.upon_value]
  go_wp2
  rw [run_callFunc_extern Tryz.func99 (by kernel_rfl) (by kernel_rfl) (by kernel_rfl) (e := Extern.AbiNoEscape.same) (by kernel_rfl)]
  rw [Lib.run_noEscape]
  simp only [Result.andThen]
  rw [Oper.upon_value]
  go_wp2
  rw [Lib.run_from_unsafe w ⟨b, 0, none⟩ Tryz.underlying166 Tryz.underlying86 hj hsh extra169.liesBuilder]
  simp only [Result.andThen]
  rw [Oper.upon_value]
  go_wp2
  go_end0
  exact ⟨rfl, h.used _, (Below.refl B w).setCell (p := ⟨b, 0, none⟩) h.1 _, Kt.set hbk0 0 _⟩
 ·have h0 := h.cell0
  go_enter Tryz.func70, Tryz.ntmps70
  go_wp2
  rw [Lib.run_neq_ptr_same w _ Tryz.underlying86 hj]
  go_wp2
  go_end0
  exact ⟨rfl, h, Below.refl B _, Kt.refl _⟩
set_option maxHeartbeats 1000000 in
set_option maxRecDepth 100000 in
theorem writeByteK_any (B b : Nat) (l : List UInt8) (c : UInt8) (w : World) (h : IsB B b l w) (hlen : l.length ≤ 1099511627776) (hBw : B ≤ w.heap.size) :
  Calls Tryz.prog 40 #[.pointer (some ⟨b, 0, none⟩), .int .u8 (c.toNat : Int)] w fun e w' => e = .returned .nilIface ∧ IsB B b (l ++ [c]) w' ∧ Below B w w' ∧ Kt w w' := by
 go_enter Tryz.func40, Tryz.ntmps40
 go_wp2_with (go_at_call 70; refine (copyCheckK_any B b l _ h).mono ?_)
 rintro e w1 ⟨rfl, h1, hb1, hk1⟩
 obtain ⟨hB, v, hbk, hown, hne⟩ := h1
 have c0 : w1.cell? ⟨b, 0, none⟩ = some (.pointer (some ⟨b, 0, none⟩)) := by rw [Lib.cell_of_heap hbk]; rfl
 have c1 : w1.cell? ⟨b, 1, none⟩ = some v := by rw [Lib.cell_of_heap hbk]; rfl
 obtain ⟨i0, hi, hz0, hz1, hz2⟩ := info_parts info_u8
 have hlt : b < w1.heap.size := by
  rcases Nat.lt_or_ge b w1.heap.size with h' | h'
  ·exact h'
  ·simp [Array.getElem?_eq_none h'] at hbk
 have hn1 : w.heap.size ≤ w1.heap.size := hb1.size
 have hbl : Hid ((bv l).length = l.length) := bv_len l
 go_wp2_with (at_builtin; refine wpList_append_own _ rfl _ _ 87 rfl B 5 i0 (.int .u8 0) 1 1 Tryz.underlying87 hi hz0 hz1 hz2 rfl (by decide) _ _ _ rfl (hown.alloc _) ⟨w1.heap.size, 0, none⟩ 1 1 [.int .u8 (c.toNat : Int)] rfl rfl ?_ ?_ ?_ ?_ ?_ ?_)
 ·exact cell_one_new _ _ _
 ·intro u hu; simp at hu; subst hu; rfl
 ·have := hbl.out; unfold maxLen; omega
 ·have := hbl.out; omega
 ·simp; omega
 intro v' w2 hown' hgrow _
 have hb2 : w2.heap[b]? = some (.cells #[.pointer (some ⟨b, 0, none⟩), v] 89 (0, 0)) := by
  rw [hgrow.block b (by simp; omega) (fun e => hne e.symm), Lib.alloc_old w1 _ b hlt]
  exact hbk
 have d0 : w2.cell? ⟨b, 0, none⟩ = some (.pointer (some ⟨b, 0, none⟩)) := by rw [Lib.cell_of_heap hb2]; rfl
 have d1 : w2.cell? ⟨b, 1, none⟩ = some v := by rw [Lib.cell_of_heap hb2]; rfl
 have f1 : w2.frozen? ⟨b, 1, none⟩ = false := Lib.frozen_of_heap hb2 1
 obtain ⟨g, cap, rfl⟩ : ∃ g cap, v' = .slice (some ⟨g, 0, none⟩) ((bv l).length + 1) cap := by
  rcases hown'.2 with ⟨_, h0⟩ | ⟨g, cap, cur, hv, _⟩
  ·omega
  ·exact ⟨g, cap, hv⟩
 go_wp2
 go_ret
 refine ⟨rfl, Or.inr ?_, ?_, ?_⟩
 ·rw [bv_app]
  exact Lib.BuilderAt.put (T := 89) (e := 5) hB hb2 (bs' := bv l ++ [.int .u8 (c.toNat : Int)]) (by simpa using hown') (by decide)
 ·exact ((hb1.alloc (by omega) _).grown hgrow (by simp; omega) (fun k hk => (hown.lt k hk).1)).setCell (p := ⟨b, 1, none⟩) hB _
 ·exact hk1.trans ((Kt.alloc w1 _).trans ((Kt.grown (hown.alloc _) hgrow).trans (Kt.set hb2 1 _)))
set_option maxHeartbeats 1000000 in
set_option maxRecDepth 100000 in
theorem writeStringK_any (B b : Nat) (l : List UInt8) (s : ByteArray) (w : World) (h : IsB B b l w) (hlen : l.length + s.size ≤ 1099511627776) (hBw : B ≤ w.heap.size) :
  Calls Tryz.prog 71 #[.pointer (some ⟨b, 0, none⟩), .string s] w fun e w' => e = .returned (.tuple #[.int .i64 s.size, .nilIface]) ∧ IsB B b (l ++ s.data.toList) w' ∧ Below B w w' ∧ Kt w w' := by
 go_enter Tryz.func71, Tryz.ntmps71
 go_wp2_with (go_at_call 70; refine (copyCheckK_any B b l _ h).mono ?_)
 rintro e w1 ⟨rfl, h1, hb1, hk1⟩
 obtain ⟨hB, v, hbk, hown, hne⟩ := h1
 have c0 : w1.cell? ⟨b, 0, none⟩ = some (.pointer (some ⟨b, 0, none⟩)) := by rw [Lib.cell_of_heap hbk]; rfl
 have c1 : w1.cell? ⟨b, 1, none⟩ = some v := by rw [Lib.cell_of_heap hbk]; rfl
 obtain ⟨i0, hi, hz0, hz1, hz2⟩ := info_parts info_u8
 have hlt : b < w1.heap.size := by
  rcases Nat.lt_or_ge b w1.heap.size with h' | h'
  ·exact h'
  ·simp [Array.getElem?_eq_none h'] at hbk
 have hn1 : w.heap.size ≤ w1.heap.size := hb1.size
 have hbl : Hid ((bv l).length = l.length) := bv_len l
 go_wp2_with (at_builtin; refine Lib.wpList_append_own_string _ rfl _ _ 87 9 rfl B 5 i0 Tryz.underlying87 Tryz.underlying9 hi hz0 hz1 hz2 _ _ _ rfl hown s rfl ?_ ?_ ?_ ?_)
 ·have := hbl.out; unfold maxLen; omega
 ·have := hbl.out; omega
 ·omega
 intro v' w2 hown' hgrow _
 have hb2 : w2.heap[b]? = some (.cells #[.pointer (some ⟨b, 0, none⟩), v] 89 (0, 0)) := by
  rw [hgrow.block b hlt (fun e => hne e.symm)]
  exact hbk
 have d0 : w2.cell? ⟨b, 0, none⟩ = some (.pointer (some ⟨b, 0, none⟩)) := by rw [Lib.cell_of_heap hb2]; rfl
 have d1 : w2.cell? ⟨b, 1, none⟩ = some v := by rw [Lib.cell_of_heap hb2]; rfl
 have f1 : w2.frozen? ⟨b, 1, none⟩ = false := Lib.frozen_of_heap hb2 1
 obtain ⟨ao, n', cap, rfl⟩ : ∃ ao n' cap, v' = .slice ao n' cap := by
  rcases hown'.2 with ⟨hv, _⟩ | ⟨g, cap, cur, hv, _⟩
  ·exact ⟨_, _, _, hv⟩
  ·exact ⟨_, _, _, hv⟩
 go_wp2
 go_ret2
 refine ⟨rfl, Or.inr ?_, ?_, ?_⟩
 ·rw [bv_app]
  exact Lib.BuilderAt.put (T := 89) (e := 5) hB hb2 (bs' := bv l ++ Lib.strCells s) (by simpa [Lib.strCells_length] using hown') (by decide)
 ·exact (hb1.grown hgrow (by omega) (fun k hk => (hown.lt k hk).1)).setCell (p := ⟨b, 1, none⟩) hB _
 ·exact hk1.trans ((Kt.grown hown hgrow).trans (Kt.set hb2 1 _))
end Lr
end Go.Proofs.YtkknenmpdimdbaaGreatDoor

namespace Go.Proofs.YtkknenmpdimdbaaGreatDoor
namespace Ke
open Go.RowKit
set_option linter.unusedVariables false
set_option maxRecDepth 100000
theorem u8_beq (b k : UInt8) : (b == k) = ((b.toNat : Int) == (k.toNat : Int)) := by
 rw [Bool.eq_iff_iff, beq_iff_eq, beq_iff_eq]
 constructor
 ·intro h; rw [h]
 ·intro h; exact UInt8.toNat_inj.1 (by omega)
theorem mst_int (n i : Nat) (b : UInt8) : mst n i b = ((b.toNat : Int) == 92 || (b.toNat : Int) == 34 || (b.toNat : Int) == 43 || (b.toNat : Int) == 44 || (b.toNat : Int) == 59 || (b.toNat : Int) == 60 || (b.toNat : Int) == 62 || ((b.toNat : Int) == 35 && decide (i = 0)) || ((b.toNat : Int) == 32 && (decide (i = 0) || decide (i + 1 = n)))) := by
 unfold mst
 rw [u8_beq b 92, u8_beq b 34, u8_beq b 43, u8_beq b 44, u8_beq b 59, u8_beq b 60, u8_beq b 62, u8_beq b 35, u8_beq b 32]
 rfl
set_option maxHeartbeats 1000000 in
theorem must_any (v : ByteArray) (i : Nat) (w : World) (hi : i < v.size) (hs : v.size ≤ 140737488355328) :
  Calls Tryz.prog 100 #[.string v, .int .i64 (i : Int)] w fun e w' => e = .returned (.bool (mst v.size i v[i])) ∧ w' = w := by
 have c5 : (0 : Int) ≤ (i : Int) := by omega
 have c6 : (i : Int) < (v.size : Int) := by omega
 obtain ⟨c, hc⟩ : ∃ c, v[i] = c := ⟨_, rfl⟩
 rw [hc]
 go_enter Tryz.func100, Tryz.ntmps100
 go_wp2_with fail
 all_goals go_ret
 all_goals refine ⟨ret_bool ?_, rfl⟩
 all_goals rw [mst_int]
 all_goals first
  | (simp [*]; done)
  | (rw [Bool.eq_iff_iff]; simp only [Bool.or_eq_true, Bool.and_eq_true, beq_iff_eq, decide_eq_true_eq, beq_eq_false_iff_ne, ne_eq] at *; omega)
theorem escV_snoc (v : ByteArray) (k : Nat) (h : k < v.size) : escF v.size 0 (v.data.toList.take (k + 1)) = escF v.size 0 (v.data.toList.take k) ++ ec v.size k v[k] := by
 rw [take_snoc v k h, escF_snoc]
 have e : (v.data.toList.take k).length = k := by rw [List.length_take, size_l]; omega
 rw [e, Nat.zero_add]
set_option maxHeartbeats 2000000 in
theorem writeEscape_any (B b : Nat) (l : List UInt8) (v : ByteArray) (w : World) (hI : IsB B b l w) (hl : l.length + 3 * v.size ≤ 1000000000000) (hBw : B ≤ w.heap.size) :
  Calls Tryz.prog 72 #[.pointer (some ⟨b, 0, none⟩), .string v] w fun e w' => e = .returned (.tuple #[]) ∧ IsB B b (l ++ escV v.data.toList) w' ∧ Below B w w' ∧ Lr.Kt w w' := by
 have hL : Hid (v.data.toList.length = v.size) := size_l v
 have hI0 : Hid (IsB B b (l ++ escF v.size 0 (v.data.toList.take 0)) w) := by unfold Hid; simpa [escF] using hI
 clear hI
 go_enter Tryz.func72, Tryz.ntmps72
 go_wp2_with fail
 go_loopw [8] (fun i wr => ∃ k : Nat, k ≤ v.size ∧ i = .int .i64 k ∧ Hid (IsB B b (l ++ escF v.size 0 (v.data.toList.take k)) wr ∧ Below B w wr ∧ Lr.Kt w wr)) (fun i _ => v.size - (intOf i).toNat)
 case atStart => exact ⟨0, Nat.zero_le _, rfl, hI0.out, Below.refl _ _, Lr.Kt.refl _⟩
 case round =>
  obtain ⟨k, hk, rfl, hR⟩ := hrel
  clear hI0
  have hlen : Hid ((l ++ escF v.size 0 (v.data.toList.take k)).length + 4 ≤ 1099511627776) := by
   unfold Hid
   have := escF_len v.size (v.data.toList.take k) 0
   rw [List.length_take] at this
   have := hL.out
   rw [List.length_append]
   omega
  by_cases hlt : k < v.size
  ·have hsn : Hid (escF v.size 0 (v.data.toList.take (k + 1)) = escF v.size 0 (v.data.toList.take k) ++ ec v.size k v[k]) := escV_snoc v k hlt
   have hm : Hid (∀ w, Calls Tryz.prog 100 #[.string v, .int .i64 (k : Int)] w fun e w' => e = .returned (.bool (mst v.size k v[k])) ∧ w' = w) := fun w => must_any v k w hlt (by omega)
   have hwr : Hid (B ≤ wr.heap.size) := Nat.le_trans hBw hR.out.2.1.size
   have c5 : (0 : Int) ≤ (k : Int) := by omega
   have c6 : (k : Int) < (v.size : Int) := by omega
   obtain ⟨c, hc⟩ : ∃ c, v[k] = c := ⟨_, rfl⟩
   rw [hc] at hsn hm
   have hc256 : c.toNat < 256 := c.toNat_lt
   by_cases h0 : c = 0
   ·subst h0
    have he : ec v.size k 0 = [92, 48, 48] := by unfold ec; rw [if_pos rfl]
    rw [he] at hsn
    have hz : ((0 : UInt8).toNat : Int) = 0 := rfl
    rw [hz] at *
    have hws : Hid (Calls Tryz.prog 71 #[.pointer (some ⟨b, 0, none⟩), .string { data := #[92, 48, 48] }] wr fun e w' => e = .returned (.tuple #[.int .i64 3, .nilIface]) ∧ IsB B b (l ++ escF v.size 0 (v.data.toList.take k) ++ [92, 48, 48]) w' ∧ Below B wr w' ∧ Lr.Kt wr w') := Lr.writeStringK_any B b _ _ wr hR.out.1 (by have := hlen.out; simp only [List.length_append] at this ⊢; show _ + 3 ≤ _; omega) hwr.out
    clear hlen hm he hz
    go_wp2_with (go_at_call 71; refine hws.out.mono ?_; rintro e w2 ⟨rfl, hI2, hb2, hk2⟩)
    have HI : Hid (IsB B b (l ++ escF v.size 0 (v.data.toList.take (k + 1))) w2 ∧ Below B w w2 ∧ Lr.Kt w w2) := ⟨by rw [hsn.out, ← List.append_assoc]; exact hI2, hR.out.2.1.trans hb2, hR.out.2.2.trans hk2⟩
    clear hI2 hb2 hk2 hws hsn
    go_roundw
    case rel => exact ⟨k + 1, hlt, by go_num, HI⟩
    case measure => simp [intOf]; omega
   ·have hne : ¬ ((c.toNat : Int) = 0) := fun e => h0 (UInt8.toNat_inj.1 (by simpa using e))
    have hne' : ((c.toNat : Int) == 0) = false := by simpa using hne
    by_cases hq : mst v.size k c = true
    ·have he : ec v.size k c = [92, c] := by unfold ec; rw [if_neg h0, if_pos hq]
     rw [he] at hsn
     rw [hq] at hm
     have hwb : Hid (Calls Tryz.prog 40 #[.pointer (some ⟨b, 0, none⟩), .int .u8 92] wr fun e w' => e = .returned .nilIface ∧ IsB B b (l ++ escF v.size 0 (v.data.toList.take k) ++ [92]) w' ∧ Below B wr w' ∧ Lr.Kt wr w') := Lr.writeByteK_any B b _ 92 wr hR.out.1 (by have := hlen.out; omega) hwr.out
     have hwc : Hid (∀ w2, IsB B b (l ++ escF v.size 0 (v.data.toList.take k) ++ [92]) w2 → B ≤ w2.heap.size → Calls Tryz.prog 40 #[.pointer (some ⟨b, 0, none⟩), .int .u8 (c.toNat : Int)] w2 fun e w' => e = .returned .nilIface ∧ IsB B b (l ++ escF v.size 0 (v.data.toList.take k) ++ [92] ++ [c]) w' ∧ Below B w2 w' ∧ Lr.Kt w2 w') := fun w2 h1 h2 => Lr.writeByteK_any B b _ c w2 h1 (by have := hlen.out; simp only [List.length_append] at this ⊢; simp; omega) h2
     clear hlen he
     go_wp2_with (go_at_call 100; refine (hm.out _).mono ?_; rintro e w' ⟨rfl, rfl⟩)
     refine hwb.out.mono ?_
     rintro e w2 ⟨rfl, hI2, hb2, hk2⟩
     have hwd : Hid (Calls Tryz.prog 40 #[.pointer (some ⟨b, 0, none⟩), .int .u8 (c.toNat : Int)] w2 fun e w' => e = .returned .nilIface ∧ IsB B b (l ++ escF v.size 0 (v.data.toList.take k) ++ [92] ++ [c]) w' ∧ Below B w2 w' ∧ Lr.Kt w2 w') := hwc.out w2 hI2 (Nat.le_trans hwr.out hb2.size)
     have hR2 : Hid (Below B w w2 ∧ Lr.Kt w w2) := ⟨hR.out.2.1.trans hb2, hR.out.2.2.trans hk2⟩
     clear hI2 hb2 hk2 hwc hwb hR
     go_wp2_with fail
     refine hwd.out.mono ?_
     rintro e w3 ⟨rfl, hI3, hb3, hk3⟩
     have HI : Hid (IsB B b (l ++ escF v.size 0 (v.data.toList.take (k + 1))) w3 ∧ Below B w w3 ∧ Lr.Kt w w3) := ⟨by rw [hsn.out, ← List.append_assoc]; simpa using hI3, hR2.out.1.trans hb3, hR2.out.2.trans hk3⟩
     clear hI3 hb3 hk3 hwd hsn hR2
     go_wp2_with fail
     go_roundw
     case rel => exact ⟨k + 1, hlt, by go_num, HI⟩
     case measure => simp [intOf]; omega
    ·have he : ec v.size k c = [c] := by unfold ec; rw [if_neg h0, if_neg hq]
     rw [he] at hsn
     rw [Bool.not_eq_true] at hq
     rw [hq] at hm
     have hwb : Hid (Calls Tryz.prog 40 #[.pointer (some ⟨b, 0, none⟩), .int .u8 (c.toNat : Int)] wr fun e w' => e = .returned .nilIface ∧ IsB B b (l ++ escF v.size 0 (v.data.toList.take k) ++ [c]) w' ∧ Below B wr w' ∧ Lr.Kt wr w') := Lr.writeByteK_any B b _ c wr hR.out.1 (by have := hlen.out; omega) hwr.out
     clear hlen he
     go_wp2_with (first | (go_at_call 100; refine (hm.out _).mono ?_; rintro e w' ⟨rfl, rfl⟩) | (go_at_call 40; refine hwb.out.mono ?_; rintro e w2 ⟨rfl, hI2, hb2, hk2⟩))
     have HI : Hid (IsB B b (l ++ escF v.size 0 (v.data.toList.take (k + 1))) w2 ∧ Below B w w2 ∧ Lr.Kt w w2) := ⟨by rw [hsn.out, ← List.append_assoc]; exact hI2, hR.out.2.1.trans hb2, hR.out.2.2.trans hk2⟩
     clear hI2 hb2 hk2 hwb hsn
     go_roundw
     case rel => exact ⟨k + 1, hlt, by go_num, HI⟩
     case measure => simp [intOf]; omega
  ·have hke : k = v.size := by omega
   subst hke
   have HI : Hid (IsB B b (l ++ escV v.data.toList) wr ∧ Below B w wr ∧ Lr.Kt w wr) := by
    refine ⟨?_, hR.out.2⟩
    have := hR.out.1
    rw [List.take_of_length_le (by rw [hL.out]; exact Nat.le_refl _)] at this
    unfold escV
    rw [hL.out]
    exact this
   clear hR hlen
   go_wp2_with fail
   go_end0
   exact ⟨rfl, HI.out⟩
end Ke
end Go.Proofs.YtkknenmpdimdbaaGreatDoor

namespace Go.Proofs.YtkknenmpdimdbaaGreatDoor
namespace Du
open Go.RowKit
set_option linter.unusedVariables false
set_option maxRecDepth 100000
theorem drewN_below (W : World) (B q : Nat) : Below B W (W.drewN q) := ⟨rfl, rfl, rfl, Nat.le_refl _, fun _ _ => rfl⟩
theorem add_o (b o j : Nat) : (⟨b, o, none⟩ : Addr).add j = ⟨b, o + j, none⟩ := by
 unfold Addr.add
 by_cases h : j = 0
 ·subst h; rfl
 ·simp [h]
theorem owns_same {w w' : World} {B k n : Nat} {e : TypeId} {v : Value} {xs : List Value} (h : w.ownsRow B e k v n xs) (hb : ∀ g, v.ownBlock = some g → w'.heap[g]? = w.heap[g]?) : w'.ownsRow B e k v n xs := by
 rcases h with ⟨h1, ⟨rfl, h2⟩ | ⟨g, cap, cur, rfl, h3, h4, h5⟩⟩
 ·exact ⟨h1, Or.inl ⟨rfl, h2⟩⟩
 ·exact ⟨h1, Or.inr ⟨g, cap, cur, rfl, h3, by rw [hb g rfl]; exact h4, h5⟩⟩
theorem owns_base {w : World} {B B' k n : Nat} {e : TypeId} {v : Value} {xs : List Value} (h : w.ownsRow B e k v n xs) (hb : B' ≤ B) : w.ownsRow B' e k v n xs := by
 rcases h with ⟨h1, ⟨rfl, h2⟩ | ⟨g, cap, cur, rfl, h3, h4, h5⟩⟩
 ·exact ⟨h1, Or.inl ⟨rfl, h2⟩⟩
 ·exact ⟨h1, Or.inr ⟨g, cap, cur, rfl, Nat.le_trans hb h3, h4, h5⟩⟩
theorem owns_form {w : World} {B k n : Nat} {e : TypeId} {v : Value} {xs : List Value} (h : w.ownsRow B e k v n xs) : (v = .slice none 0 0 ∧ n = 0) ∨ (∃ g cap, v = .slice (some ⟨g, 0, none⟩) n cap ∧ n ≤ cap ∧ cap ≤ maxLen ∧ B ≤ g ∧ g < w.heap.size) := by
 rcases h with ⟨h1, ⟨rfl, h2⟩ | ⟨g, cap, cur, rfl, h3, h4, h5, h6, _⟩⟩
 ·exact Or.inl ⟨rfl, h2⟩
 ·exact Or.inr ⟨g, cap, rfl, h5, h6, h3, (Array.getElem?_eq_some_iff.1 h4).1⟩
theorem owns_apart {w : World} {B B' k k' n n' : Nat} {e e' : TypeId} {v v' : Value} {xs xs' : List Value} (h : w.ownsRow B e k v n xs) (h' : w.ownsRow B' e' k' v' n' xs') (hne : e ≠ e') {g : Nat} (hg : v.ownBlock = some g) : v'.ownBlock ≠ some g := fun hg' => by
 rcases h with ⟨h1, ⟨rfl, h2⟩ | ⟨g1, cap, cur, rfl, h3, h4, h5, _⟩⟩
 ·cases hg
 ·injection hg with hg
  subst hg
  rcases h' with ⟨k1, ⟨rfl, k2⟩ | ⟨g2, cap2, cur2, rfl, k3, k4, k5, _⟩⟩
  ·cases hg'
  ·injection hg' with hg'
   subst hg'
   rw [h4] at k4
   injection k4 with k4
   injection k4 with _ k4 _
   exact hne k4
theorem flatV_len {α : Type} (V : α → List Value) (k : Nat) (hk : ∀ x, (V x).length = k) (l : List α) : (l.flatMap V).length = l.length * k := by
 induction l with
 | nil => simp
 | cons x l ih =>
  rw [List.flatMap_cons, List.length_append, ih, hk, List.length_cons, Nat.succ_mul]
  omega
theorem flatV_at {α : Type} (V : α → List Value) (k : Nat) (hk : ∀ x, (V x).length = k) (l : List α) (i : Nat) (hi : i < l.length) (j : Nat) (hj : j < k) : (l.flatMap V)[i * k + j]? = (V l[i])[j]? := by
 induction l generalizing i with
 | nil => simp at hi
 | cons x l ih =>
  rw [List.flatMap_cons]
  cases i with
  | zero =>
   rw [List.getElem?_append_left (by rw [hk]; omega)]
   simp
  | succ i =>
   have e : (i + 1) * k + j = (V x).length + (i * k + j) := by rw [hk, Nat.succ_mul]; omega
   rw [e, List.getElem?_append_right (by omega), Nat.add_sub_cancel_left, ih i (by simpa using hi)]
   rfl
def GRow {α : Type} (k : Nat) (V : α → List Value) (w : World) (a : Option Addr) (l : List α) : Prop := ∀ i (h : i < l.length), ∃ b off, a = some ⟨b, off, none⟩ ∧ ∀ j, j < k → w.cell? ⟨b, off + i * k + j, none⟩ = (V l[i])[j]?
theorem GRow.below {α : Type} {k : Nat} {V : α → List Value} (hV : ∀ x, (V x).length = k) {w w' : World} {a : Option Addr} {l : List α} (h : GRow k V w a l) (hb : Below w.heap.size w w') : GRow k V w' a l := fun i hi => by
 obtain ⟨b, off, e, h1⟩ := h i hi
 refine ⟨b, off, e, fun j hj => ?_⟩
 have h2 := h1 j hj
 rw [hb.cell, h2]
 rw [List.getElem?_eq_getElem (by rw [hV]; exact hj)] at h2
 exact World.block_lt_of_cell? w _ h2
theorem GRow.nil {α : Type} (k : Nat) (V : α → List Value) (w : World) (a : Option Addr) : GRow k V w a [] := fun i hi => by simp at hi
theorem GRow.front {α : Type} {k : Nat} {V : α → List Value} {w : World} {a : Option Addr} {l m : List α} (h : GRow k V w a (l ++ m)) : GRow k V w a l := fun i hi => by
 have h1 := h i (by rw [List.length_append]; omega)
 rw [List.getElem_append_left hi] at h1
 exact h1
theorem GRow.one {α : Type} {k : Nat} (V : α → List Value) (w : World) (t : TypeId) (p : α) : GRow k V (w.alloc (.cells (V p).toArray t)) (some ⟨w.heap.size, 0, none⟩) [p] := fun i hi => by
 have hi0 : i = 0 := by simp at hi; omega
 subst hi0
 refine ⟨_, _, rfl, fun j hj => ?_⟩
 have h1 : (w.alloc (.cells (V p).toArray t)).heap[w.heap.size]? = some (.cells (V p).toArray t (0, 0)) := heap_alloc_new _ _
 rw [cell_of_row _ _ _ _ _ _ h1]
 simp
def GOwn {α : Type} (t : TypeId) (k : Nat) (V : α → List Value) (W : World) (B : Nat) (v : Value) (l : List α) : Prop := W.ownsRow B t k v l.length (l.flatMap V)
theorem GOwn.nil {α : Type} (t : TypeId) (k : Nat) (V : α → List Value) (W : World) (B : Nat) : GOwn t k V W B (.slice none 0 0) [] := ⟨by simp, Or.inl ⟨rfl, rfl⟩⟩
theorem GOwn.row {α : Type} {t : TypeId} {k : Nat} {V : α → List Value} (hV : ∀ x, (V x).length = k) {w : World} {B : Nat} {v : Value} {L : List α} (h : GOwn t k V w B v L) : ∃ a c, v = .slice a L.length c ∧ L.length ≤ c ∧ c ≤ maxLen ∧ GRow k V w a L := by
 rcases owns_form h with ⟨rfl, h0⟩ | ⟨g, cap, rfl, hc, hm, _⟩
 ·exact ⟨none, 0, by rw [h0], by omega, by unfold maxLen; omega, fun i hi => by omega⟩
 ·refine ⟨_, cap, rfl, hc, hm, fun i hi => ⟨g, 0, rfl, fun j hj => ?_⟩⟩
  rw [Nat.zero_add]
  have hlt : i * k + j < L.length * k := by
   have : (i + 1) * k ≤ L.length * k := Nat.mul_le_mul_right k hi
   rw [Nat.succ_mul] at this
   omega
  have hc := World.ownsRow.cellAt (show w.ownsRow B t k _ L.length (L.flatMap V) from h) (i * k + j) hlt
  rw [hc]
  exact flatV_at V k hV L i hi j hj
theorem GOwn.below {α : Type} {t : TypeId} {k : Nat} {V : α → List Value} {w w' : World} {B : Nat} {v : Value} {L : List α} (h : GOwn t k V w B v L) (hb : Below w.heap.size w w') : GOwn t k V w' B v L := owns_same h (fun g hg => hb.block g (World.ownsRow.lt h g hg).2)
def Kd {α : Type} (t ts : TypeId) (k nb : Nat) (V : α → List Value) : Prop :=
 Tryz.prog.underlying ts = some (.slice t) ∧ (∃ i z, Tryz.prog.info? t = some i ∧ i.zero = some z ∧ i.size = k ∧ i.bytes = nb ∧ z.cells.size = k) ∧ 0 < k ∧ 0 < nb ∧ (∀ x, (V x).length = k) ∧ (∀ x, ∀ u ∈ V x, u.oneCell' = true)
theorem append_gen {α : Type} {t ts : TypeId} {k nb : Nat} {V : α → List Value} (KD : Kd t ts k nb V) (w : World) (B : Nat) (v : Value) (l m : List α) (a : Option Addr) (n c : Nat) (hown : GOwn t k V w B v l) (hk : GRow k V w a m) (hn : n = m.length) (hB : B ≤ w.heap.size) (hsz : (l.length + m.length) * nb ≤ 140737488355328) :
  ∃ v' w', (Builtin.append_ #[ts, ts] ts #[v, .slice a n c]).run Tryz.prog w = .ok v' w' ∧ GOwn t k V w' B v' (l ++ m) ∧ w.grownBy w' v.ownBlock ∧ Below B w w' := by
 subst hn
 obtain ⟨hund, ⟨i0, z0, hi, hz0, hz1, hz2, hz3⟩, hk0, hnb, hV, h1V⟩ := KD
 by_cases h0 : m.length = 0
 ·have hm0 := List.eq_nil_of_length_eq_zero h0
  subst hm0
  refine ⟨v, w, ?_, by rw [List.append_nil]; exact hown, ⟨rfl, rfl, rfl, Nat.le_refl _, fun _ _ _ => rfl⟩, Below.refl _ _⟩
  cases a with
  | none =>
   rcases owns_form hown with ⟨rfl, h2⟩ | ⟨g, cap, rfl, hc, _⟩
   ·simp [Builtin.append_, run_underlying hund, sizeOf, typeInfo, hi, Builtin.lenOf, Builtin.firstCells]
   ·simp [Builtin.append_, run_underlying hund, sizeOf, typeInfo, hi, Builtin.lenOf, Builtin.firstCells, hc, storeCells]
  | some d =>
   rcases owns_form hown with ⟨rfl, h2⟩ | ⟨g, cap, rfl, hc, _⟩
   ·simp [Builtin.append_, run_underlying hund, sizeOf, typeInfo, hi, Builtin.lenOf, Builtin.firstCells, loadCells, loadCellsFrom]
   ·simp [Builtin.append_, run_underlying hund, sizeOf, typeInfo, hi, Builtin.lenOf, Builtin.firstCells, loadCells, loadCellsFrom, hc, storeCells]
 ·obtain ⟨b, off, rfl, _⟩ := hk 0 (by omega)
  have hnews : ∀ j u, (m.flatMap V)[j]? = some u → w.cell? ((⟨b, off, none⟩ : Addr).add j) = some u := by
   intro j u hj
   have hjn : j < m.length * k := by
    rcases Nat.lt_or_ge j (m.length * k) with h' | h'
    ·exact h'
    ·rw [List.getElem?_eq_none (by rw [flatV_len V k hV]; exact h')] at hj; cases hj
   have hq : j / k < m.length := Nat.div_lt_of_lt_mul (by rw [Nat.mul_comm]; exact hjn)
   have hr : j % k < k := Nat.mod_lt _ hk0
   have ej : j / k * k + j % k = j := by rw [Nat.mul_comm]; exact Nat.div_add_mod j k
   obtain ⟨b', off', e, hc⟩ := hk (j / k) hq
   injection e with e
   injection e with e1 e2
   subst e1 e2
   have h1 := hc (j % k) hr
   have h2 := flatV_at V k hV m (j / k) hq (j % k) hr
   rw [ej, hj] at h2
   rw [Nat.add_assoc, ej] at h1
   rw [add_o, h1, ← h2]
  have hle : l.length + m.length ≤ 140737488355328 := Nat.le_trans (Nat.le_mul_of_pos_right _ hnb) hsz
  obtain ⟨g, cap, w', hr, h2, h3, _, _⟩ := run_append_lies (P := Tryz.prog) w ts ts B t i0 z0 k nb hund hi hz0 hz1 hz2 hz3 hk0 v l.length (l.flatMap V) hown ⟨b, off, none⟩ m.length c (m.flatMap V) (flatV_len V k hV m) hnews (fun u hu => by obtain ⟨y, _, hy⟩ := List.mem_flatMap.1 hu; exact h1V y u hy) (by omega) (Nat.le_trans hle (by unfold maxLen; decide)) hsz hB w.heap.size rfl
  refine ⟨_, w', hr, ?_, h3, (Below.refl _ _).grown h3 hB (fun j hj => (World.ownsRow.lt (show w.ownsRow B t k v l.length (l.flatMap V) from hown) _ hj).1)⟩
  unfold GOwn
  rw [List.flatMap_append, List.length_append]
  exact h2
abbrev PR := List UInt8 × List UInt8
abbrev PX := Option Addr × Nat × List PR
def pV (p : PR) : List Value := [.string (S p.1), .string (S p.2)]
def xV (r : PX) : List Value := [.slice r.1 r.2.2.length r.2.1]
theorem pV_len (p : PR) : (pV p).length = 2 := rfl
theorem xV_len (r : PX) : (xV r).length = 1 := rfl
abbrev PRow (w : World) (a : Option Addr) (l : List PR) : Prop := GRow 2 pV w a l
theorem prow_at {w : World} {a : Option Addr} {l : List PR} (h : PRow w a l) (i : Nat) (hi : i < l.length) : ∃ b off, a = some ⟨b, off, none⟩ ∧ w.cell? ⟨b, off + i * 2, none⟩ = some (.string (S l[i].1)) ∧ w.cell? ⟨b, off + i * 2 + 1, none⟩ = some (.string (S l[i].2)) := by
 obtain ⟨b, off, e, h1⟩ := h i hi
 exact ⟨b, off, e, h1 0 (by omega), h1 1 (by omega)⟩
def DRow (w : World) (a : Option Addr) (L : List PX) : Prop := GRow 1 xV w a L ∧ ∀ r ∈ L, PRow w r.1 r.2.2 ∧ r.2.2.length ≤ r.2.1 ∧ r.2.1 ≤ maxLen
theorem DRow.below {w w' : World} {a : Option Addr} {L : List PX} (h : DRow w a L) (hb : Below w.heap.size w w') : DRow w' a L := ⟨h.1.below xV_len hb, fun r hr => ⟨(h.2 r hr).1.below pV_len hb, (h.2 r hr).2⟩⟩
theorem drow_at {w : World} {a : Option Addr} {L : List PX} (h : DRow w a L) (i : Nat) (hi : i < L.length) : ∃ b off, a = some ⟨b, off, none⟩ ∧ w.cell? ⟨b, off + i, none⟩ = some (.slice L[i].1 L[i].2.2.length L[i].2.1) := by
 obtain ⟨b, off, e, h1⟩ := h.1 i hi
 have := h1 0 (by omega)
 rw [Nat.mul_one] at this
 exact ⟨b, off, e, this⟩
def sd (L : List PX) : List (List PR) := L.map fun r => r.2.2
theorem sd_len (L : List PX) : (sd L).length = L.length := List.length_map ..
end Du
end Go.Proofs.YtkknenmpdimdbaaGreatDoor
