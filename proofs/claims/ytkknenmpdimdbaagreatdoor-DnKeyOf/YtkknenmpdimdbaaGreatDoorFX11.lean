import Derived.Test.YtkknenmpdimdbaaGreatDoorChecked
import Derived.WalkKit
import Derived.Laws.StructEq
import Derived.Test.YtkknenmpdimdbaaGreatDoorBytes
import Derived.Deep.WholeRow
import Derived.Deep.RegionHeld3
import Derived.Deep.RegionHeldLaw
import Derived.Deep.AppendLies
import Derived.Deep.DeepCutAuto
import Derived.Lib.OthersKept
import Derived.BigQuiet
import Derived.KernelRfl
import Derived.Test.YtkknenmpdimdbaaGreatDoorFX10
import Derived.Test.YtkknenmpdimdbaaGreatDoorRows
import Derived.Test.YtkknenmpdimdbaaGreatDoorFX9
namespace Go.Proofs.YtkknenmpdimdbaaGreatDoor
namespace Du
open Go.RowKit
set_option linter.unusedVariables false
set_option maxRecDepth 100000
theorem drewN_below (W : World) (B q : Nat) : Below B W (W.drewN q) := ⟨rfl, rfl, rfl, Nat.le_refl _, fun _ _ => rfl⟩
theorem add_o (b o j : Nat) : (⟨b, o, none⟩ : Addr).add j = ⟨b, o + j, none⟩ := by
 unfold Addr.add
 by_cases h : j = 0
 ·subst h; rfl
 ·simp [h]
theorem owns_same {w w' : World} {B k n : Nat} {e : TypeId} {v : Value} {xs : List Value} (h : w.ownsRow B e k v n xs) (hb : ∀ g, v.ownBlock = some g → w'.heap[g]? = w.heap[g]?) : w'.ownsRow B e k v n xs := by
 rcases h with ⟨h1, ⟨rfl, h2⟩ | ⟨g, cap, cur, rfl, h3, h4, h5⟩⟩
 ·exact ⟨h1, Or.inl ⟨rfl, h2⟩⟩
 ·exact ⟨h1, Or.inr ⟨g, cap, cur, rfl, h3, by rw [hb g rfl]; exact h4, h5⟩⟩
theorem owns_base {w : World} {B B' k n : Nat} {e : TypeId} {v : Value} {xs : List Value} (h : w.ownsRow B e k v n xs) (hb : B' ≤ B) : w.ownsRow B' e k v n xs := by
 rcases h with ⟨h1, ⟨rfl, h2⟩ | ⟨g, cap, cur, rfl, h3, h4, h5⟩⟩
 ·exact ⟨h1, Or.inl ⟨rfl, h2⟩⟩
 ·exact ⟨h1, Or.inr ⟨g, cap, cur, rfl, Nat.le_trans hb h3, h4, h5⟩⟩
theorem owns_form {w : World} {B k n : Nat} {e : TypeId} {v : Value} {xs : List Value} (h : w.ownsRow B e k v n xs) : (v = .slice none 0 0 ∧ n = 0) ∨ (∃ g cap, v = .slice (some ⟨g, 0, none⟩) n cap ∧ n ≤ cap ∧ cap ≤ maxLen ∧ B ≤ g ∧ g < w.heap.size) := by
 rcases h with ⟨h1, ⟨rfl, h2⟩ | ⟨g, cap, cur, rfl, h3, h4, h5, h6, _⟩⟩
 ·exact Or.inl ⟨rfl, h2⟩
 ·exact Or.inr ⟨g, cap, rfl, h5, h6, h3, (Array.getElem?_eq_some_iff.1 h4).1⟩
theorem owns_apart {w : World} {B B' k k' n n' : Nat} {e e' : TypeId} {v v' : Value} {xs xs' : List Value} (h : w.ownsRow B e k v n xs) (h' : w.ownsRow B' e' k' v' n' xs') (hne : e ≠ e') {g : Nat} (hg : v.ownBlock = some g) : v'.ownBlock ≠ some g := fun hg' => by
 rcases h with ⟨h1, ⟨rfl, h2⟩ | ⟨g1, cap, cur, rfl, h3, h4, h5, _⟩⟩
 ·cases hg
 ·injection hg with hg
  subst hg
  rcases h' with ⟨k1, ⟨rfl, k2⟩ | ⟨g2, cap2, cur2, rfl, k3, k4, k5, _⟩⟩
  ·cases hg'
  ·injection hg' with hg'
   subst hg'
   rw [h4] at k4
   injection k4 with k4
   injection k4 with _ k4 _
   exact hne k4
theorem flatV_len {α : Type} (V : α → List Value) (k : Nat) (hk : ∀ x, (V x).length = k) (l : List α) : (l.flatMap V).length = l.length * k := by
 induction l with
 | nil => simp
 | cons x l ih =>
  rw [List.flatMap_cons, List.length_append, ih, hk, List.length_cons, Nat.succ_mul]
  omega
theorem flatV_at {α : Type} (V : α → List Value) (k : Nat) (hk : ∀ x, (V x).length = k) (l : List α) (i : Nat) (hi : i < l.length) (j : Nat) (hj : j < k) : (l.flatMap V)[i * k + j]? = (V l[i])[j]? := by
 induction l generalizing i with
 | nil => simp at hi
 | cons x l ih =>
  rw [List.flatMap_cons]
  cases i with
  | zero =>
   rw [List.getElem?_append_left (by rw [hk]; omega)]
   simp
  | succ i =>
   have e : (i + 1) * k + j = (V x).length + (i * k + j) := by rw [hk, Nat.succ_mul]; omega
   rw [e, List.getElem?_append_right (by omega), Nat.add_sub_cancel_left, ih i (by simpa using hi)]
   rfl
def GRow {α : Type} (k : Nat) (V : α → List Value) (w : World) (a : Option Addr) (l : List α) : Prop := ∀ i (h : i < l.length), ∃ b off, a = some ⟨b, off, none⟩ ∧ ∀ j, j < k → w.cell? ⟨b, off + i * k + j, none⟩ = (V l[i])[j]?
theorem GRow.below {α : Type} {k : Nat} {V : α → List Value} (hV : ∀ x, (V x).length = k) {w w' : World} {a : Option Addr} {l : List α} (h : GRow k V w a l) (hb : Below w.heap.size w w') : GRow k V w' a l := fun i hi => by
 obtain ⟨b, off, e, h1⟩ := h i hi
 refine ⟨b, off, e, fun j hj => ?_⟩
 have h2 := h1 j hj
 rw [hb.cell, h2]
 rw [List.getElem?_eq_getElem (by rw [hV]; exact hj)] at h2
 exact World.block_lt_of_cell? w _ h2
theorem GRow.nil {α : Type} (k : Nat) (V : α → List Value) (w : World) (a : Option Addr) : GRow k V w a [] := fun i hi => by simp at hi
theorem GRow.one {α : Type} {k : Nat} (V : α → List Value) (w : World) (t : TypeId) (p : α) : GRow k V (w.alloc (.cells (V p).toArray t)) (some ⟨w.heap.size, 0, none⟩) [p] := fun i hi => by
 have hi0 : i = 0 := by simp at hi; omega
 subst hi0
 refine ⟨_, _, rfl, fun j hj => ?_⟩
 have h1 : (w.alloc (.cells (V p).toArray t)).heap[w.heap.size]? = some (.cells (V p).toArray t (0, 0)) := heap_alloc_new _ _
 rw [cell_of_row _ _ _ _ _ _ h1]
 simp
def GOwn {α : Type} (t : TypeId) (k : Nat) (V : α → List Value) (W : World) (B : Nat) (v : Value) (l : List α) : Prop := W.ownsRow B t k v l.length (l.flatMap V)
theorem GOwn.nil {α : Type} (t : TypeId) (k : Nat) (V : α → List Value) (W : World) (B : Nat) : GOwn t k V W B (.slice none 0 0) [] := ⟨by simp, Or.inl ⟨rfl, rfl⟩⟩
theorem GOwn.row {α : Type} {t : TypeId} {k : Nat} {V : α → List Value} (hV : ∀ x, (V x).length = k) {w : World} {B : Nat} {v : Value} {L : List α} (h : GOwn t k V w B v L) : ∃ a c, v = .slice a L.length c ∧ L.length ≤ c ∧ c ≤ maxLen ∧ GRow k V w a L := by
 rcases owns_form h with ⟨rfl, h0⟩ | ⟨g, cap, rfl, hc, hm, _⟩
 ·exact ⟨none, 0, by rw [h0], by omega, by unfold maxLen; omega, fun i hi => by omega⟩
 ·refine ⟨_, cap, rfl, hc, hm, fun i hi => ⟨g, 0, rfl, fun j hj => ?_⟩⟩
  rw [Nat.zero_add]
  have hlt : i * k + j < L.length * k := by
   have : (i + 1) * k ≤ L.length * k := Nat.mul_le_mul_right k hi
   rw [Nat.succ_mul] at this
   omega
  have hc := World.ownsRow.cellAt (show w.ownsRow B t k _ L.length (L.flatMap V) from h) (i * k + j) hlt
  rw [hc]
  exact flatV_at V k hV L i hi j hj
theorem GOwn.below {α : Type} {t : TypeId} {k : Nat} {V : α → List Value} {w w' : World} {B : Nat} {v : Value} {L : List α} (h : GOwn t k V w B v L) (hb : Below w.heap.size w w') : GOwn t k V w' B v L := owns_same h (fun g hg => hb.block g (World.ownsRow.lt h g hg).2)
def Kd {α : Type} (t ts : TypeId) (k nb : Nat) (V : α → List Value) : Prop :=
 Tryz.prog.underlying ts = some (.slice t) ∧ (∃ i z, Tryz.prog.info? t = some i ∧ i.zero = some z ∧ i.size = k ∧ i.bytes = nb ∧ z.cells.size = k) ∧ 0 < k ∧ 0 < nb ∧ (∀ x, (V x).length = k) ∧ (∀ x, ∀ u ∈ V x, u.oneCell' = true)
theorem append_gen {α : Type} {t ts : TypeId} {k nb : Nat} {V : α → List Value} (KD : Kd t ts k nb V) (w : World) (B : Nat) (v : Value) (l m : List α) (a : Option Addr) (n c : Nat) (hown : GOwn t k V w B v l) (hk : GRow k V w a m) (hn : n = m.length) (hB : B ≤ w.heap.size) (hsz : (l.length + m.length) * nb ≤ 140737488355328) :
  ∃ v' w', (Builtin.append_ #[ts, ts] ts #[v, .slice a n c]).run Tryz.prog w = .ok v' w' ∧ GOwn t k V w' B v' (l ++ m) ∧ w.grownBy w' v.ownBlock ∧ Below B w w' := by
 subst hn
 obtain ⟨hund, ⟨i0, z0, hi, hz0, hz1, hz2, hz3⟩, hk0, hnb, hV, h1V⟩ := KD
 by_cases h0 : m.length = 0
 ·have hm0 := List.eq_nil_of_length_eq_zero h0
  subst hm0
  refine ⟨v, w, ?_, by rw [List.append_nil]; exact hown, ⟨rfl, rfl, rfl, Nat.le_refl _, fun _ _ _ => rfl⟩, Below.refl _ _⟩
  cases a with
  | none =>
   rcases owns_form hown with ⟨rfl, h2⟩ | ⟨g, cap, rfl, hc, _⟩
   ·simp [Builtin.append_, run_underlying hund, sizeOf, typeInfo, hi, Builtin.lenOf, Builtin.firstCells]
   ·simp [Builtin.append_, run_underlying hund, sizeOf, typeInfo, hi, Builtin.lenOf, Builtin.firstCells, hc, storeCells]
  | some d =>
   rcases owns_form hown with ⟨rfl, h2⟩ | ⟨g, cap, rfl, hc, _⟩
   ·simp [Builtin.append_, run_underlying hund, sizeOf, typeInfo, hi, Builtin.lenOf, Builtin.firstCells, loadCells, loadCellsFrom]
   ·simp [Builtin.append_, run_underlying hund, sizeOf, typeInfo, hi, Builtin.lenOf, Builtin.firstCells, loadCells, loadCellsFrom, hc, storeCells]
 ·obtain ⟨b, off, rfl, _⟩ := hk 0 (by omega)
  have hnews : ∀ j u, (m.flatMap V)[j]? = some u → w.cell? ((⟨b, off, none⟩ : Addr).add j) = some u := by
   intro j u hj
   have hjn : j < m.length * k := by
    rcases Nat.lt_or_ge j (m.length * k) with h' | h'
    ·exact h'
    ·rw [List.getElem?_eq_none (by rw [flatV_len V k hV]; exact h')] at hj; cases hj
   have hq : j / k < m.length := Nat.div_lt_of_lt_mul (by rw [Nat.mul_comm]; exact hjn)
   have hr : j % k < k := Nat.mod_lt _ hk0
   have ej : j / k * k + j % k = j := by rw [Nat.mul_comm]; exact Nat.div_add_mod j k
   obtain ⟨b', off', e, hc⟩ := hk (j / k) hq
   injection e with e
   injection e with e1 e2
   subst e1 e2
   have h1 := hc (j % k) hr
   have h2 := flatV_at V k hV m (j / k) hq (j % k) hr
   rw [ej, hj] at h2
   rw [Nat.add_assoc, ej] at h1
   rw [add_o, h1, ← h2]
  have hle : l.length + m.length ≤ 140737488355328 := Nat.le_trans (Nat.le_mul_of_pos_right _ hnb) hsz
  obtain ⟨g, cap, w', hr, h2, h3, _, _⟩ := run_append_lies (P := Tryz.prog) w ts ts B t i0 z0 k nb hund hi hz0 hz1 hz2 hz3 hk0 v l.length (l.flatMap V) hown ⟨b, off, none⟩ m.length c (m.flatMap V) (flatV_len V k hV m) hnews (fun u hu => by obtain ⟨y, _, hy⟩ := List.mem_flatMap.1 hu; exact h1V y u hy) (by omega) (Nat.le_trans hle (by unfold maxLen; decide)) hsz hB w.heap.size rfl
  refine ⟨_, w', hr, ?_, h3, (Below.refl _ _).grown h3 hB (fun j hj => (World.ownsRow.lt (show w.ownsRow B t k v l.length (l.flatMap V) from hown) _ hj).1)⟩
  unfold GOwn
  rw [List.flatMap_append, List.length_append]
  exact h2
abbrev PR := List UInt8 × List UInt8
abbrev PX := Option Addr × Nat × List PR
def pV (p : PR) : List Value := [.string (S p.1), .string (S p.2)]
def xV (r : PX) : List Value := [.slice r.1 r.2.2.length r.2.1]
theorem pV_len (p : PR) : (pV p).length = 2 := rfl
theorem xV_len (r : PX) : (xV r).length = 1 := rfl
abbrev PRow (w : World) (a : Option Addr) (l : List PR) : Prop := GRow 2 pV w a l
theorem prow_at {w : World} {a : Option Addr} {l : List PR} (h : PRow w a l) (i : Nat) (hi : i < l.length) : ∃ b off, a = some ⟨b, off, none⟩ ∧ w.cell? ⟨b, off + i * 2, none⟩ = some (.string (S l[i].1)) ∧ w.cell? ⟨b, off + i * 2 + 1, none⟩ = some (.string (S l[i].2)) := by
 obtain ⟨b, off, e, h1⟩ := h i hi
 exact ⟨b, off, e, h1 0 (by omega), h1 1 (by omega)⟩
def DRow (w : World) (a : Option Addr) (L : List PX) : Prop := GRow 1 xV w a L ∧ ∀ r ∈ L, PRow w r.1 r.2.2 ∧ r.2.2.length ≤ r.2.1 ∧ r.2.1 ≤ maxLen
theorem DRow.below {w w' : World} {a : Option Addr} {L : List PX} (h : DRow w a L) (hb : Below w.heap.size w w') : DRow w' a L := ⟨h.1.below xV_len hb, fun r hr => ⟨(h.2 r hr).1.below pV_len hb, (h.2 r hr).2⟩⟩
theorem drow_at {w : World} {a : Option Addr} {L : List PX} (h : DRow w a L) (i : Nat) (hi : i < L.length) : ∃ b off, a = some ⟨b, off, none⟩ ∧ w.cell? ⟨b, off + i, none⟩ = some (.slice L[i].1 L[i].2.2.length L[i].2.1) := by
 obtain ⟨b, off, e, h1⟩ := h.1 i hi
 have := h1 0 (by omega)
 rw [Nat.mul_one] at this
 exact ⟨b, off, e, this⟩
def sd (L : List PX) : List (List PR) := L.map fun r => r.2.2
theorem sd_len (L : List PX) : (sd L).length = L.length := List.length_map ..
end Du
end Go.Proofs.YtkknenmpdimdbaaGreatDoor

namespace Go.Proofs.YtkknenmpdimdbaaGreatDoor
namespace Ke
open Go.RowKit
open Du (PRow pV pV_len prow_at)
set_option linter.unusedVariables false
set_option linter.unusedSimpArgs false
set_option maxRecDepth 100000
theorem kt_box {w w' : World} {k : Nat} {cs : Array Value} {t : TypeId} {fz : Nat × Nat} (h : Lr.Kt w w') (hb : w.heap[k]? = some (.cells cs t fz)) (h1 : t ≠ 89) (h2 : t ≠ 5) : w'.heap[k]? = some (.cells cs t fz) :=
 h k _ hb (fun _ _ e => by injection e with _ e _; exact h1 e) (fun _ _ e => by injection e with _ e _; exact h2 e)
def ptW (p : PR) : Nat := p.1.length + 3 * p.2.length + 2
theorem pt1_len (p : PR) : (pt1 p).length + 1 ≤ ptW p := by
 have := escV_len p.2
 unfold pt1 ptW
 simp only [List.length_append, List.length_cons]
 omega
theorem ptT_len (l : List PR) : (ptT l).length ≤ (l.map ptW).sum := by
 induction l with
 | nil => simp [ptT]
 | cons p l ih =>
  have := pt1_len p
  unfold ptT at ih ⊢
  simp only [List.flatMap_cons, List.length_append, List.length_cons, List.map_cons, List.sum_cons]
  omega
theorem ptx_len (l : List PR) : (ptx l).length ≤ (l.map ptW).sum := by
 cases l with
 | nil => simp [ptx]
 | cons p l =>
  have := pt1_len p
  have := ptT_len l
  simp only [ptx, List.length_append, List.map_cons, List.sum_cons]
  omega
theorem sum_take (l : List PR) (i : Nat) : ((l.take i).map ptW).sum ≤ (l.map ptW).sum := by
 have e : (l.map ptW).sum = ((l.take i).map ptW).sum + ((l.drop i).map ptW).sum := by rw [← List.sum_append, ← List.map_append, List.take_append_drop]
 omega
theorem sum_at (l : List PR) (i : Nat) (h : i < l.length) : ((l.take i).map ptW).sum + ptW l[i] ≤ (l.map ptW).sum := by
 have h1 := sum_take l (i + 1)
 rw [List.take_succ_eq_append_getElem h, List.map_append, List.sum_append] at h1
 simpa using h1
theorem isB_below {B b : Nat} {l : List UInt8} {W W' : World} (h : IsB B b l W) (hb : Below W.heap.size W W') : IsB B b l W' := by
 have key : ∀ p, Lib.BuilderAt 89 5 B b p (bv l) W → Lib.BuilderAt 89 5 B b p (bv l) W' := fun p hp => by
  obtain ⟨h1, v, h2, h3, h4⟩ := hp
  have hlt : b < W.heap.size := (Array.getElem?_eq_some_iff.1 h2).1
  exact ⟨h1, v, by rw [hb.block b hlt]; exact h2, Du.owns_same h3 (fun g hg => hb.block g (World.ownsRow.lt h3 g hg).2), h4⟩
 rcases h with h | h
 ·exact Or.inl (key _ h)
 ·exact Or.inr (key _ h)
def Wr (B b : Nat) (w0 wS : World) (l : List UInt8) (W : World) : Prop := IsB B b l W ∧ Below B w0 W ∧ Lr.Kt wS W ∧ B ≤ w0.heap.size
theorem Wr.below {B b : Nat} {w0 wS : World} {l : List UInt8} {W W' : World} (h : Wr B b w0 wS l W) (hb : Below W.heap.size W W') : Wr B b w0 wS l W' :=
 ⟨isB_below h.1 hb, h.2.1.trans (hb.mono (Nat.le_trans h.2.2.2 h.2.1.size)), h.2.2.1.trans (Lr.Kt.below hb), h.2.2.2⟩
theorem Wr.rebase {B b : Nat} {w0 wS : World} {l : List UInt8} {W : World} (h : Wr B b w0 wS l W) : Wr B b w0 W l W := ⟨h.1, h.2.1, Lr.Kt.refl _, h.2.2.2⟩
theorem Wr.byte {B b : Nat} {w0 wS : World} {l : List UInt8} {W : World} (h : Wr B b w0 wS l W) (c : UInt8) (hl : l.length ≤ 1099511627776) :
  Calls Tryz.prog 40 #[.pointer (some ⟨b, 0, none⟩), .int .u8 (c.toNat : Int)] W fun e w' => e = .returned .nilIface ∧ Wr B b w0 wS (l ++ [c]) w' := by
 refine (Lr.writeByteK_any B b l c W h.1 hl (Nat.le_trans h.2.2.2 h.2.1.size)).mono ?_
 rintro e w' ⟨rfl, h1, h2, h3⟩
 exact ⟨rfl, h1, h.2.1.trans h2, h.2.2.1.trans h3, h.2.2.2⟩
theorem Wr.str {B b : Nat} {w0 wS : World} {l : List UInt8} {W : World} (h : Wr B b w0 wS l W) (s : ByteArray) (hl : l.length + s.size ≤ 1099511627776) :
  Calls Tryz.prog 71 #[.pointer (some ⟨b, 0, none⟩), .string s] W fun e w' => e = .returned (.tuple #[.int .i64 s.size, .nilIface]) ∧ Wr B b w0 wS (l ++ s.data.toList) w' := by
 refine (Lr.writeStringK_any B b l s W h.1 hl (Nat.le_trans h.2.2.2 h.2.1.size)).mono ?_
 rintro e w' ⟨rfl, h1, h2, h3⟩
 exact ⟨rfl, h1, h.2.1.trans h2, h.2.2.1.trans h3, h.2.2.2⟩
theorem Wr.esc {B b : Nat} {w0 wS : World} {l : List UInt8} {W : World} (h : Wr B b w0 wS l W) (s : ByteArray) (hl : l.length + 3 * s.size ≤ 1000000000000) :
  Calls Tryz.prog 72 #[.pointer (some ⟨b, 0, none⟩), .string s] W fun e w' => e = .returned (.tuple #[]) ∧ Wr B b w0 wS (l ++ escV s.data.toList) w' := by
 refine (writeEscape_any B b l s W h.1 hl (Nat.le_trans h.2.2.2 h.2.1.size)).mono ?_
 rintro e w' ⟨rfl, h1, h2, h3⟩
 exact ⟨rfl, h1, h.2.1.trans h2, h.2.2.1.trans h3, h.2.2.2⟩
set_option maxHeartbeats 4000000 in
theorem writePairs_any (B b : Nat) (l : List UInt8) (a : Option Addr) (c n : Nat) (ps : List PR) (w0 wS w : World) (hI : Wr B b w0 wS l w) (hn : ps.length = n) (hr : ∀ W, Below B w0 W → PRow W a ps) (hl : l.length + (ps.map ptW).sum ≤ 1000000000000) (hnb : n ≤ 140737488355328) :
  Calls Tryz.prog 41 #[.pointer (some ⟨b, 0, none⟩), .slice a n c] w fun e w' => e = .returned (.tuple #[]) ∧ Wr B b w0 wS (l ++ ptx ps) w' := by
 have nb : (n : Int) ≤ 140737488355328 := by omega
 have hI0 : Hid (Wr B b w0 wS (l ++ ptx (ps.take 0)) w) := by unfold Hid; simpa [ptx] using hI
 have hn' : Hid (ps.length = n) := hn
 have hr' : Hid (∀ W, Below B w0 W → PRow W a ps) := hr
 have hl' : Hid (l.length + (ps.map ptW).sum ≤ 1000000000000) := hl
 clear hI hn hr hl hnb
 go_enter Tryz.func41, Tryz.ntmps41
 go_wp2_with fail
 go_loopw [8] (fun i wr => ∃ k : Nat, k ≤ n ∧ i = .int .i64 k ∧ Hid (Wr B b w0 wS (l ++ ptx (ps.take k)) wr)) (fun i _ => n - (intOf i).toNat)
 case atStart => exact ⟨0, Nat.zero_le _, rfl, hI0⟩
 case round =>
  obtain ⟨k, hk, rfl, hR⟩ := hrel
  clear hI0
  have k0 : (0 : Int) ≤ (k : Int) := Int.natCast_nonneg _
  by_cases hlt : k < n
  ·have k1 : (k : Int) < (n : Int) := Int.ofNat_lt.2 hlt
   have hkP : k < ps.length := by rw [hn'.out]; exact hlt
   obtain ⟨pb, po, rfl, c3, c4⟩ := prow_at (hr'.out wr hR.out.2.1) k hkP
   have hsn : Hid (ptx (ps.take (k + 1)) = ptx (ps.take k) ++ (if k = 0 then pt1 ps[k] else 43 :: pt1 ps[k])) := by
    unfold Hid
    rw [List.take_succ_eq_append_getElem hkP, ptx_snoc]
    congr 1
    by_cases h0 : k = 0
    ·subst h0; simp
    ·rw [if_neg h0, if_neg (fun e => h0 (by have := congrArg List.length e; rw [List.length_take, List.length_nil] at this; omega))]
   have hlen : Hid ((l ++ ptx (ps.take k)).length + ptW ps[k] ≤ 1000000000000) := by
    have h1 := ptx_len (ps.take k)
    have h2 := sum_at ps k hkP
    have := hl'.out
    unfold Hid
    rw [List.length_append]
    omega
   generalize ps[k] = p at *
   obtain ⟨t, v⟩ := p
   dsimp only at c3 c4
   have hw2 : Hid (t.length + 3 * v.length + 2 + (l ++ ptx (ps.take k)).length ≤ 1000000000000) := by have := hlen.out; unfold Hid; unfold ptW at this; dsimp only at this; omega
   generalize hX : l ++ ptx (ps.take k) = X at *
   obtain ⟨W1, hW1⟩ : ∃ W1, wr.alloc (.cells #[.string (S t), .string (S v)] 64) = W1 := ⟨_, rfl⟩
   have hb1 : Hid (Wr B b w0 wS X W1) := by unfold Hid; rw [← hW1]; exact hR.out.below ((Below.refl _ _).alloc (Nat.le_refl _) _)
   have hx1 : Hid (W1.heap[wr.heap.size]? = some (.cells #[.string (S t), .string (S v)] 64 (0, 0))) := by unfold Hid; rw [← hW1]; exact heap_alloc_new _ _
   have hrest : Hid (∀ Y W2, Y.length ≤ X.length + 1 → Wr B b w0 W1 Y W2 → W2.cell? ⟨wr.heap.size, 0, none⟩ = some (.string (S t)) ∧ Calls Tryz.prog 71 #[.pointer (some ⟨b, 0, none⟩), .string (S t)] W2 fun e W3 => e = .returned (.tuple #[.int .i64 (S t).size, .nilIface]) ∧ Hid (Wr B b w0 W1 (Y ++ t) W3)) := fun Y W2 hY h => by
    refine ⟨by rw [cell_of_row _ _ _ _ _ _ (kt_box h.2.2.1 hx1.out (by decide) (by decide))]; rfl, ?_⟩
    have := h.str (S t) (by rw [S_size]; have := hw2.out; omega)
    rw [S_l] at this
    exact this
   have hrest2 : Hid (∀ Y W2, Y.length ≤ X.length + 1 + t.length → Wr B b w0 W1 Y W2 → Calls Tryz.prog 40 #[.pointer (some ⟨b, 0, none⟩), .int .u8 61] W2 fun e W3 => e = .returned .nilIface ∧ Hid (Wr B b w0 W1 (Y ++ [61]) W3)) := fun Y W2 hY h => h.byte 61 (by have := hw2.out; omega)
   have hrest3 : Hid (∀ Y W2, Y.length ≤ X.length + 2 + t.length → Wr B b w0 W1 Y W2 → W2.cell? ⟨wr.heap.size, 1, none⟩ = some (.string (S v)) ∧ Calls Tryz.prog 72 #[.pointer (some ⟨b, 0, none⟩), .string (S v)] W2 fun e W3 => e = .returned (.tuple #[]) ∧ Hid (Wr B b w0 W1 (Y ++ escV v) W3)) := fun Y W2 hY h => by
    refine ⟨by rw [cell_of_row _ _ _ _ _ _ (kt_box h.2.2.1 hx1.out (by decide) (by decide))]; rfl, ?_⟩
    have := h.esc (S v) (by rw [S_size]; have := hw2.out; omega)
    rw [S_l] at this
    exact this
   have hkS : Hid (Lr.Kt wS W1) := hb1.out.2.2.1
   have hlt' : Hid (k < n) := hlt
   have hlenX : Hid (X.length ≤ 1000000000000) := by have := hw2.out; unfold Hid; omega
   obtain ⟨st, hst⟩ : ∃ st, S t = st := ⟨_, rfl⟩
   obtain ⟨sv', hsv⟩ : ∃ sv', S v = sv' := ⟨_, rfl⟩
   rw [hst] at c3 hW1 hx1 hrest
   rw [hsv] at c4 hW1 hx1 hrest3
   clear hst hsv hlen hw2 hR hk hlt hkP
   by_cases h0 : k = 0
   ·have hend : Hid (∀ W, Wr B b w0 W1 (X ++ t ++ [61] ++ escV v) W → Wr B b w0 wS (l ++ ptx (ps.take (k + 1))) W) := fun W h => by
     refine ⟨?_, h.2.1, hkS.out.trans h.2.2.1, h.2.2.2⟩
     have e := hsn.out
     rw [if_pos h0] at e
     rw [e, ← List.append_assoc, hX]
     unfold pt1
     simpa using h.1
    have kp : ¬ (0 : Int) < (k : Int) := by omega
    obtain ⟨g0, s0⟩ := hrest.out X W1 (by omega) hb1.out.rebase
    have s0' : Hid (Calls Tryz.prog 71 #[.pointer (some ⟨b, 0, none⟩), .string st] W1 fun e W3 => e = .returned (.tuple #[.int .i64 st.size, .nilIface]) ∧ Hid (Wr B b w0 W1 (X ++ t) W3)) := s0
    clear s0 hrest hsn hb1 hx1 hkS h0
    go_wp2_with fail
    refine s0'.out.mono ?_
    rintro e W3 ⟨rfl, h3⟩
    have s1 : Hid (Calls Tryz.prog 40 #[.pointer (some ⟨b, 0, none⟩), .int .u8 61] W3 fun e W4 => e = .returned .nilIface ∧ Hid (Wr B b w0 W1 (X ++ t ++ [61]) W4)) := hrest2.out _ W3 (by simp only [List.length_append, List.length_cons, List.length_nil]; omega) h3.out
    clear s0' hrest2 h3 g0
    go_wp2_with fail
    refine s1.out.mono ?_
    rintro e W4 ⟨rfl, h4⟩
    obtain ⟨g4, s2⟩ := hrest3.out _ W4 (by simp only [List.length_append, List.length_cons, List.length_nil]; omega) h4.out
    have s2' : Hid (Calls Tryz.prog 72 #[.pointer (some ⟨b, 0, none⟩), .string sv'] W4 fun e W5 => e = .returned (.tuple #[]) ∧ Hid (Wr B b w0 W1 (X ++ t ++ [61] ++ escV v) W5)) := s2
    clear s1 hrest3 h4 s2
    go_wp2_with fail
    refine s2'.out.mono ?_
    rintro e W5 ⟨rfl, h5⟩
    have HI : Hid (Wr B b w0 wS (l ++ ptx (ps.take (k + 1))) W5) := hend.out W5 h5.out
    clear s2' h5 hend g4
    go_wp2_with fail
    go_roundw
    case rel => exact ⟨k + 1, hlt'.out, by go_num, HI⟩
    case measure => have := hlt'.out; simp [intOf]; omega
   ·have hend : Hid (∀ W, Wr B b w0 W1 (X ++ [43] ++ t ++ [61] ++ escV v) W → Wr B b w0 wS (l ++ ptx (ps.take (k + 1))) W) := fun W h => by
     refine ⟨?_, h.2.1, hkS.out.trans h.2.2.1, h.2.2.2⟩
     have e := hsn.out
     rw [if_neg h0] at e
     rw [e, ← List.append_assoc, hX]
     unfold pt1
     simpa using h.1
    have kp : (0 : Int) < (k : Int) := by omega
    have sp : Hid (Calls Tryz.prog 40 #[.pointer (some ⟨b, 0, none⟩), .int .u8 43] W1 fun e W2 => e = .returned .nilIface ∧ Hid (Wr B b w0 W1 (X ++ [43]) W2)) := hb1.out.rebase.byte 43 (by have := hlenX.out; omega)
    clear hsn hb1 hx1 hkS h0
    go_wp2_with fail
    refine sp.out.mono ?_
    rintro e W2 ⟨rfl, h2⟩
    obtain ⟨g0, s0⟩ := hrest.out _ W2 (by simp only [List.length_append, List.length_cons, List.length_nil]; omega) h2.out
    have s0' : Hid (Calls Tryz.prog 71 #[.pointer (some ⟨b, 0, none⟩), .string st] W2 fun e W3 => e = .returned (.tuple #[.int .i64 st.size, .nilIface]) ∧ Hid (Wr B b w0 W1 (X ++ [43] ++ t) W3)) := s0
    clear s0 hrest h2 sp
    go_wp2_with fail
    refine s0'.out.mono ?_
    rintro e W3 ⟨rfl, h3⟩
    have s1 : Hid (Calls Tryz.prog 40 #[.pointer (some ⟨b, 0, none⟩), .int .u8 61] W3 fun e W4 => e = .returned .nilIface ∧ Hid (Wr B b w0 W1 (X ++ [43] ++ t ++ [61]) W4)) := hrest2.out _ W3 (by simp only [List.length_append, List.length_cons, List.length_nil]; omega) h3.out
    clear s0' hrest2 h3 g0
    go_wp2_with fail
    refine s1.out.mono ?_
    rintro e W4 ⟨rfl, h4⟩
    obtain ⟨g4, s2⟩ := hrest3.out _ W4 (by simp only [List.length_append, List.length_cons, List.length_nil]; omega) h4.out
    have s2' : Hid (Calls Tryz.prog 72 #[.pointer (some ⟨b, 0, none⟩), .string sv'] W4 fun e W5 => e = .returned (.tuple #[]) ∧ Hid (Wr B b w0 W1 (X ++ [43] ++ t ++ [61] ++ escV v) W5)) := s2
    clear s1 hrest3 h4 s2
    go_wp2_with fail
    refine s2'.out.mono ?_
    rintro e W5 ⟨rfl, h5⟩
    have HI : Hid (Wr B b w0 wS (l ++ ptx (ps.take (k + 1))) W5) := hend.out W5 h5.out
    clear s2' h5 hend g4
    go_wp2_with fail
    go_roundw
    case rel => exact ⟨k + 1, hlt'.out, by go_num, HI⟩
    case measure => have := hlt'.out; simp [intOf]; omega
  ·have e : n = k := by omega
   subst e
   have i1 : ¬ (n : Int) < (n : Int) := by omega
   have hfin : Hid (Wr B b w0 wS (l ++ ptx ps) wr) := by
    have := hR.out
    rw [List.take_of_length_le (by rw [hn'.out]; exact Nat.le_refl _)] at this
    exact this
   clear hR hk hlt
   go_wp2_with fail
   go_end0
   exact ⟨rfl, hfin.out⟩
end Ke
end Go.Proofs.YtkknenmpdimdbaaGreatDoor

namespace Go.Proofs.YtkknenmpdimdbaaGreatDoor
open Go.RowKit
open TextMath (ld wi seqLen check u)
set_option maxHeartbeats 400000 in
theorem lead_any (b : Int) (w : World) (h0 : 0 ≤ b) (h1 : b ≤ 255) :
  Calls Tryz.prog 85 #[.int .u8 b] w fun e w' => e = .returned (.tuple #[.int .i64 (ld b).1, .int .u8 (ld b).2.1, .int .u8 (ld b).2.2]) ∧ w' = w := by
 unfold ld
 go_enter Tryz.func85, Tryz.ntmps85
 go_wp2
 all_goals
  go_ret3
  refine ⟨?_, rfl⟩
  simp_all <;> omega
set_option maxHeartbeats 400000 in
theorem within_any (b lo hi : Int) (w : World) :
  Calls Tryz.prog 86 #[.int .u8 b, .int .u8 lo, .int .u8 hi] w fun e w' => e = .returned (.bool (wi b lo hi)) ∧ w' = w := by
 unfold wi
 go_enter Tryz.func86, Tryz.ntmps86
 go_wp2
 all_goals
  go_ret
  refine ⟨?_, rfl⟩
  simp_all <;> omega
theorem len_s (s : ByteArray) : (s.data.toList.length : Int) = s.size := by show ((s.data.toList.length : Nat) : Int) = ((s.data.size : Nat) : Int); simp
section
variable (s : ByteArray) (lo hi : Int) (hs : 0 < s.size)
theorem seq0 (hq : ld (u s[0]) = (0, lo, hi)) : (0 : Int) = seqLen s.data.toList := by
 simp only [seqLen, getD_s s 0 hs, hq, len_s]; simp
theorem seq1 (hq : ld (u s[0]) = (1, lo, hi)) : (1 : Int) = seqLen s.data.toList := by
 simp only [seqLen, getD_s s 0 hs, hq, len_s]; simp
 rw [if_neg (by omega)]; rfl
theorem seqS (n : Int) (hq : ld (u s[0]) = (n, lo, hi)) (hl : (s.size : Int) < n) : (0 : Int) = seqLen s.data.toList := by
 simp only [seqLen, getD_s s 0 hs, hq, len_s]
 rw [if_pos hl]; rfl
theorem seq2f (hl : ¬ s.size < 2) (hq : ld (u s[0]) = (2, lo, hi)) (hw : (!wi (s[1].toNat : Int) lo hi) = true) : (0 : Int) = seqLen s.data.toList := by
 simp only [seqLen, getD_s s 0 hs, getD_s s 1 (by omega), hq, len_s]
 rw [if_neg (by omega)]; simp only [Bool.not_eq_true'] at hw; simp [u, hw]
theorem seq2t (hl : ¬ s.size < 2) (hq : ld (u s[0]) = (2, lo, hi)) (hw : (!wi (s[1].toNat : Int) lo hi) = false) : (2 : Int) = seqLen s.data.toList := by
 simp only [seqLen, getD_s s 0 hs, getD_s s 1 (by omega), hq, len_s]
 rw [if_neg (by omega)]; simp only [Bool.not_eq_false'] at hw; simp [u, hw]
theorem seq3f (hl : ¬ s.size < 3) (hq : ld (u s[0]) = (3, lo, hi)) (hw : (!wi (s[2].toNat : Int) 128 191) = true) : (0 : Int) = seqLen s.data.toList := by
 simp only [seqLen, getD_s s 0 hs, getD_s s 1 (by omega), getD_s s 2 (by omega), hq, len_s]
 rw [if_neg (by omega)]; simp only [Bool.not_eq_true'] at hw; simp [u, hw]
theorem seq3g (hl : ¬ s.size < 3) (hq : ld (u s[0]) = (3, lo, hi)) (hw2 : (!wi (s[2].toNat : Int) 128 191) = false) (hw : (!wi (s[1].toNat : Int) lo hi) = true) : (0 : Int) = seqLen s.data.toList := by
 simp only [seqLen, getD_s s 0 hs, getD_s s 1 (by omega), getD_s s 2 (by omega), hq, len_s]
 rw [if_neg (by omega)]; simp only [Bool.not_eq_true', Bool.not_eq_false'] at hw hw2; simp [u, hw, hw2]
theorem seq3t (hl : ¬ s.size < 3) (hq : ld (u s[0]) = (3, lo, hi)) (hw2 : (!wi (s[2].toNat : Int) 128 191) = false) (hw : (!wi (s[1].toNat : Int) lo hi) = false) : (3 : Int) = seqLen s.data.toList := by
 simp only [seqLen, getD_s s 0 hs, getD_s s 1 (by omega), getD_s s 2 (by omega), hq, len_s]
 rw [if_neg (by omega)]; simp only [Bool.not_eq_false'] at hw hw2; simp [u, hw, hw2]
theorem seq4f (hl : ¬ s.size < 4) (hq : ld (u s[0]) = (4, lo, hi)) (hw : (!wi (s[3].toNat : Int) 128 191) = true) : (0 : Int) = seqLen s.data.toList := by
 simp only [seqLen, getD_s s 0 hs, getD_s s 1 (by omega), getD_s s 2 (by omega), getD_s s 3 (by omega), hq, len_s]
 rw [if_neg (by omega)]; simp only [Bool.not_eq_true'] at hw; simp [u, hw]
theorem seq4e (hl : ¬ s.size < 4) (hq : ld (u s[0]) = (4, lo, hi)) (hw3 : (!wi (s[3].toNat : Int) 128 191) = false) (hw : (!wi (s[2].toNat : Int) 128 191) = true) : (0 : Int) = seqLen s.data.toList := by
 simp only [seqLen, getD_s s 0 hs, getD_s s 1 (by omega), getD_s s 2 (by omega), getD_s s 3 (by omega), hq, len_s]
 rw [if_neg (by omega)]; simp only [Bool.not_eq_true', Bool.not_eq_false'] at hw hw3; simp [u, hw, hw3]
theorem seq4g (hl : ¬ s.size < 4) (hq : ld (u s[0]) = (4, lo, hi)) (hw3 : (!wi (s[3].toNat : Int) 128 191) = false) (hw2 : (!wi (s[2].toNat : Int) 128 191) = false) (hw : (!wi (s[1].toNat : Int) lo hi) = true) : (0 : Int) = seqLen s.data.toList := by
 simp only [seqLen, getD_s s 0 hs, getD_s s 1 (by omega), getD_s s 2 (by omega), getD_s s 3 (by omega), hq, len_s]
 rw [if_neg (by omega)]; simp only [Bool.not_eq_true', Bool.not_eq_false'] at hw hw2 hw3; simp [u, hw, hw2, hw3]
theorem seq4t (hl : ¬ s.size < 4) (hq : ld (u s[0]) = (4, lo, hi)) (hw3 : (!wi (s[3].toNat : Int) 128 191) = false) (hw2 : (!wi (s[2].toNat : Int) 128 191) = false) (hw : (!wi (s[1].toNat : Int) lo hi) = false) : (4 : Int) = seqLen s.data.toList := by
 simp only [seqLen, getD_s s 0 hs, getD_s s 1 (by omega), getD_s s 2 (by omega), getD_s s 3 (by omega), hq, len_s]
 rw [if_neg (by omega)]; simp only [Bool.not_eq_false'] at hw hw2 hw3; simp [u, hw, hw2, hw3]
end
set_option maxHeartbeats 1000000 in
theorem sequence_any (s : ByteArray) (w : World) (hs : 0 < s.size) (hm : s.size ≤ maxLen) :
  Calls Tryz.prog 56 #[.string s] w fun e w' => e = .returned (.int .i64 (seqLen s.data.toList)) ∧ w' = w := by
 unfold maxLen at hm
 have hb : s[0].toNat < 256 := s[0].toNat_lt
 have hc := TextMath.ld_cases (u s[0])
 obtain ⟨n, lo, hi, hq⟩ : ∃ n lo hi, ld (u s[0]) = (n, lo, hi) := ⟨_, _, _, rfl⟩
 rw [hq] at hc
 have Hq : Hid (ld (u s[0]) = (n, lo, hi)) := hq
 clear hq
 simp only [] at hc
 by_cases hl : (s.size : Int) < n
 ·rcases hc with rfl | rfl | rfl | rfl | rfl
  ·omega
  ·omega
  all_goals
   go_enter Tryz.func56, Tryz.ntmps56
   go_wp2_with (go_at_call 85; refine (lead_any _ _ ?_ ?_).mono ?_; omega; omega; rintro e w' ⟨rfl, rfl⟩; rw [show ld ↑s[0].toNat = _ from Hq.out])
   go_ret
   exact ⟨ret_int (seqS s lo hi hs _ Hq.out hl), rfl⟩
 rcases hc with rfl | rfl | rfl | rfl | rfl
 all_goals
  go_enter Tryz.func56, Tryz.ntmps56
  go_wp2_with (first | (go_at_call 85; refine (lead_any _ _ ?_ ?_).mono ?_; omega; omega; rintro e w' ⟨rfl, rfl⟩; rw [show ld ↑s[0].toNat = _ from Hq.out]) | (go_at_call 86; refine (within_any _ _ _ _).mono ?_; rintro e w' ⟨rfl, rfl⟩))
  all_goals
   go_ret
   refine ⟨ret_int ?_, rfl⟩
   first
    | exact seq0 s lo hi hs Hq.out
    | exact seq1 s lo hi hs Hq.out
    | exact seq2f s lo hi hs (by omega) Hq.out ‹_›
    | exact seq2t s lo hi hs (by omega) Hq.out ‹_›
    | exact seq3f s lo hi hs (by omega) Hq.out ‹_›
    | exact seq3g s lo hi hs (by omega) Hq.out ‹_› ‹_›
    | exact seq3t s lo hi hs (by omega) Hq.out ‹_› ‹_›
    | exact seq4f s lo hi hs (by omega) Hq.out ‹_›
    | exact seq4e s lo hi hs (by omega) Hq.out ‹_› ‹_›
    | exact seq4g s lo hi hs (by omega) Hq.out ‹_› ‹_› ‹_›
    | exact seq4t s lo hi hs (by omega) Hq.out ‹_› ‹_› ‹_›
end Go.Proofs.YtkknenmpdimdbaaGreatDoor
