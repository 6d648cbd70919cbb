import Derived.Test.YtoomoicjoockjaaGreatDoorAtOwn
import Derived.Deep.WholeRow
import Derived.Test.YtoomoicjoockjaaGreatDoorGM
import Derived.Deep.RegionHeld3
import Derived.Deep.RegionHeldLaw
import Derived.Deep.AppendLies
import Derived.Deep.DeepCutAuto
import Derived.Great.BuildSlice
import Derived.Lib.AppendStr
import Derived.Lib.OthersKept
import Derived.KernelRfl
import Derived.Test.YtoomoicjoockjaaGreatDoorAtShelf
import Derived.Laws.RangeAny
import Derived.Lib.Bytealg
namespace Go.Proofs.YtoomoicjoockjaaGreatDoor
open Go.RowKit

def Cells (W : World) (b : Nat) (vs : List Value) : Prop := ∀ j (hj : j < vs.length), W.cell? ⟨b, j, none⟩ = some vs[j] ∧ W.frozen? ⟨b, j, none⟩ = false
theorem Cells.of_block {W W' : World} {b : Nat} {vs : List Value} (h : Cells W b vs) (e : W'.heap[b]? = W.heap[b]?) : Cells W' b vs := fun j hj => by
  rw [World.cell?_of_block (w := W) (w' := W') (a := ⟨b, j, none⟩) e, World.frozen?_of_block (w := W) (w' := W') (a := ⟨b, j, none⟩) e]
  exact h j hj
theorem Cells.set {W : World} {b : Nat} {vs : List Value} (h : Cells W b vs) (k : Nat) (hk : k < vs.length) (y : Value) : Cells (W.setCell ⟨b, k, none⟩ y) b (vs.set k y) := by
  intro j hj
  have hj' : j < vs.length := by simpa using hj
  rw [World.frozen?_setCell]
  refine ⟨?_, (h j hj').2⟩
  by_cases e : k = j
  · subst e
    rw [World.cell?_setCell_same W _ _ (h k hk).1]; simp
  · rw [World.cell?_setCell_other W _ _ _ (by intro hh; injection hh with _ h2 _; exact e h2), (h j hj').1]
    simp [e]
theorem Cells.lt {W : World} {b : Nat} {v : Value} {vs : List Value} (h : Cells W b (v :: vs)) : b < W.heap.size := World.block_lt_of_cell? W _ (h 0 (by simp)).1

theorem owns_same {w w' : World} {B k n : Nat} {e : TypeId} {v : Value} {xs : List Value} (h : w.ownsRow B e k v n xs) (hb : ∀ g, v.ownBlock = some g → w'.heap[g]? = w.heap[g]?) : w'.ownsRow B e k v n xs := by
  rcases h with ⟨h1, ⟨rfl, h2⟩ | ⟨g, cap, cur, rfl, h3, h4, h5⟩⟩
  · exact ⟨h1, Or.inl ⟨rfl, h2⟩⟩
  · exact ⟨h1, Or.inr ⟨g, cap, cur, rfl, h3, by rw [hb g rfl]; exact h4, h5⟩⟩
theorem owns_form {w : World} {B k n : Nat} {e : TypeId} {v : Value} {xs : List Value} (h : w.ownsRow B e k v n xs) : (v = .slice none 0 0 ∧ n = 0) ∨ (∃ g cap, v = .slice (some ⟨g, 0, none⟩) n cap ∧ n ≤ cap ∧ B ≤ g ∧ g < w.heap.size) := by
  rcases h with ⟨h1, ⟨rfl, h2⟩ | ⟨g, cap, cur, rfl, h3, h4, h5, _⟩⟩
  · exact Or.inl ⟨rfl, h2⟩
  · exact Or.inr ⟨g, cap, rfl, h5, h3, (Array.getElem?_eq_some_iff.1 h4).1⟩
/-- The row of a value is of cells of its element's type. -/
theorem owns_typ {w : World} {B k n : Nat} {e : TypeId} {v : Value} {xs : List Value} (h : w.ownsRow B e k v n xs) {g : Nat} (hg : v.ownBlock = some g) : ∃ cs, w.heap[g]? = some (.cells cs e (0, 0)) := by
  rcases h with ⟨h1, ⟨rfl, h2⟩ | ⟨g', cap, cur, rfl, h3, h4, h5, _⟩⟩
  · cases hg
  · injection hg with hg
    subst hg
    exact ⟨_, h4⟩
theorem owns_apart {w : World} {B B' k k' n n' : Nat} {e e' : TypeId} {v v' : Value} {xs xs' : List Value} (h : w.ownsRow B e k v n xs) (h' : w.ownsRow B' e' k' v' n' xs') (hne : e ≠ e') {g : Nat} (hg : v.ownBlock = some g) : v'.ownBlock ≠ some g := fun hg' => by
  obtain ⟨c1, h1⟩ := owns_typ h hg
  obtain ⟨c2, h2⟩ := owns_typ h' hg'
  rw [h1] at h2
  injection h2 with h2
  injection h2 with _ h2 _
  exact hne h2

theorem own_nil (W : World) (B : Nat) : Own W B (.slice none 0 0) [] := ⟨rfl, Or.inl ⟨rfl, rfl⟩⟩
theorem own_slice {w : World} {B : Nat} {v : Value} {l : List UInt8} (h : Own w B v l) : ∃ a n c, v = .slice a n c := by
  rcases h.2 with ⟨rfl, hn⟩ | ⟨g, cap, cur, rfl, _⟩
  · exact ⟨_, _, _, rfl⟩
  · exact ⟨_, _, _, rfl⟩
theorem own_take {w : World} {B : Nat} {a : Option Addr} {n c : Nat} {l : List UInt8} (h : Own w B (.slice a n c) l) (k : Nat) (hk : k ≤ n) : Own w B (.slice a k c) (l.take k) := by
  have hn : n = l.length := by
    rcases h with ⟨_, ⟨hv, h2⟩ | ⟨g, cap, cur, hv, _⟩⟩
    · injection hv with _ h3 _; omega
    · injection hv with _ h3 _
  have hlk : (l.take k).length = k := by rw [List.length_take]; omega
  unfold Own
  rw [hlk]
  rcases h with ⟨h1, ⟨hv, h2⟩ | ⟨g, cap, cur, hv, h3, h4, h5, h6, h7, h8⟩⟩
  · injection hv with e1 e2 e3
    have : k = 0 := by omega
    subst this e1 e3
    exact ⟨by simp [bv], Or.inl ⟨rfl, rfl⟩⟩
  · injection hv with e1 e2 e3
    subst e1 e3
    refine ⟨by rw [bv_len, hlk]; omega, Or.inr ⟨g, c, cur, rfl, h3, h4, by omega, h6, h7, ?_⟩⟩
    rw [Nat.mul_one] at h8 ⊢
    have : bv (l.take k) = (bv l).take k := by simp [bv]
    rw [this, ← h8, List.take_take]
    congr 1
    omega
theorem own_size {w : World} {B : Nat} {a : Option Addr} {n c : Nat} {l : List UInt8} (h : Own w B (.slice a n c) l) : n = l.length ∧ n ≤ c := by
  rcases h with ⟨_, ⟨hv, h2⟩ | ⟨g, cap, cur, hv, _, _, h5, _⟩⟩
  · injection hv with _ h3 h4; omega
  · injection hv with _ h3 h4; omega
/-- A string appended to a row of the call's own. -/
theorem push_strK (w : World) {ops : Array Oper} {rest : List Oper} {o : Oper} {a : Act} {Q : Exit → Act → World → Prop} (hgd : o.guard = none) (s x : Operand)
    (ho : o.op = .call { callee := .builtin .append, args := #[s, x], argTypes := #[51, 9] }) (B : Nat) (v : Value) (l : List UInt8) (str : ByteArray)
    (hs : a.eval s = v) (hx : a.eval x = .string str) (hown : Own w B v l) (hB : B ≤ w.heap.size) (hl : l.length + str.size ≤ 35184372088832)
    (h : ∀ v' w', Own w' B v' (l ++ str.data.toList) → w.grownBy w' v.ownBlock → Below B w w' → wpList Tryz.prog ops Q rest (a.put o.dst v') w') :
    wpList Tryz.prog ops Q (o :: rest) a w := by
  obtain ⟨i0, hi, hz0, hz1, hz2⟩ := info_parts info_u8
  refine Lib.wpList_append_own_string _ hgd s x 51 9 ho B 5 i0 Tryz.underlying51 Tryz.underlying9 hi hz0 hz1 hz2 v l.length (bv l) hs hown str hx (by unfold maxLen; omega) (by omega) hB ?_
  intro v' w' h1 h2 _
  refine h v' w' ?_ h2 ?_
  · unfold Own
    rw [bv_app, List.length_append, size_l]
    exact h1
  · refine (Below.refl _ _).grown h2 hB ?_
    intro k hk
    exact (hown.lt _ hk).1

/-- Logical lines as cells. -/
def lV (p : Nat × List UInt8) : List Value := [.int .i64 (p.1 : Int), .string (S p.2)]
def lv (l : List (Nat × List UInt8)) : List Value := l.flatMap lV
theorem lv_snoc (l : List (Nat × List UInt8)) (p : Nat × List UInt8) : lv (l ++ [p]) = lv l ++ lV p := by simp [lv]
theorem lv_len (l : List (Nat × List UInt8)) : (lv l).length = l.length * 2 := by
  induction l with
  | nil => rfl
  | cons p l ih => show (lV p ++ lv l).length = _; rw [List.length_append, ih]; simp [lV]; omega
theorem lV_one (p : Nat × List UInt8) : ∀ u ∈ lV p, u.oneCell' = true := by
  intro u hu
  simp [lV] at hu
  rcases hu with rfl | rfl <;> rfl
theorem info_line : (Tryz.prog.info? 67).map (fun i => (i.zero, i.size, i.bytes)) = some (some (.agg #[.int .i64 0, .string ⟨#[]⟩]), 2, 24) := by kernel_rfl
/-- A list of lines of the call's own. -/
def OwnL (W : World) (B : Nat) (v : Value) (l : List (Nat × List UInt8)) : Prop := W.ownsRow B 67 2 v l.length (lv l)
theorem ownL_nil (W : World) (B : Nat) : OwnL W B (.slice none 0 0) [] := ⟨rfl, Or.inl ⟨rfl, rfl⟩⟩
/-- One line appended, in a walk. -/
theorem push_line (w : World) {ops : Array Oper} {rest : List Oper} {o : Oper} {a : Act} {Q : Exit → Act → World → Prop} (hgd : o.guard = none) (s x : Operand)
    (ho : o.op = .call { callee := .builtin .append, args := #[s, x], argTypes := #[39, 39] }) (B : Nat) (v : Value) (l : List (Nat × List UInt8)) (p : Nat × List UInt8) (g : Nat)
    (hs : a.eval s = v) (hx : a.eval x = .slice (some ⟨g, 0, none⟩) 1 1) (hown : OwnL w B v l) (hg : w.heap[g]? = some (.cells #[.int .i64 (p.1 : Int), .string (S p.2)] 67 (0, 0))) (hB : B ≤ w.heap.size) (hl : l.length ≤ 16777216)
    (h : ∀ g' cap w', OwnL w' B (.slice (some ⟨g', 0, none⟩) (l.length + 1) cap) (l ++ [p]) → w.grownBy w' v.ownBlock → Below B w w' → wpList Tryz.prog ops Q rest (a.put o.dst (.slice (some ⟨g', 0, none⟩) (l.length + 1) cap)) w') :
    wpList Tryz.prog ops Q (o :: rest) a w := by
  obtain ⟨i0, hi, hz0, hz1, hz2⟩ := info_parts info_line
  refine wpList_append_lies w hgd s x 39 ho B 67 i0 _ 2 24 Tryz.underlying39 hi hz0 hz1 hz2 rfl (by decide) v l.length (lv l) hs hown ⟨g, 0, none⟩ 1 1 (lV p) hx rfl (World.news_of_block hg) (lV_one p) (by decide) (by unfold maxLen; omega) (by omega) hB w.heap.size rfl ?_
  intro g' cap w' h1 h2 h3 _
  refine h g' cap w' ?_ h2 ?_
  · unfold OwnL
    rw [lv_snoc, List.length_append]
    exact h1
  · refine (Below.refl _ _).grown h2 hB ?_
    intro k hk
    exact (hown.lt _ hk).1
/-- The text of the last line of a row is put in. -/
theorem ownL_text {w : World} {B g cap n : Nat} {L : List (Nat × List UInt8)} {x t : List UInt8} (h : OwnL w B (.slice (some ⟨g, 0, none⟩) (L.length + 1) cap) (L ++ [(n, x)])) :
    w.cell? ⟨g, L.length * 2 + 1, none⟩ = some (.string (S x)) ∧ w.frozen? ⟨g, L.length * 2 + 1, none⟩ = false ∧ ∀ w', w'.heap[g]? = (w.setCell ⟨g, L.length * 2 + 1, none⟩ (.string (S t))).heap[g]? → OwnL w' B (.slice (some ⟨g, 0, none⟩) (L.length + 1) cap) (L ++ [(n, t)]) := by
  rcases h with ⟨h1, ⟨hv, h2⟩ | ⟨g', cap', cur, hv, h3, h4, h5, h6, h7, h8⟩⟩
  · cases hv
  · injection hv with e1 e2 e3
    injection e1 with e1
    injection e1 with e1 _ _
    subst e1 e3
    rw [List.length_append] at h1 h5 h8
    simp only [List.length_singleton] at h1 h5 h8
    have hsz : L.length * 2 + 1 < cur.size := by omega
    have hfz := Go.frozen_of_row w g (L.length * 2 + 1) cur _ h4
    have hlvl : (lv L).length = L.length * 2 := lv_len L
    refine ⟨?_, hfz, ?_⟩
    · rw [cell_of_row w g _ cur _ _ h4]
      have h9 : (cur.toList.take ((L.length + 1) * 2))[L.length * 2 + 1]? = (lv (L ++ [(n, x)]))[L.length * 2 + 1]? := by rw [h8]
      rw [List.getElem?_take_of_lt (by omega), lv_snoc, List.getElem?_append_right (by omega), hlvl] at h9
      simp [lV] at h9
      simpa using h9
    · intro w' hw'
      have hset := Go.heap_setCell_same w g (L.length * 2 + 1) cur _ (.string (S t)) h4
      rw [hset] at hw'
      refine ⟨?_, Or.inr ⟨g, cap, cur.setIfInBounds (L.length * 2 + 1) (.string (S t)), ?_, h3, hw', ?_, h6, ?_, ?_⟩⟩
      · rw [lv_len]
      · rw [List.length_append]; rfl
      · rw [List.length_append]; exact h5
      · simpa using h7
      · rw [List.length_append, Array.toList_setIfInBounds, lv_snoc]
        simp only [List.length_singleton]
        rw [List.take_set, h8, lv_snoc, List.set_append_right _ _ (by omega), hlvl]
        simp [lV]
end Go.Proofs.YtoomoicjoockjaaGreatDoor

namespace Go.Proofs.YtoomoicjoockjaaGreatDoor
open Go.RowKit
open LdMath

theorem trim_eq (l : List UInt8) : Lib.trimSuffix l [13] = trimCR l := by
  unfold Lib.trimSuffix Lib.hasSuffix trimCR
  rcases List.eq_nil_or_concat l with rfl | ⟨k, x, rfl⟩
  · rfl
  · rw [List.concat_eq_append]
    by_cases h : x = 13
    · subst h
      rw [if_pos (by rw [List.isSuffixOf_iff_suffix]; exact ⟨k, rfl⟩), if_pos (by simp)]
      simp
    · rw [if_neg, if_neg (by simpa using h)]
      rw [List.isSuffixOf_iff_suffix]
      rintro ⟨t, ht⟩
      have := congrArg List.getLast? ht
      simp at this
      exact h this.symm
theorem pre_eq (l : List UInt8) : Lib.hasPrefix l [32] = goes l := by
  unfold Lib.hasPrefix goes
  cases l with
  | nil => rfl
  | cons x l =>
    simp [List.isPrefixOf]
    rw [Bool.eq_iff_iff]
    simp
    exact ⟨fun h => h.symm, fun h => h.symm⟩
theorem cut_eq (l : List UInt8) (h : goes l = true) : Lib.trimPrefix l [32] = l.tail := by
  unfold Lib.trimPrefix
  rw [pre_eq, h]
  simp
theorem idx_eq (l : List UInt8) (c : UInt8) : decide (0 ≤ Lib.indexByte l c) = l.contains c := by
  induction l with
  | nil => rfl
  | cons x l ih =>
    unfold Lib.indexByte
    rw [List.contains_cons]
    by_cases h : x = c
    · subst h; simp
    · have h1 : (x == c) = false := by simpa using h
      have h2 : (c == x) = false := by simpa using fun e => h e.symm
      rw [h1, h2, Bool.false_or, ← ih]
      have hg := Lib.indexByte_ge l c
      rw [if_neg (by simp)]
      by_cases hm : Lib.indexByte l c = -1
      · rw [if_pos (by simpa using hm), hm]
      · rw [if_neg (by simpa using hm), Bool.eq_iff_iff]
        simp
        omega

/-- A rune of a byte above 127 goes over such bytes alone. -/
theorem decode_run (s : ByteArray) (pos : Nat) (h : pos < s.size) (ha : 128 ≤ (s[pos]'h).toNat) : 1 ≤ (Utf8.decode s pos).2 ∧ pos + (Utf8.decode s pos).2 ≤ s.size ∧ ∀ k, k < (Utf8.decode s pos).2 → 128 ≤ (s.get! (pos + k)).toNat := by
  have h0 : 128 ≤ (s.get! (pos + 0)).toNat := by rw [get_at s pos h]; exact ha
  have hn : ¬ (s.get! (pos + 0)).toNat < 128 := by omega
  have k1 : ∀ k, k < 1 → 128 ≤ (s.get! (pos + k)).toNat := fun k hk => by
    have : k = 0 := by omega
    subst this; exact h0
  simp only [Utf8.decode, hn, if_false]
  split
  · rename_i h1
    simp only [Bool.and_eq_true, decide_eq_true_eq, beq_iff_eq] at h1
    split
    · refine ⟨by simp, by simp only; omega, fun k hk => ?_⟩
      rcases (by simp only at hk; omega : k = 0 ∨ k = 1) with rfl | rfl
      · exact h0
      · omega
    · exact ⟨by simp, by simp only; omega, k1⟩
  · split
    · rename_i h1
      simp only [Bool.and_eq_true, decide_eq_true_eq, beq_iff_eq] at h1
      split
      · refine ⟨by simp, by simp only; omega, fun k hk => ?_⟩
        rcases (by simp only at hk; omega : k = 0 ∨ k = 1 ∨ k = 2) with rfl | rfl | rfl
        · exact h0
        · omega
        · omega
      · exact ⟨by simp, by simp only; omega, k1⟩
    · split
      · rename_i h1
        simp only [Bool.and_eq_true, decide_eq_true_eq, beq_iff_eq] at h1
        split
        · refine ⟨by simp, by simp only; omega, fun k hk => ?_⟩
          rcases (by simp only at hk; omega : k = 0 ∨ k = 1 ∨ k = 2 ∨ k = 3) with rfl | rfl | rfl | rfl
          · exact h0
          · omega
          · omega
          · omega
        · exact ⟨by simp, by simp only; omega, k1⟩
      · exact ⟨by simp, by simp only; omega, k1⟩
theorem byte_l (s : ByteArray) (i : Nat) (h : i < s.size) : s.data.toList[i]? = some (s.get! i) := by
  have h' : i < s.data.size := h
  have e : s.get! i = s[i] := by simp [ByteArray.get!, getElem!_pos, h]; rfl
  rw [e]
  simp [Array.getElem?_eq_getElem h']
  rfl
theorem high_skip (s : ByteArray) (pos : Nat) (h : pos < s.size) (ha : 128 ≤ (s[pos]'h).toNat) : lo s.data.toList (pos + (Utf8.decode s pos).2) = lo s.data.toList pos ∧ pl s.data.toList (pos + (Utf8.decode s pos).2) = pl s.data.toList pos := by
  obtain ⟨h1, h2, h3⟩ := decode_run s pos h ha
  refine skip _ _ _ (fun k hk e => ?_)
  rw [byte_l s (pos + k) (by omega)] at e
  injection e with e
  have := h3 k hk
  rw [e] at this
  revert this
  decide
theorem get_at' (s : ByteArray) (i : Nat) (h : i < s.size) : s.data.toList[i]? = some (s[i]'h) := by
  rw [byte_l s i h]
  simp [ByteArray.get!, getElem!_pos, h]
  rfl
theorem extr_l (s : ByteArray) (i j : Nat) : (s.extract i j).data.toList = (s.data.toList.take j).drop i := by
  rw [Lib.extract_data]
  simp [List.drop_take]
end Go.Proofs.YtoomoicjoockjaaGreatDoor
