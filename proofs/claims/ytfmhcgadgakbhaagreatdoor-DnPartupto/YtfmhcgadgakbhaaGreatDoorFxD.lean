import Derived.Test.YtfmhcgadgakbhaaGreatDoorBytes
import Derived.Test.YtfmhcgadgakbhaaGreatDoorFxB
import Derived.Deep.AppendLies
import Derived.Great.BuildSlice
import Derived.Lib.AppendStr
import Derived.BigQuiet
import Derived.KernelRfl
import Derived.Shelf.Strings.Builder1
import Derived.Test.YtfmhcgadgakbhaaGreatDoorFxC
import Derived.Test.YtfmhcgadgakbhaaGreatDoorChecked
import Derived.WalkKit
import Derived.Laws.StructEq
import Derived.Deep.WholeRow
import Derived.Deep.RegionHeld3
import Derived.Deep.RegionHeldLaw
import Derived.Deep.DeepCutAuto
import Derived.Lib.OthersKept
namespace Go.Proofs.YtfmhcgadgakbhaaGreatDoor
open Go.RowKit

theorem add_off (b o j : Nat) : (⟨b, o, none⟩ : Addr).add j = ⟨b, o + j, none⟩ := by
  unfold Addr.add
  by_cases h : j = 0
  · subst h; rfl
  · simp [h]
/-- A value that is the call's own row of bytes. -/
def Own (W : World) (B : Nat) (v : Value) (l : List UInt8) : Prop := W.ownsRow B 5 1 v l.length (bv l)
theorem own_conv {w : World} {B : Nat} {v : Value} {l : List UInt8} (h : Own w B v l) : (convert 60 9 v).run Tryz.prog w = .ok (.string (S l)) w :=
  own_back_any w B 60 9 5 v l.length l Tryz.underlying60 Tryz.underlying5 Tryz.underlying9 h
/-- One byte appended to a row of the call's own. -/
theorem push_byte_at (w : World) {ops : Array Oper} {rest : List Oper} {o : Oper} {a : Act} {Q : Exit → Act → World → Prop} (hgd : o.guard = none) (s x : Operand)
    (ho : o.op = .call { callee := .builtin .append, args := #[s, x], argTypes := #[60, 60] }) (B : Nat) (v : Value) (l : List UInt8) (c : UInt8) (g : Nat)
    (hs : a.eval s = v) (hx : a.eval x = .slice (some ⟨g, 0, none⟩) 1 1) (hg : g = w.heap.size) (hown : Own w B v l) (hB : B ≤ w.heap.size) (hl : l.length ≤ 1099511627776)
    (h : ∀ v' w', Own w' B v' (l ++ [c]) → Below B w w' → wpList Tryz.prog ops Q rest (a.put o.dst v') w') :
    wpList Tryz.prog ops Q (o :: rest) a (w.alloc (.cells #[.int .u8 (c.toNat : Int)] 5)) := by
  subst hg
  obtain ⟨i0, hi, hz0, hz1, hz2⟩ := info_parts info_u8
  refine wpList_append_own _ hgd s x 60 ho B 5 i0 (.int .u8 0) 1 1 Tryz.underlying60 hi hz0 hz1 hz2 rfl (by decide) v l.length (bv l) hs (World.ownsRow.alloc hown _) ⟨w.heap.size, 0, none⟩ 1 1 [.int .u8 (c.toNat : Int)] hx rfl ?_ ?_ ?_ ?_ ?_ ?_
  · exact cell_one_new _ _ _
  · intro u hu; simp at hu; subst hu; rfl
  · unfold maxLen; omega
  · omega
  · simp; omega
  · intro v' w' h1 h2 _
    refine h v' w' ?_ ?_
    · unfold Own
      rw [bv_app, List.length_append]
      exact h1
    · refine ((Below.refl _ _).alloc hB _).grown h2 (by simp; omega) ?_
      intro k hk
      exact (World.ownsRow.lt (show w.ownsRow B 5 1 v l.length (bv l) from hown) _ hk).1
/-- A string appended to a row of the call's own. -/
theorem push_str (w : World) {ops : Array Oper} {rest : List Oper} {o : Oper} {a : Act} {Q : Exit → Act → World → Prop} (hgd : o.guard = none) (s x : Operand)
    (ho : o.op = .call { callee := .builtin .append, args := #[s, x], argTypes := #[60, 9] }) (B : Nat) (v : Value) (l : List UInt8) (str : ByteArray)
    (hs : a.eval s = v) (hx : a.eval x = .string str) (hown : Own w B v l) (hB : B ≤ w.heap.size) (hl : l.length + str.size ≤ 1099511627776)
    (h : ∀ v' w', Own w' B v' (l ++ str.data.toList) → Below B w w' → wpList Tryz.prog ops Q rest (a.put o.dst v') w') :
    wpList Tryz.prog ops Q (o :: rest) a w := by
  obtain ⟨i0, hi, hz0, hz1, hz2⟩ := info_parts info_u8
  refine Lib.wpList_append_own_string _ hgd s x 60 9 ho B 5 i0 Tryz.underlying60 Tryz.underlying9 hi hz0 hz1 hz2 v l.length (bv l) hs hown str hx (by unfold maxLen; omega) (by omega) hB ?_
  intro v' w' h1 h2 _
  refine h v' w' ?_ ?_
  · unfold Own
    rw [bv_app, List.length_append, size_l]
    exact h1
  · refine (Below.refl _ _).grown h2 hB ?_
    intro k hk
    exact (World.ownsRow.lt (show w.ownsRow B 5 1 v l.length (bv l) from hown) _ hk).1
/-- A row of bytes of the call's own, of which at most a stretch behind its end is marked. -/
def OwnG (W : World) (B : Nat) (v : Value) (l : List UInt8) : Prop :=
  ∃ g cap cur fz, v = .slice (some ⟨g, 0, none⟩) l.length cap ∧ B ≤ g ∧ W.heap[g]? = some (.cells cur 5 fz) ∧ (fz.2 = 0 ∨ cur.size ≤ fz.1) ∧ l.length ≤ cap ∧ cap ≤ maxLen ∧ cur.size = cap ∧ cur.toList.take l.length = bv l
theorem storeG (P : Program) (g o N : Nat) (t : TypeId) (fz : Nat × Nat) (hf : fz.2 = 0 ∨ N ≤ fz.1) : ∀ (vs : List Value) (i : Nat) (cur : Array Value) (w : World), w.heap[g]? = some (.cells cur t fz) → cur.size = N → o + i + vs.length ≤ cur.size → (∀ v ∈ vs, v.oneCell' = true) →
    (storeCells ⟨g, o, none⟩ vs i).run P w = .ok () (w.setRow g (cur.toList.take (o + i) ++ vs ++ cur.toList.drop (o + i + vs.length)).toArray)
  | [], i, cur, w, hg, _, _, _ => by
    simp only [storeCells, List.append_nil, List.length_nil, Nat.add_zero, List.take_append_drop, Array.toArray_toList]
    rw [setRow_self w g cur t fz hg]
    rfl
  | v :: rest, i, cur, w, hg, hN, hl, h1 => by
    have hi : o + i < cur.size := by simp at hl; omega
    have hadd : (⟨g, o, none⟩ : Addr).add i = ⟨g, o + i, none⟩ := add_off g o i
    have hcell : w.cell? ⟨g, o + i, none⟩ = some cur[o + i] := by simp [World.cell?, hg, hi]
    have hfro : w.frozen? ⟨g, o + i, none⟩ = false := by
      obtain ⟨lo, hi'⟩ := fz
      simp only [World.frozen?, hg, Bool.and_eq_false_iff, decide_eq_false_iff_not]
      simp only at hf
      omega
    have hst : (store ((⟨g, o, none⟩ : Addr).add i) v).run P w = .ok () (w.setRow g (cur.setIfInBounds (o + i) v)) := by
      rw [hadd, run_store P w _ v _ (h1 v (by simp)), hcell]
      simp [hfro, setCell_eq_setRow w g (o + i) cur t fz v hg]
    have ih := storeG P g o N t fz hf rest (i + 1) (cur.setIfInBounds (o + i) v) (w.setRow g (cur.setIfInBounds (o + i) v)) (setRow_heap w g cur _ t _ hg) (by simpa using hN) (by simp at hl ⊢; omega) (fun x hx => h1 x (by simp [hx]))
    simp only [storeCells, Sem.run_bind, hst, Result.andThen_ok, ih, setRow_setRow]
    congr 3
    have e := list_seg_step cur.toList (o + i) v rest (by simp at hl ⊢; omega)
    simpa [Array.toList_setIfInBounds, Nat.add_assoc] using e
/-- What an append of the cells bv k leaves, with room or without. -/
theorem ownG_room {w : World} {B g cap : Nat} {cur : Array Value} {fz : Nat × Nat} {l k : List UInt8} (hB : B ≤ g) (hg : w.heap[g]? = some (.cells cur 5 fz)) (hf : fz.2 = 0 ∨ cur.size ≤ fz.1) (hr : l.length + k.length ≤ cap) (hm : cap ≤ maxLen) (hs : cur.size = cap) (ht : cur.toList.take l.length = bv l) :
    OwnG (w.setRow g (cur.toList.take l.length ++ bv k ++ cur.toList.drop (l.length + k.length)).toArray) B (.slice (some ⟨g, 0, none⟩) (l.length + k.length) cap) (l ++ k) ∧ Below B w (w.setRow g (cur.toList.take l.length ++ bv k ++ cur.toList.drop (l.length + k.length)).toArray) := by
  have hz : (cur.toList.take l.length ++ bv k ++ cur.toList.drop (l.length + k.length)).toArray.size = cur.size := by
    simp only [List.size_toArray, List.length_append, List.length_take, List.length_drop, Array.length_toList, bv_len]
    omega
  refine ⟨⟨g, cap, _, fz, by rw [List.length_append], hB, setRow_heap w g cur _ _ _ hg, by rw [hz]; exact hf, by rw [List.length_append]; exact hr, hm, by rw [hz]; exact hs, ?_⟩, ?_⟩
  · rw [ht, bv_app, List.length_append]
    have : (bv l ++ bv k).length = l.length + k.length := by rw [List.length_append, bv_len, bv_len]
    rw [← this]
    exact List.take_left
  · exact ⟨rfl, rfl, rfl, by simp, fun x hx => setRow_other w g x _ (by omega)⟩
theorem ownG_grow {w : World} {B : Nat} {l k : List UInt8} (old : Nat) (hB : B ≤ w.heap.size) (hl : l.length + k.length ≤ 1099511627776) :
    OwnG (w.drew.alloc (.cells ((bv l).toArray ++ (bv k).toArray ++ Builtin.zeroCells (Value.int .u8 0).cells (grownCap w (l.length + k.length) old 5 - (l.length + k.length))) 5)) B (.slice (some ⟨w.heap.size, 0, none⟩) (l.length + k.length) (grownCap w (l.length + k.length) old 5)) (l ++ k) ∧
    Below B w (w.drew.alloc (.cells ((bv l).toArray ++ (bv k).toArray ++ Builtin.zeroCells (Value.int .u8 0).cells (grownCap w (l.length + k.length) old 5 - (l.length + k.length))) 5)) := by
  have hge := grownCap_ge w (l.length + k.length) old 5
  have hle := grownCap_le_maxLen w (l.length + k.length) old 5 (by unfold maxLen; omega)
  refine ⟨⟨w.heap.size, _, _, (0, 0), by rw [List.length_append], hB, heap_alloc_new w.drew _, Or.inl rfl, by rw [List.length_append]; exact hge, hle, ?_, ?_⟩, ?_⟩
  · have hz1 : (Value.int IntKind.u8 0).cells.size = 1 := rfl
    simp only [Array.size_append, List.size_toArray, size_zeroCells, hz1, bv_len]
    omega
  · simp only [Array.toList_append, List.append_assoc]
    rw [← List.append_assoc, ← bv_app, ← bv_len (l ++ k)]
    exact List.take_left
  · exact ((Below.refl _ _).drew).alloc hB _
theorem ownG_cells {w : World} {B g n cap : Nat} {l : List UInt8} (h : OwnG w B (.slice (some ⟨g, 0, none⟩) n cap) l) : ∀ j (hj : j < l.length), w.cell? ⟨g, j, none⟩ = some (.int .u8 (l[j].toNat : Int)) := by
  obtain ⟨g', cap', cur, fz, hv, _, hg, _, _, _, _, ht⟩ := h
  injection hv with hv _ _
  injection hv with hv
  injection hv with hv
  subst hv
  intro j hj
  have h1 : (bv l)[j]? = some (.int .u8 (l[j].toNat : Int)) := by simp [bv, hj]
  rw [← ht, List.getElem?_take] at h1
  rw [if_pos hj] at h1
  rw [cell_of_row w g j cur _ fz hg]
  simpa using h1
theorem ownG_conv {w : World} {B : Nat} {v : Value} {l : List UInt8} (h : OwnG w B v l) : (convert 60 9 v).run Tryz.prog w = .ok (.string (S l)) w := by
  have h' := h
  obtain ⟨g, cap, cur, fz, rfl, _⟩ := h'
  exact run_convert_bytes_back w 60 9 5 ⟨g, 0, none⟩ cap l Tryz.underlying60 Tryz.underlying5 Tryz.underlying9 (fun j hj => by rw [add_j]; exact ownG_cells h j hj)
/-- One byte appended. -/
theorem append_byteG (w : World) (ty : TypeId) (B : Nat) (v : Value) (l : List UInt8) (c : UInt8) (gx : Nat) (h : OwnG w B v l) (hx : w.heap[gx]? = some (.cells #[.int .u8 (c.toNat : Int)] 5 (0, 0))) (hB : B ≤ w.heap.size) (hl : l.length + 1 ≤ 1099511627776) :
    ∃ v' w', (Builtin.append_ #[60, 60] ty #[v, .slice (some ⟨gx, 0, none⟩) 1 1]).run Tryz.prog w = .ok v' w' ∧ OwnG w' B v' (l ++ [c]) ∧ Below B w w' := by
  have h' := h
  obtain ⟨g, cap, cur, fz, rfl, hbg, hg, hf, hnc, hcm, hcs, ht⟩ := h'
  obtain ⟨i0, hi, hz0, hz1, hz2⟩ := info_parts info_u8
  have hnews : ∀ j u, (bv [c])[j]? = some u → w.cell? ((⟨gx, 0, none⟩ : Addr).add j) = some u := World.news_of_block hx
  by_cases hr : l.length + 1 ≤ cap
  · have hfc := run_firstCells_some (P := Tryz.prog) w 1 1 ⟨gx, 0, none⟩ 1 1 (bv [c]) rfl hnews
    have hst := storeG Tryz.prog g l.length cur.size 5 fz hf (bv [c]) 0 cur w hg rfl (by rw [bv_len, hcs]; simpa using hr) (bv_one _)
    simp only [Nat.add_zero, bv_len] at hst
    obtain ⟨o1, o2⟩ := ownG_room (k := [c]) hbg hg hf hr hcm hcs ht
    refine ⟨_, _, ?_, o1, o2⟩
    simp [Builtin.append_, run_underlying Tryz.underlying60, sizeOf, typeInfo, hi, hz1, Builtin.lenOf, hr, hfc, Addr.add_lit, hst]
  · have hg2 := run_append_grow (P := Tryz.prog) w 60 ty 5 i0 _ Tryz.underlying60 hi hz0 ⟨g, 0, none⟩ l.length cap (bv l) (by rw [hz1, bv_len, Nat.mul_one]) (fun j u hu => by
      have hj : j < l.length := by
        rcases Nat.lt_or_ge j l.length with h' | h'
        · exact h'
        · rw [List.getElem?_eq_none (by rw [bv_len]; exact h')] at hu; cases hu
      rw [add_j, ownG_cells h j hj, ← hu]
      simp [bv, hj]) ⟨gx, 0, none⟩ 1 1 (bv [c]) (by rw [hz1]; rfl) hnews (by omega) (by omega) (by rw [hz2]; exact growslice_fits (by omega) (by omega))
    obtain ⟨o1, o2⟩ := ownG_grow (w := w) (B := B) (l := l) (k := [c]) cap hB hl
    exact ⟨_, _, hg2, o1, o2⟩
/-- A string appended. -/
theorem append_strG (w : World) (ty : TypeId) (B : Nat) (v : Value) (l : List UInt8) (s : ByteArray) (h : OwnG w B v l) (hB : B ≤ w.heap.size) (hl : l.length + s.size ≤ 1099511627776) :
    ∃ v' w', (Builtin.append_ #[60, 9] ty #[v, .string s]).run Tryz.prog w = .ok v' w' ∧ OwnG w' B v' (l ++ s.data.toList) ∧ Below B w w' := by
  have h' := h
  obtain ⟨g, cap, cur, fz, rfl, hbg, hg, hf, hnc, hcm, hcs, ht⟩ := h'
  obtain ⟨i0, hi, hz0, hz1, hz2⟩ := info_parts info_u8
  have hsl : s.data.toList.length = s.size := size_l s
  have hsc : Lib.strCells s = bv s.data.toList := rfl
  by_cases hr : l.length + s.size ≤ cap
  · have hfc := Lib.run_firstCells_string (P := Tryz.prog) w 1 s
    have hst := storeG Tryz.prog g l.length cur.size 5 fz hf (Lib.strCells s) 0 cur w hg rfl (by rw [hsc, bv_len, hsl, hcs]; simpa using hr) (Lib.strCells_oneCell s)
    simp only [Nat.add_zero, Lib.strCells_length] at hst
    obtain ⟨o1, o2⟩ := ownG_room (k := s.data.toList) hbg hg hf (by rw [hsl]; exact hr) hcm hcs ht
    rw [hsl, ← hsc] at o1 o2
    refine ⟨_, _, ?_, o1, o2⟩
    clear hsc
    simp [Builtin.append_, run_underlying Tryz.underlying60, run_underlying Tryz.underlying9, sizeOf, typeInfo, hi, hz1, Builtin.lenOf, hr, hfc, Addr.add_lit, hst]
  · have hg2 := Lib.run_append_grow_string (P := Tryz.prog) w 60 9 ty 5 i0 _ Tryz.underlying60 Tryz.underlying9 hi hz0 ⟨g, 0, none⟩ l.length cap (bv l) (by rw [hz1, bv_len, Nat.mul_one]) (fun j u hu => by
      have hj : j < l.length := by
        rcases Nat.lt_or_ge j l.length with h' | h'
        · exact h'
        · rw [List.getElem?_eq_none (by rw [bv_len]; exact h')] at hu; cases hu
      rw [add_j, ownG_cells h j hj, ← hu]
      simp [bv, hj]) s (by omega) (by omega) (by rw [hz2]; exact growslice_fits (by omega) (by omega))
    obtain ⟨o1, o2⟩ := ownG_grow (w := w) (B := B) (l := l) (k := s.data.toList) cap hB (by rw [hsl]; exact hl)
    rw [hsl] at o1 o2
    exact ⟨_, _, hg2, o1, o2⟩
/-- A text as bytes of the call's own. -/
theorem conv_own (w : World) (s : ByteArray) (hs : s.size ≤ 1099511627776) :
    ∃ W1 v, (convert 9 60 (.string s)).run Tryz.prog w = .ok v W1 ∧ Below w.heap.size w W1 ∧ OwnG W1 w.heap.size v s.data.toList := by
  refine ⟨_, _, run_bytes_of_string w 9 60 5 s Tryz.underlying9 Tryz.underlying60 Tryz.underlying5, ?_, ?_⟩
  · exact (Below.refl _ _).drew.alloc (by simp) _
  · have hge := grownCap_ge w s.size 0 5
    have hle := grownCap_le_maxLen w s.size 0 5 (by unfold maxLen; omega)
    refine ⟨w.heap.size, _, _, _, by rw [size_l], Nat.le_refl _, heap_alloc_new w.drew _, Or.inr (Nat.le_refl _), by rw [size_l]; exact hge, hle, ?_, ?_⟩
    · simp [bytesRow]
      have : s.size = s.data.size := rfl
      omega
    · simp [bytesRow, bv]

/-- Texts as cells. -/
def sv (l : List (List UInt8)) : List Value := l.map fun m => .string (S m)
theorem sv_len (l : List (List UInt8)) : (sv l).length = l.length := by simp [sv]
theorem sv_snoc (l : List (List UInt8)) (m : List UInt8) : sv (l ++ [m]) = sv l ++ [.string (S m)] := by simp [sv]
theorem sv_app (l k : List (List UInt8)) : sv (l ++ k) = sv l ++ sv k := by simp [sv]
theorem sv_one (l : List (List UInt8)) : ∀ u ∈ sv l, u.oneCell' = true := by
  intro u hu
  simp only [sv, List.mem_map] at hu
  obtain ⟨b, _, rfl⟩ := hu
  rfl
theorem info_str : (Tryz.prog.info? 9).map (fun i => (i.zero, i.size, i.bytes)) = some (some (.string ⟨#[]⟩), 1, 16) := by kernel_rfl
/-- A list of texts of the call's own. -/
def OwnS (W : World) (B : Nat) (v : Value) (l : List (List UInt8)) : Prop := W.ownsRow B 9 1 v l.length (sv l)
theorem ownS_nil (W : World) (B : Nat) : OwnS W B (.slice none 0 0) [] := ⟨rfl, Or.inl ⟨rfl, rfl⟩⟩
theorem ownS_of {w w' : World} {B : Nat} {v : Value} {l : List (List UInt8)} (h : OwnS w B v l) (hb : ∀ g, v.ownBlock = some g → w'.heap[g]? = w.heap[g]?) : OwnS w' B v l := by
  rcases h with ⟨h1, ⟨rfl, h2⟩ | ⟨g, cap, cur, rfl, h3, h4, h5⟩⟩
  · exact ⟨h1, Or.inl ⟨rfl, h2⟩⟩
  · exact ⟨h1, Or.inr ⟨g, cap, cur, rfl, h3, by rw [hb g rfl]; exact h4, h5⟩⟩
theorem ownS_lt {w : World} {B g : Nat} {v : Value} {l : List (List UInt8)} (h : OwnS w B v l) (hg : v.ownBlock = some g) : B ≤ g ∧ g < w.heap.size := World.ownsRow.lt (show w.ownsRow B 9 1 v l.length (sv l) from h) g hg
theorem ownS_form {w : World} {B : Nat} {v : Value} {l : List (List UInt8)} (h : OwnS w B v l) : (v = .slice none 0 0 ∧ l = []) ∨ (∃ g cap, v = .slice (some ⟨g, 0, none⟩) l.length cap) := by
  have hl := h.1
  rcases h.2 with ⟨rfl, hn⟩ | ⟨g, cap, cur, rfl, _⟩
  · exact Or.inl ⟨rfl, List.eq_nil_of_length_eq_zero hn⟩
  · exact Or.inr ⟨g, cap, rfl⟩
theorem ownS_cell {w : World} {B g cap : Nat} {l : List (List UInt8)} (h : OwnS w B (.slice (some ⟨g, 0, none⟩) l.length cap) l) (i : Nat) (hi : i < l.length) : w.cell? ⟨g, i, none⟩ = some (.string (S l[i])) := by
  have hc := World.ownsRow.cellAt (show w.ownsRow B 9 1 _ l.length (sv l) from h) i (by omega)
  rw [hc]
  simp [sv, hi]
/-- One text appended, in a walk. -/
theorem push_text (w : World) {ops : Array Oper} {rest : List Oper} {o : Oper} {a : Act} {Q : Exit → Act → World → Prop} (hgd : o.guard = none) (s x : Operand)
    (ho : o.op = .call { callee := .builtin .append, args := #[s, x], argTypes := #[39, 39] }) (B : Nat) (v : Value) (l : List (List UInt8)) (m : List UInt8) (g : Nat)
    (hs : a.eval s = v) (hx : a.eval x = .slice (some ⟨g, 0, none⟩) 1 1) (hown : OwnS w B v l) (hg : w.heap[g]? = some (.cells #[.string (S m)] 9 (0, 0))) (hB : B ≤ w.heap.size) (hl : l.length ≤ 4194304)
    (h : ∀ g' cap w', OwnS w' B (.slice (some ⟨g', 0, none⟩) (l.length + 1) cap) (l ++ [m]) → w.grownBy w' v.ownBlock → (v.ownBlock = some g' ∨ g' = w.heap.size) → Below B w w' → wpList Tryz.prog ops Q rest (a.put o.dst (.slice (some ⟨g', 0, none⟩) (l.length + 1) cap)) w') :
    wpList Tryz.prog ops Q (o :: rest) a w := by
  obtain ⟨i0, hi, hz0, hz1, hz2⟩ := info_parts info_str
  refine wpList_append_lies w hgd s x 39 ho B 9 i0 _ 1 16 Tryz.underlying39 hi hz0 hz1 hz2 rfl (by decide) v l.length (sv l) hs hown ⟨g, 0, none⟩ 1 1 [.string (S m)] hx rfl (World.news_of_block hg) (by intro u hu; simp at hu; subst hu; rfl) (by decide) (by unfold maxLen; omega) (by omega) hB w.heap.size rfl ?_
  intro g' cap w' h1 h2 h3 _
  refine h g' cap w' ?_ h2 h3 ?_
  · unfold OwnS
    rw [sv_snoc, List.length_append]
    exact h1
  · refine (Below.refl _ _).grown h2 hB ?_
    intro k hk
    exact (World.ownsRow.lt (show w.ownsRow B 9 1 v l.length (sv l) from hown) _ hk).1

/-- A row of texts that came in. -/
def Strs (w : World) (a : Option Addr) (n : Nat) (X : Nat → ByteArray) : Prop := ∀ i, i < n → ∃ b off, a = some ⟨b, off, none⟩ ∧ w.cell? ⟨b, off + i, none⟩ = some (.string (X i))
theorem Strs.below {w w' : World} {a : Option Addr} {n : Nat} {X : Nat → ByteArray} (h : Strs w a n X) (hb : Below w.heap.size w w') : Strs w' a n X := fun i hi => by
  obtain ⟨b, off, e, h1⟩ := h i hi
  refine ⟨b, off, e, ?_⟩
  rw [hb.cell (World.block_lt_of_cell? w _ h1)]
  exact h1
theorem Strs.less {w : World} {a : Option Addr} {n m : Nat} {X : Nat → ByteArray} (h : Strs w a n X) (hm : m ≤ n) : Strs w a m X := fun i hi => h i (by omega)
def tot (X : Nat → ByteArray) : Nat → Nat
  | 0 => 0
  | i + 1 => tot X i + ((X i).size + 1)
theorem tot_mono (X : Nat → ByteArray) (i j : Nat) (h : i ≤ j) : tot X i ≤ tot X j := by
  induction j with
  | zero => have : i = 0 := by omega
            subst this; exact Nat.le_refl _
  | succ j ih =>
    by_cases he : i = j + 1
    · subst he; exact Nat.le_refl _
    · have := ih (by omega)
      show tot X i ≤ tot X j + _
      omega
theorem tot_ge (X : Nat → ByteArray) (i : Nat) : i ≤ tot X i := by
  induction i with
  | zero => exact Nat.le_refl _
  | succ i ih =>
    show i + 1 ≤ tot X i + _
    omega
/-- The texts themselves. -/
def lst (X : Nat → ByteArray) (n : Nat) : List (List UInt8) := (List.range n).map fun i => (X i).data.toList
theorem lst_len (X : Nat → ByteArray) (n : Nat) : (lst X n).length = n := by simp [lst]
theorem lst_at (X : Nat → ByteArray) (n i : Nat) (h : i < (lst X n).length) : (lst X n)[i] = (X i).data.toList := by simp [lst]
theorem ownS_strs {w : World} {B g cap n : Nat} {X : Nat → ByteArray} {k : List (List UInt8)} (h : OwnS w B (.slice (some ⟨g, 0, none⟩) (lst X n ++ k).length cap) (lst X n ++ k)) : Strs w (some ⟨g, 0, none⟩) n X := fun i hi => by
  refine ⟨g, 0, rfl, ?_⟩
  have hl : i < (lst X n).length := by rw [lst_len]; exact hi
  have hc := ownS_cell h i (by rw [List.length_append]; omega)
  rw [Nat.zero_add, hc, List.getElem_append_left hl, lst_at, S_of]
end Go.Proofs.YtfmhcgadgakbhaaGreatDoor

namespace Go.Proofs.YtfmhcgadgakbhaaGreatDoor
open Go.RowKit Go.Shelf

def ren169 : Go.Shelf.Ren := ⟨fun | 169 => 29 | n => n, fun | 70 => 59 | 9 => 9 | 0 => 0 | 72 => 62 | 37 => 60 | 127 => 82 | 3 => 3 | 5 => 5 | n => n, fun | n => n⟩
theorem lays169 : Go.Proofs.Lays.n169 Tryz.prog ren169 := {
  mixed := by kernel_rfl
  f169 := Tryz.func29.trans (congrArg some (by kernel_rfl))
  t0 := Tryz.underlying0
  a0 := Tryz.isAgg0
  z0 := Tryz.sizeOf0
  v0 := Tryz.zeroValue0
  t3 := Tryz.underlying3
  a3 := Tryz.isAgg3
  z3 := Tryz.sizeOf3
  v3 := Tryz.zeroValue3
  t9 := Tryz.underlying9
  a9 := Tryz.isAgg9
  z9 := Tryz.sizeOf9
  v9 := Tryz.zeroValue9
  t37 := Tryz.underlying60
  a37 := Tryz.isAgg60
  z37 := Tryz.sizeOf60
  v37 := Tryz.zeroValue60
  t70 := Tryz.underlying59
  a70 := Tryz.isAgg59
  z70 := Tryz.sizeOf59
  v70 := Tryz.zeroValue59
  t72 := Tryz.underlying62
  a72 := Tryz.isAgg62
  z72 := Tryz.sizeOf62
  v72 := Tryz.zeroValue62
  t127 := Tryz.underlying82
  a127 := Tryz.isAgg82
  z127 := Tryz.sizeOf82
  v127 := Tryz.zeroValue82 }
theorem extra169 : Builder.Extra Tryz.prog ren169 := {
  sizeBuilder := by kernel_rfl
  liesBuilder := by kernel_rfl
  t5 := Tryz.underlying5
  a5 := Tryz.isAgg5
  z5 := Tryz.sizeOf5
  v5 := Tryz.zeroValue5
  infoByte := by kernel_rfl
  cellsByte := by kernel_rfl
  sizeByte := by kernel_rfl
  neB5 := by decide }
/-- A builder that holds the bytes l. -/
def IsB (B b : Nat) (l : List UInt8) (w : World) : Prop := Lib.IsBuilder 62 5 B b (bv l) w
theorem bytes_bv (l : List UInt8) : Lib.byteCells l = bv l := rfl
theorem bString_any (B b : Nat) (l : List UInt8) (w : World) (h : IsB B b l w) (hBw : B ≤ w.heap.size) :
    Calls Tryz.prog 29 #[.pointer (some ⟨b, 0, none⟩)] w fun e w' => e = .returned (.string (S l)) ∧ Below B w w' := Any.Builder_String_any lays169 extra169 B b l w h hBw

set_option maxHeartbeats 1000000 in
set_option maxRecDepth 100000 in
theorem copyCheck_any (B b : Nat) (l : List UInt8) (w : World) (h : IsB B b l w) :
    Calls Tryz.prog 80 #[.pointer (some ⟨b, 0, none⟩)] w fun e w' => e = .returned (.tuple #[]) ∧ Lib.BuilderAt 62 5 B b (.pointer (some ⟨b, 0, none⟩)) (bv l) w' ∧ Below B w w' := by
  obtain ⟨j, hj, hjs⟩ := Option.map_eq_some_iff.1 extra169.sizeBuilder
  rcases h with h | h
  · have h0 := h.cell0
    have hsh := h.shape
    have hfz := h.frozen0
    go_enter Tryz.func80, Tryz.ntmps80
    go_wp2
    rw [Lib.run_to_unsafe w ⟨b, 0, none⟩ Tryz.underlying59 Tryz.underlying121 hj (by rw [hjs]; decide) hsh (Nat.zero_lt_succ 1)]
    simp only [Result.andThen]
    rw [Oper.upon_value]
    go_wp2
    rw [run_callFunc_extern Tryz.func107 (by kernel_rfl) (by kernel_rfl) (by kernel_rfl) (e := Extern.AbiNoEscape.same) (by kernel_rfl)]
    rw [Lib.run_noEscape]
    simp only [Result.andThen]
    rw [Oper.upon_value]
    go_wp2
    rw [Lib.run_from_unsafe w ⟨b, 0, none⟩ Tryz.underlying121 Tryz.underlying59 hj hsh extra169.liesBuilder]
    simp only [Result.andThen]
    rw [Oper.upon_value]
    go_wp2
    go_end0
    exact ⟨rfl, h.used _, (Below.refl B w).setCell (p := ⟨b, 0, none⟩) h.1 _⟩
  · have h0 := h.cell0
    go_enter Tryz.func80, Tryz.ntmps80
    go_wp2
    rw [Lib.run_neq_ptr_same w _ Tryz.underlying59 hj]
    go_wp2
    go_end0
    exact ⟨rfl, h, Below.refl B _⟩

set_option maxHeartbeats 1000000 in
set_option maxRecDepth 100000 in
theorem writeByte_any (B b : Nat) (l : List UInt8) (c : UInt8) (w : World) (h : IsB B b l w) (hlen : l.length ≤ 1099511627776) (hBw : B ≤ w.heap.size) :
    Calls Tryz.prog 47 #[.pointer (some ⟨b, 0, none⟩), .int .u8 (c.toNat : Int)] w fun e w' => e = .returned .nilIface ∧ IsB B b (l ++ [c]) w' ∧ Below B w w' := by
  go_enter Tryz.func47, Tryz.ntmps47
  go_wp2_with (go_at_call 80; refine (copyCheck_any B b l _ h).mono ?_)
  rintro e w1 ⟨rfl, h1, hb1⟩
  obtain ⟨hB, v, hbk, hown, hne⟩ := h1
  have c0 : w1.cell? ⟨b, 0, none⟩ = some (.pointer (some ⟨b, 0, none⟩)) := by rw [Lib.cell_of_heap hbk]; rfl
  have c1 : w1.cell? ⟨b, 1, none⟩ = some v := by rw [Lib.cell_of_heap hbk]; rfl
  obtain ⟨i0, hi, hz0, hz1, hz2⟩ := info_parts info_u8
  have hlt : b < w1.heap.size := by
    rcases Nat.lt_or_ge b w1.heap.size with h' | h'
    · exact h'
    · simp [Array.getElem?_eq_none h'] at hbk
  have hn1 : w.heap.size ≤ w1.heap.size := hb1.size
  have hbl : Hid ((bv l).length = l.length) := bv_len l
  go_wp2_with (at_builtin; refine wpList_append_own _ rfl _ _ 60 rfl B 5 i0 (.int .u8 0) 1 1 Tryz.underlying60 hi hz0 hz1 hz2 rfl (by decide) _ _ _ rfl (hown.alloc _) ⟨w1.heap.size, 0, none⟩ 1 1 [.int .u8 (c.toNat : Int)] rfl rfl ?_ ?_ ?_ ?_ ?_ ?_)
  · exact cell_one_new _ _ _
  · intro u hu; simp at hu; subst hu; rfl
  · have := hbl.out; unfold maxLen; omega
  · have := hbl.out; omega
  · simp; omega
  intro v' w2 hown' hgrow _
  have hb2 : w2.heap[b]? = some (.cells #[.pointer (some ⟨b, 0, none⟩), v] 62 (0, 0)) := by
    rw [hgrow.block b (by simp; omega) (fun e => hne e.symm), Lib.alloc_old w1 _ b hlt]
    exact hbk
  have d0 : w2.cell? ⟨b, 0, none⟩ = some (.pointer (some ⟨b, 0, none⟩)) := by rw [Lib.cell_of_heap hb2]; rfl
  have d1 : w2.cell? ⟨b, 1, none⟩ = some v := by rw [Lib.cell_of_heap hb2]; rfl
  have f1 : w2.frozen? ⟨b, 1, none⟩ = false := Lib.frozen_of_heap hb2 1
  obtain ⟨g, cap, rfl⟩ : ∃ g cap, v' = .slice (some ⟨g, 0, none⟩) ((bv l).length + 1) cap := by
    rcases hown'.2 with ⟨_, h0⟩ | ⟨g, cap, cur, hv, _⟩
    · omega
    · exact ⟨g, cap, hv⟩
  go_wp2
  go_ret
  refine ⟨rfl, Or.inr ?_, ?_⟩
  · rw [bv_app]
    exact Lib.BuilderAt.put (T := 62) (e := 5) hB hb2 (bs' := bv l ++ [.int .u8 (c.toNat : Int)]) (by simpa using hown') (by decide)
  · exact ((hb1.alloc (by omega) _).grown hgrow (by simp; omega) (fun k hk => (hown.lt k hk).1)).setCell (p := ⟨b, 1, none⟩) hB _

set_option maxHeartbeats 1000000 in
set_option maxRecDepth 100000 in
theorem writeString_any (B b : Nat) (l : List UInt8) (s : ByteArray) (w : World) (h : IsB B b l w) (hlen : l.length + s.size ≤ 1099511627776) (hBw : B ≤ w.heap.size) :
    Calls Tryz.prog 48 #[.pointer (some ⟨b, 0, none⟩), .string s] w fun e w' => e = .returned (.tuple #[.int .i64 s.size, .nilIface]) ∧ IsB B b (l ++ s.data.toList) w' ∧ Below B w w' := by
  go_enter Tryz.func48, Tryz.ntmps48
  go_wp2_with (go_at_call 80; refine (copyCheck_any B b l _ h).mono ?_)
  rintro e w1 ⟨rfl, h1, hb1⟩
  obtain ⟨hB, v, hbk, hown, hne⟩ := h1
  have c0 : w1.cell? ⟨b, 0, none⟩ = some (.pointer (some ⟨b, 0, none⟩)) := by rw [Lib.cell_of_heap hbk]; rfl
  have c1 : w1.cell? ⟨b, 1, none⟩ = some v := by rw [Lib.cell_of_heap hbk]; rfl
  obtain ⟨i0, hi, hz0, hz1, hz2⟩ := info_parts info_u8
  have hlt : b < w1.heap.size := by
    rcases Nat.lt_or_ge b w1.heap.size with h' | h'
    · exact h'
    · simp [Array.getElem?_eq_none h'] at hbk
  have hn1 : w.heap.size ≤ w1.heap.size := hb1.size
  have hbl : Hid ((bv l).length = l.length) := bv_len l
  go_wp2_with (at_builtin; refine Lib.wpList_append_own_string _ rfl _ _ 60 9 rfl B 5 i0 Tryz.underlying60 Tryz.underlying9 hi hz0 hz1 hz2 _ _ _ rfl hown s rfl ?_ ?_ ?_ ?_)
  · have := hbl.out; unfold maxLen; omega
  · have := hbl.out; omega
  · omega
  intro v' w2 hown' hgrow _
  have hb2 : w2.heap[b]? = some (.cells #[.pointer (some ⟨b, 0, none⟩), v] 62 (0, 0)) := by
    rw [hgrow.block b hlt (fun e => hne e.symm)]
    exact hbk
  have d0 : w2.cell? ⟨b, 0, none⟩ = some (.pointer (some ⟨b, 0, none⟩)) := by rw [Lib.cell_of_heap hb2]; rfl
  have d1 : w2.cell? ⟨b, 1, none⟩ = some v := by rw [Lib.cell_of_heap hb2]; rfl
  have f1 : w2.frozen? ⟨b, 1, none⟩ = false := Lib.frozen_of_heap hb2 1
  obtain ⟨ao, n', cap, rfl⟩ : ∃ ao n' cap, v' = .slice ao n' cap := by
    rcases hown'.2 with ⟨hv, _⟩ | ⟨g, cap, cur, hv, _⟩
    · exact ⟨_, _, _, hv⟩
    · exact ⟨_, _, _, hv⟩
  go_wp2
  go_ret2
  refine ⟨rfl, Or.inr ?_, ?_⟩
  · rw [bv_app]
    exact Lib.BuilderAt.put (T := 62) (e := 5) hB hb2 (bs' := bv l ++ Lib.strCells s) (by simpa [Lib.strCells_length] using hown') (by decide)
  · exact (hb1.grown hgrow (by omega) (fun k hk => (hown.lt k hk).1)).setCell (p := ⟨b, 1, none⟩) hB _
end Go.Proofs.YtfmhcgadgakbhaaGreatDoor

namespace Go.Proofs.YtfmhcgadgakbhaaGreatDoor
namespace Lr
open Go.RowKit Go.Shelf
set_option linter.unusedVariables false

/-- What is no builder and no row of bytes stays as it was. -/
def Kt (w w' : World) : Prop := ∀ (k : Nat) (o : Obj), w.heap[k]? = some o → (∀ cs fz, o ≠ .cells cs 62 fz) → (∀ cs fz, o ≠ .cells cs 5 fz) → w'.heap[k]? = some o
theorem Kt.refl (w : World) : Kt w w := fun _ _ h _ _ => h
theorem Kt.trans {a b c : World} (h : Kt a b) (h' : Kt b c) : Kt a c := fun k o q1 q2 q3 => h' k o (h k o q1 q2 q3) q2 q3
theorem Kt.below {w w' : World} (h : Below w.heap.size w w') : Kt w w' := fun k o q _ _ => by rw [h.block k (Array.getElem?_eq_some_iff.1 q).1]; exact q
theorem Kt.alloc (w : World) (o : Obj) : Kt w (w.alloc o) := Kt.below ((Below.refl _ _).alloc (Nat.le_refl _) _)
theorem Kt.set {w : World} {b : Nat} {cs : Array Value} {fz : Nat × Nat} (h : w.heap[b]? = some (.cells cs 62 fz)) (j : Nat) (v : Value) : Kt w (w.setCell ⟨b, j, none⟩ v) := fun k o q1 q2 q3 => by
  have hne : k ≠ b := fun e => by
    subst e
    rw [h] at q1
    injection q1 with q1
    exact q2 cs fz q1.symm
  rw [Below.heap_setCell _ _ _ _ hne]
  exact q1
theorem Kt.grown {w w' : World} {B n : Nat} {v : Value} {xs : List Value} (h : w.ownsRow B 5 1 v n xs) (hg : w.grownBy w' v.ownBlock) : Kt w w' := fun k o q1 q2 q3 => by
  have hlt : k < w.heap.size := (Array.getElem?_eq_some_iff.1 q1).1
  rw [hg.block k hlt (fun e => ?_)]
  · exact q1
  · rcases h with ⟨h1, ⟨rfl, h2⟩ | ⟨g, cap, cur, rfl, h3, h4, h5⟩⟩
    · cases e
    · injection e with e
      subst e
      rw [h4] at q1
      injection q1 with q1
      exact q3 _ _ q1.symm

set_option maxHeartbeats 1000000 in
set_option maxRecDepth 100000 in
theorem copyCheckK_any (B b : Nat) (l : List UInt8) (w : World) (h : IsB B b l w) :
    Calls Tryz.prog 80 #[.pointer (some ⟨b, 0, none⟩)] w fun e w' => e = .returned (.tuple #[]) ∧ Lib.BuilderAt 62 5 B b (.pointer (some ⟨b, 0, none⟩)) (bv l) w' ∧ Below B w w' ∧ Kt w w' := by
  obtain ⟨j, hj, hjs⟩ := Option.map_eq_some_iff.1 extra169.sizeBuilder
  rcases h with h | h
  · have hcp := h
    obtain ⟨_, v0, hbk0, _, _⟩ := hcp
    have h0 := h.cell0
    have hsh := h.shape
    have hfz := h.frozen0
    go_enter Tryz.func80, Tryz.ntmps80
    go_wp2
    rw [Lib.run_to_unsafe w ⟨b, 0, none⟩ Tryz.underlying59 Tryz.underlying121 hj (by rw [hjs]; decide) hsh (Nat.zero_lt_succ 1)]
    simp only [Result.andThen]
    rw [Oper.upon_value]
    go_wp2
    rw [run_callFunc_extern Tryz.func107 (by kernel_rfl) (by kernel_rfl) (by kernel_rfl) (e := Extern.AbiNoEscape.same) (by kernel_rfl)]
    rw [Lib.run_noEscape]
    simp only [Result.andThen]
    rw [Oper.upon_value]
    go_wp2
    rw [Lib.run_from_unsafe w ⟨b, 0, none⟩ Tryz.underlying121 Tryz.underlying59 hj hsh extra169.liesBuilder]
    simp only [Result.andThen]
    rw [Oper.upon_value]
    go_wp2
    go_end0
    exact ⟨rfl, h.used _, (Below.refl B w).setCell (p := ⟨b, 0, none⟩) h.1 _, Kt.set hbk0 0 _⟩
  · have h0 := h.cell0
    go_enter Tryz.func80, Tryz.ntmps80
    go_wp2
    rw [Lib.run_neq_ptr_same w _ Tryz.underlying59 hj]
    go_wp2
    go_end0
    exact ⟨rfl, h, Below.refl B _, Kt.refl _⟩

set_option maxHeartbeats 1000000 in
set_option maxRecDepth 100000 in
theorem writeByteK_any (B b : Nat) (l : List UInt8) (c : UInt8) (w : World) (h : IsB B b l w) (hlen : l.length ≤ 1099511627776) (hBw : B ≤ w.heap.size) :
    Calls Tryz.prog 47 #[.pointer (some ⟨b, 0, none⟩), .int .u8 (c.toNat : Int)] w fun e w' => e = .returned .nilIface ∧ IsB B b (l ++ [c]) w' ∧ Below B w w' ∧ Kt w w' := by
  go_enter Tryz.func47, Tryz.ntmps47
  go_wp2_with (go_at_call 80; refine (copyCheckK_any B b l _ h).mono ?_)
  rintro e w1 ⟨rfl, h1, hb1, hk1⟩
  obtain ⟨hB, v, hbk, hown, hne⟩ := h1
  have c0 : w1.cell? ⟨b, 0, none⟩ = some (.pointer (some ⟨b, 0, none⟩)) := by rw [Lib.cell_of_heap hbk]; rfl
  have c1 : w1.cell? ⟨b, 1, none⟩ = some v := by rw [Lib.cell_of_heap hbk]; rfl
  obtain ⟨i0, hi, hz0, hz1, hz2⟩ := info_parts info_u8
  have hlt : b < w1.heap.size := by
    rcases Nat.lt_or_ge b w1.heap.size with h' | h'
    · exact h'
    · simp [Array.getElem?_eq_none h'] at hbk
  have hn1 : w.heap.size ≤ w1.heap.size := hb1.size
  have hbl : Hid ((bv l).length = l.length) := bv_len l
  go_wp2_with (at_builtin; refine wpList_append_own _ rfl _ _ 60 rfl B 5 i0 (.int .u8 0) 1 1 Tryz.underlying60 hi hz0 hz1 hz2 rfl (by decide) _ _ _ rfl (hown.alloc _) ⟨w1.heap.size, 0, none⟩ 1 1 [.int .u8 (c.toNat : Int)] rfl rfl ?_ ?_ ?_ ?_ ?_ ?_)
  · exact cell_one_new _ _ _
  · intro u hu; simp at hu; subst hu; rfl
  · have := hbl.out; unfold maxLen; omega
  · have := hbl.out; omega
  · simp; omega
  intro v' w2 hown' hgrow _
  have hb2 : w2.heap[b]? = some (.cells #[.pointer (some ⟨b, 0, none⟩), v] 62 (0, 0)) := by
    rw [hgrow.block b (by simp; omega) (fun e => hne e.symm), Lib.alloc_old w1 _ b hlt]
    exact hbk
  have d0 : w2.cell? ⟨b, 0, none⟩ = some (.pointer (some ⟨b, 0, none⟩)) := by rw [Lib.cell_of_heap hb2]; rfl
  have d1 : w2.cell? ⟨b, 1, none⟩ = some v := by rw [Lib.cell_of_heap hb2]; rfl
  have f1 : w2.frozen? ⟨b, 1, none⟩ = false := Lib.frozen_of_heap hb2 1
  obtain ⟨g, cap, rfl⟩ : ∃ g cap, v' = .slice (some ⟨g, 0, none⟩) ((bv l).length + 1) cap := by
    rcases hown'.2 with ⟨_, h0⟩ | ⟨g, cap, cur, hv, _⟩
    · omega
    · exact ⟨g, cap, hv⟩
  go_wp2
  go_ret
  refine ⟨rfl, Or.inr ?_, ?_, ?_⟩
  · rw [bv_app]
    exact Lib.BuilderAt.put (T := 62) (e := 5) hB hb2 (bs' := bv l ++ [.int .u8 (c.toNat : Int)]) (by simpa using hown') (by decide)
  · exact ((hb1.alloc (by omega) _).grown hgrow (by simp; omega) (fun k hk => (hown.lt k hk).1)).setCell (p := ⟨b, 1, none⟩) hB _
  · exact hk1.trans ((Kt.alloc w1 _).trans ((Kt.grown (hown.alloc _) hgrow).trans (Kt.set hb2 1 _)))

set_option maxHeartbeats 1000000 in
set_option maxRecDepth 100000 in
theorem writeStringK_any (B b : Nat) (l : List UInt8) (s : ByteArray) (w : World) (h : IsB B b l w) (hlen : l.length + s.size ≤ 1099511627776) (hBw : B ≤ w.heap.size) :
    Calls Tryz.prog 48 #[.pointer (some ⟨b, 0, none⟩), .string s] w fun e w' => e = .returned (.tuple #[.int .i64 s.size, .nilIface]) ∧ IsB B b (l ++ s.data.toList) w' ∧ Below B w w' ∧ Kt w w' := by
  go_enter Tryz.func48, Tryz.ntmps48
  go_wp2_with (go_at_call 80; refine (copyCheckK_any B b l _ h).mono ?_)
  rintro e w1 ⟨rfl, h1, hb1, hk1⟩
  obtain ⟨hB, v, hbk, hown, hne⟩ := h1
  have c0 : w1.cell? ⟨b, 0, none⟩ = some (.pointer (some ⟨b, 0, none⟩)) := by rw [Lib.cell_of_heap hbk]; rfl
  have c1 : w1.cell? ⟨b, 1, none⟩ = some v := by rw [Lib.cell_of_heap hbk]; rfl
  obtain ⟨i0, hi, hz0, hz1, hz2⟩ := info_parts info_u8
  have hlt : b < w1.heap.size := by
    rcases Nat.lt_or_ge b w1.heap.size with h' | h'
    · exact h'
    · simp [Array.getElem?_eq_none h'] at hbk
  have hn1 : w.heap.size ≤ w1.heap.size := hb1.size
  have hbl : Hid ((bv l).length = l.length) := bv_len l
  go_wp2_with (at_builtin; refine Lib.wpList_append_own_string _ rfl _ _ 60 9 rfl B 5 i0 Tryz.underlying60 Tryz.underlying9 hi hz0 hz1 hz2 _ _ _ rfl hown s rfl ?_ ?_ ?_ ?_)
  · have := hbl.out; unfold maxLen; omega
  · have := hbl.out; omega
  · omega
  intro v' w2 hown' hgrow _
  have hb2 : w2.heap[b]? = some (.cells #[.pointer (some ⟨b, 0, none⟩), v] 62 (0, 0)) := by
    rw [hgrow.block b hlt (fun e => hne e.symm)]
    exact hbk
  have d0 : w2.cell? ⟨b, 0, none⟩ = some (.pointer (some ⟨b, 0, none⟩)) := by rw [Lib.cell_of_heap hb2]; rfl
  have d1 : w2.cell? ⟨b, 1, none⟩ = some v := by rw [Lib.cell_of_heap hb2]; rfl
  have f1 : w2.frozen? ⟨b, 1, none⟩ = false := Lib.frozen_of_heap hb2 1
  obtain ⟨ao, n', cap, rfl⟩ : ∃ ao n' cap, v' = .slice ao n' cap := by
    rcases hown'.2 with ⟨hv, _⟩ | ⟨g, cap, cur, hv, _⟩
    · exact ⟨_, _, _, hv⟩
    · exact ⟨_, _, _, hv⟩
  go_wp2
  go_ret2
  refine ⟨rfl, Or.inr ?_, ?_, ?_⟩
  · rw [bv_app]
    exact Lib.BuilderAt.put (T := 62) (e := 5) hB hb2 (bs' := bv l ++ Lib.strCells s) (by simpa [Lib.strCells_length] using hown') (by decide)
  · exact (hb1.grown hgrow (by omega) (fun k hk => (hown.lt k hk).1)).setCell (p := ⟨b, 1, none⟩) hB _
  · exact hk1.trans ((Kt.grown hown hgrow).trans (Kt.set hb2 1 _))
end Lr
end Go.Proofs.YtfmhcgadgakbhaaGreatDoor

namespace Go.Proofs.YtfmhcgadgakbhaaGreatDoor
namespace Ke
open Go.RowKit
set_option linter.unusedVariables false
set_option maxRecDepth 100000

theorem u8_beq (b k : UInt8) : (b == k) = ((b.toNat : Int) == (k.toNat : Int)) := by
  rw [Bool.eq_iff_iff, beq_iff_eq, beq_iff_eq]
  constructor
  · intro h; rw [h]
  · intro h; exact UInt8.toNat_inj.1 (by omega)
theorem mst_int (n i : Nat) (b : UInt8) : mst n i b = ((b.toNat : Int) == 92 || (b.toNat : Int) == 34 || (b.toNat : Int) == 43 || (b.toNat : Int) == 44 || (b.toNat : Int) == 59 || (b.toNat : Int) == 60 || (b.toNat : Int) == 62 || ((b.toNat : Int) == 35 && decide (i = 0)) || ((b.toNat : Int) == 32 && (decide (i = 0) || decide (i + 1 = n)))) := by
  unfold mst
  rw [u8_beq b 92, u8_beq b 34, u8_beq b 43, u8_beq b 44, u8_beq b 59, u8_beq b 60, u8_beq b 62, u8_beq b 35, u8_beq b 32]
  rfl
set_option maxHeartbeats 1000000 in
theorem must_any (v : ByteArray) (i : Nat) (w : World) (hi : i < v.size) (hs : v.size ≤ 140737488355328) :
    Calls Tryz.prog 81 #[.string v, .int .i64 (i : Int)] w fun e w' => e = .returned (.bool (mst v.size i v[i])) ∧ w' = w := by
  have c5 : (0 : Int) ≤ (i : Int) := by omega
  have c6 : (i : Int) < (v.size : Int) := by omega
  obtain ⟨c, hc⟩ : ∃ c, v[i] = c := ⟨_, rfl⟩
  rw [hc]
  go_enter Tryz.func81, Tryz.ntmps81
  go_wp2_with fail
  all_goals go_ret
  all_goals refine ⟨ret_bool ?_, rfl⟩
  all_goals rw [mst_int]
  all_goals first
    | (simp [*]; done)
    | (rw [Bool.eq_iff_iff]; simp only [Bool.or_eq_true, Bool.and_eq_true, beq_iff_eq, decide_eq_true_eq, beq_eq_false_iff_ne, ne_eq] at *; omega)
theorem escV_snoc (v : ByteArray) (k : Nat) (h : k < v.size) : escF v.size 0 (v.data.toList.take (k + 1)) = escF v.size 0 (v.data.toList.take k) ++ ec v.size k v[k] := by
  rw [take_snoc v k h, escF_snoc]
  have e : (v.data.toList.take k).length = k := by rw [List.length_take, size_l]; omega
  rw [e, Nat.zero_add]
set_option maxHeartbeats 2000000 in
theorem writeEscape_any (B b : Nat) (l : List UInt8) (v : ByteArray) (w : World) (hI : IsB B b l w) (hl : l.length + 3 * v.size ≤ 1000000000000) (hBw : B ≤ w.heap.size) :
    Calls Tryz.prog 49 #[.pointer (some ⟨b, 0, none⟩), .string v] w fun e w' => e = .returned (.tuple #[]) ∧ IsB B b (l ++ escV v.data.toList) w' ∧ Below B w w' ∧ Lr.Kt w w' := by
  have hL : Hid (v.data.toList.length = v.size) := size_l v
  have hI0 : Hid (IsB B b (l ++ escF v.size 0 (v.data.toList.take 0)) w) := by unfold Hid; simpa [escF] using hI
  clear hI
  go_enter Tryz.func49, Tryz.ntmps49
  go_wp2_with fail
  go_loopw [8] (fun i wr => ∃ k : Nat, k ≤ v.size ∧ i = .int .i64 k ∧ Hid (IsB B b (l ++ escF v.size 0 (v.data.toList.take k)) wr ∧ Below B w wr ∧ Lr.Kt w wr)) (fun i _ => v.size - (intOf i).toNat)
  case atStart => exact ⟨0, Nat.zero_le _, rfl, hI0.out, Below.refl _ _, Lr.Kt.refl _⟩
  case round =>
    obtain ⟨k, hk, rfl, hR⟩ := hrel
    clear hI0
    have hlen : Hid ((l ++ escF v.size 0 (v.data.toList.take k)).length + 4 ≤ 1099511627776) := by
      unfold Hid
      have := escF_len v.size (v.data.toList.take k) 0
      rw [List.length_take] at this
      have := hL.out
      rw [List.length_append]
      omega
    by_cases hlt : k < v.size
    · have hsn : Hid (escF v.size 0 (v.data.toList.take (k + 1)) = escF v.size 0 (v.data.toList.take k) ++ ec v.size k v[k]) := escV_snoc v k hlt
      have hm : Hid (∀ w, Calls Tryz.prog 81 #[.string v, .int .i64 (k : Int)] w fun e w' => e = .returned (.bool (mst v.size k v[k])) ∧ w' = w) := fun w => must_any v k w hlt (by omega)
      have hwr : Hid (B ≤ wr.heap.size) := Nat.le_trans hBw hR.out.2.1.size
      have c5 : (0 : Int) ≤ (k : Int) := by omega
      have c6 : (k : Int) < (v.size : Int) := by omega
      obtain ⟨c, hc⟩ : ∃ c, v[k] = c := ⟨_, rfl⟩
      rw [hc] at hsn hm
      have hc256 : c.toNat < 256 := c.toNat_lt
      by_cases h0 : c = 0
      · subst h0
        have he : ec v.size k 0 = [92, 48, 48] := by unfold ec; rw [if_pos rfl]
        rw [he] at hsn
        have hz : ((0 : UInt8).toNat : Int) = 0 := rfl
        rw [hz] at *
        have hws : Hid (Calls Tryz.prog 48 #[.pointer (some ⟨b, 0, none⟩), .string { data := #[92, 48, 48] }] wr fun e w' => e = .returned (.tuple #[.int .i64 3, .nilIface]) ∧ IsB B b (l ++ escF v.size 0 (v.data.toList.take k) ++ [92, 48, 48]) w' ∧ Below B wr w' ∧ Lr.Kt wr w') := Lr.writeStringK_any B b _ _ wr hR.out.1 (by have := hlen.out; simp only [List.length_append] at this ⊢; show _ + 3 ≤ _; omega) hwr.out
        clear hlen hm he hz
        go_wp2_with (go_at_call 48; refine hws.out.mono ?_; rintro e w2 ⟨rfl, hI2, hb2, hk2⟩)
        have HI : Hid (IsB B b (l ++ escF v.size 0 (v.data.toList.take (k + 1))) w2 ∧ Below B w w2 ∧ Lr.Kt w w2) := ⟨by rw [hsn.out, ← List.append_assoc]; exact hI2, hR.out.2.1.trans hb2, hR.out.2.2.trans hk2⟩
        clear hI2 hb2 hk2 hws hsn
        go_roundw
        case rel => exact ⟨k + 1, hlt, by go_num, HI⟩
        case measure => simp [intOf]; omega
      · have hne : ¬ ((c.toNat : Int) = 0) := fun e => h0 (UInt8.toNat_inj.1 (by simpa using e))
        have hne' : ((c.toNat : Int) == 0) = false := by simpa using hne
        by_cases hq : mst v.size k c = true
        · have he : ec v.size k c = [92, c] := by unfold ec; rw [if_neg h0, if_pos hq]
          rw [he] at hsn
          rw [hq] at hm
          have hwb : Hid (Calls Tryz.prog 47 #[.pointer (some ⟨b, 0, none⟩), .int .u8 92] wr fun e w' => e = .returned .nilIface ∧ IsB B b (l ++ escF v.size 0 (v.data.toList.take k) ++ [92]) w' ∧ Below B wr w' ∧ Lr.Kt wr w') := Lr.writeByteK_any B b _ 92 wr hR.out.1 (by have := hlen.out; omega) hwr.out
          have hwc : Hid (∀ w2, IsB B b (l ++ escF v.size 0 (v.data.toList.take k) ++ [92]) w2 → B ≤ w2.heap.size → Calls Tryz.prog 47 #[.pointer (some ⟨b, 0, none⟩), .int .u8 (c.toNat : Int)] w2 fun e w' => e = .returned .nilIface ∧ IsB B b (l ++ escF v.size 0 (v.data.toList.take k) ++ [92] ++ [c]) w' ∧ Below B w2 w' ∧ Lr.Kt w2 w') := fun w2 h1 h2 => Lr.writeByteK_any B b _ c w2 h1 (by have := hlen.out; simp only [List.length_append] at this ⊢; simp; omega) h2
          clear hlen he
          go_wp2_with (go_at_call 81; refine (hm.out _).mono ?_; rintro e w' ⟨rfl, rfl⟩)
          refine hwb.out.mono ?_
          rintro e w2 ⟨rfl, hI2, hb2, hk2⟩
          have hwd : Hid (Calls Tryz.prog 47 #[.pointer (some ⟨b, 0, none⟩), .int .u8 (c.toNat : Int)] w2 fun e w' => e = .returned .nilIface ∧ IsB B b (l ++ escF v.size 0 (v.data.toList.take k) ++ [92] ++ [c]) w' ∧ Below B w2 w' ∧ Lr.Kt w2 w') := hwc.out w2 hI2 (Nat.le_trans hwr.out hb2.size)
          have hR2 : Hid (Below B w w2 ∧ Lr.Kt w w2) := ⟨hR.out.2.1.trans hb2, hR.out.2.2.trans hk2⟩
          clear hI2 hb2 hk2 hwc hwb hR
          go_wp2_with fail
          refine hwd.out.mono ?_
          rintro e w3 ⟨rfl, hI3, hb3, hk3⟩
          have HI : Hid (IsB B b (l ++ escF v.size 0 (v.data.toList.take (k + 1))) w3 ∧ Below B w w3 ∧ Lr.Kt w w3) := ⟨by rw [hsn.out, ← List.append_assoc]; simpa using hI3, hR2.out.1.trans hb3, hR2.out.2.trans hk3⟩
          clear hI3 hb3 hk3 hwd hsn hR2
          go_wp2_with fail
          go_roundw
          case rel => exact ⟨k + 1, hlt, by go_num, HI⟩
          case measure => simp [intOf]; omega
        · have he : ec v.size k c = [c] := by unfold ec; rw [if_neg h0, if_neg hq]
          rw [he] at hsn
          rw [Bool.not_eq_true] at hq
          rw [hq] at hm
          have hwb : Hid (Calls Tryz.prog 47 #[.pointer (some ⟨b, 0, none⟩), .int .u8 (c.toNat : Int)] wr fun e w' => e = .returned .nilIface ∧ IsB B b (l ++ escF v.size 0 (v.data.toList.take k) ++ [c]) w' ∧ Below B wr w' ∧ Lr.Kt wr w') := Lr.writeByteK_any B b _ c wr hR.out.1 (by have := hlen.out; omega) hwr.out
          clear hlen he
          go_wp2_with (first | (go_at_call 81; refine (hm.out _).mono ?_; rintro e w' ⟨rfl, rfl⟩) | (go_at_call 47; refine hwb.out.mono ?_; rintro e w2 ⟨rfl, hI2, hb2, hk2⟩))
          have HI : Hid (IsB B b (l ++ escF v.size 0 (v.data.toList.take (k + 1))) w2 ∧ Below B w w2 ∧ Lr.Kt w w2) := ⟨by rw [hsn.out, ← List.append_assoc]; exact hI2, hR.out.2.1.trans hb2, hR.out.2.2.trans hk2⟩
          clear hI2 hb2 hk2 hwb hsn
          go_roundw
          case rel => exact ⟨k + 1, hlt, by go_num, HI⟩
          case measure => simp [intOf]; omega
    · have hke : k = v.size := by omega
      subst hke
      have HI : Hid (IsB B b (l ++ escV v.data.toList) wr ∧ Below B w wr ∧ Lr.Kt w wr) := by
        refine ⟨?_, hR.out.2⟩
        have := hR.out.1
        rw [List.take_of_length_le (by rw [hL.out]; exact Nat.le_refl _)] at this
        unfold escV
        rw [hL.out]
        exact this
      clear hR hlen
      go_wp2_with fail
      go_end0
      exact ⟨rfl, HI.out⟩
end Ke
end Go.Proofs.YtfmhcgadgakbhaaGreatDoor


namespace Go.Proofs.YtfmhcgadgakbhaaGreatDoor
namespace Du
open Go.RowKit
set_option linter.unusedVariables false
set_option maxRecDepth 100000

theorem drewN_below (W : World) (B q : Nat) : Below B W (W.drewN q) := ⟨rfl, rfl, rfl, Nat.le_refl _, fun _ _ => rfl⟩
theorem add_o (b o j : Nat) : (⟨b, o, none⟩ : Addr).add j = ⟨b, o + j, none⟩ := by
  unfold Addr.add
  by_cases h : j = 0
  · subst h; rfl
  · simp [h]
theorem owns_same {w w' : World} {B k n : Nat} {e : TypeId} {v : Value} {xs : List Value} (h : w.ownsRow B e k v n xs) (hb : ∀ g, v.ownBlock = some g → w'.heap[g]? = w.heap[g]?) : w'.ownsRow B e k v n xs := by
  rcases h with ⟨h1, ⟨rfl, h2⟩ | ⟨g, cap, cur, rfl, h3, h4, h5⟩⟩
  · exact ⟨h1, Or.inl ⟨rfl, h2⟩⟩
  · exact ⟨h1, Or.inr ⟨g, cap, cur, rfl, h3, by rw [hb g rfl]; exact h4, h5⟩⟩
theorem owns_base {w : World} {B B' k n : Nat} {e : TypeId} {v : Value} {xs : List Value} (h : w.ownsRow B e k v n xs) (hb : B' ≤ B) : w.ownsRow B' e k v n xs := by
  rcases h with ⟨h1, ⟨rfl, h2⟩ | ⟨g, cap, cur, rfl, h3, h4, h5⟩⟩
  · exact ⟨h1, Or.inl ⟨rfl, h2⟩⟩
  · exact ⟨h1, Or.inr ⟨g, cap, cur, rfl, Nat.le_trans hb h3, h4, h5⟩⟩
theorem owns_form {w : World} {B k n : Nat} {e : TypeId} {v : Value} {xs : List Value} (h : w.ownsRow B e k v n xs) : (v = .slice none 0 0 ∧ n = 0) ∨ (∃ g cap, v = .slice (some ⟨g, 0, none⟩) n cap ∧ n ≤ cap ∧ cap ≤ maxLen ∧ B ≤ g ∧ g < w.heap.size) := by
  rcases h with ⟨h1, ⟨rfl, h2⟩ | ⟨g, cap, cur, rfl, h3, h4, h5, h6, _⟩⟩
  · exact Or.inl ⟨rfl, h2⟩
  · exact Or.inr ⟨g, cap, rfl, h5, h6, h3, (Array.getElem?_eq_some_iff.1 h4).1⟩
theorem owns_apart {w : World} {B B' k k' n n' : Nat} {e e' : TypeId} {v v' : Value} {xs xs' : List Value} (h : w.ownsRow B e k v n xs) (h' : w.ownsRow B' e' k' v' n' xs') (hne : e ≠ e') {g : Nat} (hg : v.ownBlock = some g) : v'.ownBlock ≠ some g := fun hg' => by
  rcases h with ⟨h1, ⟨rfl, h2⟩ | ⟨g1, cap, cur, rfl, h3, h4, h5, _⟩⟩
  · cases hg
  · injection hg with hg
    subst hg
    rcases h' with ⟨k1, ⟨rfl, k2⟩ | ⟨g2, cap2, cur2, rfl, k3, k4, k5, _⟩⟩
    · cases hg'
    · injection hg' with hg'
      subst hg'
      rw [h4] at k4
      injection k4 with k4
      injection k4 with _ k4 _
      exact hne k4
theorem flatV_len {α : Type} (V : α → List Value) (k : Nat) (hk : ∀ x, (V x).length = k) (l : List α) : (l.flatMap V).length = l.length * k := by
  induction l with
  | nil => simp
  | cons x l ih =>
    rw [List.flatMap_cons, List.length_append, ih, hk, List.length_cons, Nat.succ_mul]
    omega
theorem flatV_at {α : Type} (V : α → List Value) (k : Nat) (hk : ∀ x, (V x).length = k) (l : List α) (i : Nat) (hi : i < l.length) (j : Nat) (hj : j < k) : (l.flatMap V)[i * k + j]? = (V l[i])[j]? := by
  induction l generalizing i with
  | nil => simp at hi
  | cons x l ih =>
    rw [List.flatMap_cons]
    cases i with
    | zero =>
      rw [List.getElem?_append_left (by rw [hk]; omega)]
      simp
    | succ i =>
      have e : (i + 1) * k + j = (V x).length + (i * k + j) := by rw [hk, Nat.succ_mul]; omega
      rw [e, List.getElem?_append_right (by omega), Nat.add_sub_cancel_left, ih i (by simpa using hi)]
      rfl
/-- A row of structs, wherever it lies. -/
def GRow {α : Type} (k : Nat) (V : α → List Value) (w : World) (a : Option Addr) (l : List α) : Prop := ∀ i (h : i < l.length), ∃ b off, a = some ⟨b, off, none⟩ ∧ ∀ j, j < k → w.cell? ⟨b, off + i * k + j, none⟩ = (V l[i])[j]?
theorem GRow.below {α : Type} {k : Nat} {V : α → List Value} (hV : ∀ x, (V x).length = k) {w w' : World} {a : Option Addr} {l : List α} (h : GRow k V w a l) (hb : Below w.heap.size w w') : GRow k V w' a l := fun i hi => by
  obtain ⟨b, off, e, h1⟩ := h i hi
  refine ⟨b, off, e, fun j hj => ?_⟩
  have h2 := h1 j hj
  rw [hb.cell, h2]
  rw [List.getElem?_eq_getElem (by rw [hV]; exact hj)] at h2
  exact World.block_lt_of_cell? w _ h2
theorem GRow.nil {α : Type} (k : Nat) (V : α → List Value) (w : World) (a : Option Addr) : GRow k V w a [] := fun i hi => by simp at hi
theorem GRow.front {α : Type} {k : Nat} {V : α → List Value} {w : World} {a : Option Addr} {l m : List α} (h : GRow k V w a (l ++ m)) : GRow k V w a l := fun i hi => by
  have h1 := h i (by rw [List.length_append]; omega)
  rw [List.getElem_append_left hi] at h1
  exact h1
/-- One struct that has just been laid. -/
theorem GRow.one {α : Type} {k : Nat} (V : α → List Value) (w : World) (t : TypeId) (p : α) : GRow k V (w.alloc (.cells (V p).toArray t)) (some ⟨w.heap.size, 0, none⟩) [p] := fun i hi => by
  have hi0 : i = 0 := by simp at hi; omega
  subst hi0
  refine ⟨_, _, rfl, fun j hj => ?_⟩
  have h1 : (w.alloc (.cells (V p).toArray t)).heap[w.heap.size]? = some (.cells (V p).toArray t (0, 0)) := heap_alloc_new _ _
  rw [cell_of_row _ _ _ _ _ _ h1]
  simp
/-- A row of structs of the call's own. -/
def GOwn {α : Type} (t : TypeId) (k : Nat) (V : α → List Value) (W : World) (B : Nat) (v : Value) (l : List α) : Prop := W.ownsRow B t k v l.length (l.flatMap V)
theorem GOwn.nil {α : Type} (t : TypeId) (k : Nat) (V : α → List Value) (W : World) (B : Nat) : GOwn t k V W B (.slice none 0 0) [] := ⟨by simp, Or.inl ⟨rfl, rfl⟩⟩
theorem GOwn.row {α : Type} {t : TypeId} {k : Nat} {V : α → List Value} (hV : ∀ x, (V x).length = k) {w : World} {B : Nat} {v : Value} {L : List α} (h : GOwn t k V w B v L) : ∃ a c, v = .slice a L.length c ∧ L.length ≤ c ∧ c ≤ maxLen ∧ GRow k V w a L := by
  rcases owns_form h with ⟨rfl, h0⟩ | ⟨g, cap, rfl, hc, hm, _⟩
  · exact ⟨none, 0, by rw [h0], by omega, by unfold maxLen; omega, fun i hi => by omega⟩
  · refine ⟨_, cap, rfl, hc, hm, fun i hi => ⟨g, 0, rfl, fun j hj => ?_⟩⟩
    rw [Nat.zero_add]
    have hlt : i * k + j < L.length * k := by
      have : (i + 1) * k ≤ L.length * k := Nat.mul_le_mul_right k hi
      rw [Nat.succ_mul] at this
      omega
    have hc := World.ownsRow.cellAt (show w.ownsRow B t k _ L.length (L.flatMap V) from h) (i * k + j) hlt
    rw [hc]
    exact flatV_at V k hV L i hi j hj
theorem GOwn.below {α : Type} {t : TypeId} {k : Nat} {V : α → List Value} {w w' : World} {B : Nat} {v : Value} {L : List α} (h : GOwn t k V w B v L) (hb : Below w.heap.size w w') : GOwn t k V w' B v L := owns_same h (fun g hg => hb.block g (World.ownsRow.lt h g hg).2)
/-- What is known of a type of structs. -/
def Kd {α : Type} (t ts : TypeId) (k nb : Nat) (V : α → List Value) : Prop :=
  Tryz.prog.underlying ts = some (.slice t) ∧ (∃ i z, Tryz.prog.info? t = some i ∧ i.zero = some z ∧ i.size = k ∧ i.bytes = nb ∧ z.cells.size = k) ∧ 0 < k ∧ 0 < nb ∧ (∀ x, (V x).length = k) ∧ (∀ x, ∀ u ∈ V x, u.oneCell' = true)
/-- A row appended to a row of the call's own. -/
theorem append_gen {α : Type} {t ts : TypeId} {k nb : Nat} {V : α → List Value} (KD : Kd t ts k nb V) (w : World) (B : Nat) (v : Value) (l m : List α) (a : Option Addr) (n c : Nat) (hown : GOwn t k V w B v l) (hk : GRow k V w a m) (hn : n = m.length) (hB : B ≤ w.heap.size) (hsz : (l.length + m.length) * nb ≤ 140737488355328) :
    ∃ v' w', (Builtin.append_ #[ts, ts] ts #[v, .slice a n c]).run Tryz.prog w = .ok v' w' ∧ GOwn t k V w' B v' (l ++ m) ∧ w.grownBy w' v.ownBlock ∧ Below B w w' := by
  subst hn
  obtain ⟨hund, ⟨i0, z0, hi, hz0, hz1, hz2, hz3⟩, hk0, hnb, hV, h1V⟩ := KD
  by_cases h0 : m.length = 0
  · have hm0 := List.eq_nil_of_length_eq_zero h0
    subst hm0
    refine ⟨v, w, ?_, by rw [List.append_nil]; exact hown, ⟨rfl, rfl, rfl, Nat.le_refl _, fun _ _ _ => rfl⟩, Below.refl _ _⟩
    cases a with
    | none =>
      rcases owns_form hown with ⟨rfl, h2⟩ | ⟨g, cap, rfl, hc, _⟩
      · simp [Builtin.append_, run_underlying hund, sizeOf, typeInfo, hi, Builtin.lenOf, Builtin.firstCells]
      · simp [Builtin.append_, run_underlying hund, sizeOf, typeInfo, hi, Builtin.lenOf, Builtin.firstCells, hc, storeCells]
    | some d =>
      rcases owns_form hown with ⟨rfl, h2⟩ | ⟨g, cap, rfl, hc, _⟩
      · simp [Builtin.append_, run_underlying hund, sizeOf, typeInfo, hi, Builtin.lenOf, Builtin.firstCells, loadCells, loadCellsFrom]
      · simp [Builtin.append_, run_underlying hund, sizeOf, typeInfo, hi, Builtin.lenOf, Builtin.firstCells, loadCells, loadCellsFrom, hc, storeCells]
  · obtain ⟨b, off, rfl, _⟩ := hk 0 (by omega)
    have hnews : ∀ j u, (m.flatMap V)[j]? = some u → w.cell? ((⟨b, off, none⟩ : Addr).add j) = some u := by
      intro j u hj
      have hjn : j < m.length * k := by
        rcases Nat.lt_or_ge j (m.length * k) with h' | h'
        · exact h'
        · rw [List.getElem?_eq_none (by rw [flatV_len V k hV]; exact h')] at hj; cases hj
      have hq : j / k < m.length := Nat.div_lt_of_lt_mul (by rw [Nat.mul_comm]; exact hjn)
      have hr : j % k < k := Nat.mod_lt _ hk0
      have ej : j / k * k + j % k = j := by rw [Nat.mul_comm]; exact Nat.div_add_mod j k
      obtain ⟨b', off', e, hc⟩ := hk (j / k) hq
      injection e with e
      injection e with e1 e2
      subst e1 e2
      have h1 := hc (j % k) hr
      have h2 := flatV_at V k hV m (j / k) hq (j % k) hr
      rw [ej, hj] at h2
      rw [Nat.add_assoc, ej] at h1
      rw [add_o, h1, ← h2]
    have hle : l.length + m.length ≤ 140737488355328 := Nat.le_trans (Nat.le_mul_of_pos_right _ hnb) hsz
    obtain ⟨g, cap, w', hr, h2, h3, _, _⟩ := run_append_lies (P := Tryz.prog) w ts ts B t i0 z0 k nb hund hi hz0 hz1 hz2 hz3 hk0 v l.length (l.flatMap V) hown ⟨b, off, none⟩ m.length c (m.flatMap V) (flatV_len V k hV m) hnews (fun u hu => by obtain ⟨y, _, hy⟩ := List.mem_flatMap.1 hu; exact h1V y u hy) (by omega) (Nat.le_trans hle (by unfold maxLen; decide)) hsz hB w.heap.size rfl
    refine ⟨_, w', hr, ?_, h3, (Below.refl _ _).grown h3 hB (fun j hj => (World.ownsRow.lt (show w.ownsRow B t k v l.length (l.flatMap V) from hown) _ hj).1)⟩
    unfold GOwn
    rw [List.flatMap_append, List.length_append]
    exact h2
abbrev PR := List UInt8 × List UInt8
/-- A part: where it lies, its room, its values. -/
abbrev PX := Option Addr × Nat × List PR
def pV (p : PR) : List Value := [.string (S p.1), .string (S p.2)]
def xV (r : PX) : List Value := [.slice r.1 r.2.2.length r.2.1]
theorem pV_len (p : PR) : (pV p).length = 2 := rfl
theorem xV_len (r : PX) : (xV r).length = 1 := rfl
abbrev PRow (w : World) (a : Option Addr) (l : List PR) : Prop := GRow 2 pV w a l
theorem prow_at {w : World} {a : Option Addr} {l : List PR} (h : PRow w a l) (i : Nat) (hi : i < l.length) : ∃ b off, a = some ⟨b, off, none⟩ ∧ w.cell? ⟨b, off + i * 2, none⟩ = some (.string (S l[i].1)) ∧ w.cell? ⟨b, off + i * 2 + 1, none⟩ = some (.string (S l[i].2)) := by
  obtain ⟨b, off, e, h1⟩ := h i hi
  exact ⟨b, off, e, h1 0 (by omega), h1 1 (by omega)⟩
/-- A name, wherever it lies, its parts too. -/
def DRow (w : World) (a : Option Addr) (L : List PX) : Prop := GRow 1 xV w a L ∧ ∀ r ∈ L, PRow w r.1 r.2.2 ∧ r.2.2.length ≤ r.2.1 ∧ r.2.1 ≤ maxLen
theorem DRow.below {w w' : World} {a : Option Addr} {L : List PX} (h : DRow w a L) (hb : Below w.heap.size w w') : DRow w' a L := ⟨h.1.below xV_len hb, fun r hr => ⟨(h.2 r hr).1.below pV_len hb, (h.2 r hr).2⟩⟩
theorem drow_at {w : World} {a : Option Addr} {L : List PX} (h : DRow w a L) (i : Nat) (hi : i < L.length) : ∃ b off, a = some ⟨b, off, none⟩ ∧ w.cell? ⟨b, off + i, none⟩ = some (.slice L[i].1 L[i].2.2.length L[i].2.1) := by
  obtain ⟨b, off, e, h1⟩ := h.1 i hi
  have := h1 0 (by omega)
  rw [Nat.mul_one] at this
  exact ⟨b, off, e, this⟩
/-- What a name says. -/
def sd (L : List PX) : List (List PR) := L.map fun r => r.2.2
theorem sd_len (L : List PX) : (sd L).length = L.length := List.length_map ..
end Du
end Go.Proofs.YtfmhcgadgakbhaaGreatDoor

namespace Go.Proofs.YtfmhcgadgakbhaaGreatDoor
namespace Ke
open Go.RowKit
open Du (PRow pV pV_len prow_at)
set_option linter.unusedVariables false
set_option linter.unusedSimpArgs false
set_option maxRecDepth 100000

theorem kt_box {w w' : World} {k : Nat} {cs : Array Value} {t : TypeId} {fz : Nat × Nat} (h : Lr.Kt w w') (hb : w.heap[k]? = some (.cells cs t fz)) (h1 : t ≠ 62) (h2 : t ≠ 5) : w'.heap[k]? = some (.cells cs t fz) :=
  h k _ hb (fun _ _ e => by injection e with _ e _; exact h1 e) (fun _ _ e => by injection e with _ e _; exact h2 e)
def ptW (p : PR) : Nat := p.1.length + 3 * p.2.length + 2
theorem pt1_len (p : PR) : (pt1 p).length + 1 ≤ ptW p := by
  have := escV_len p.2
  unfold pt1 ptW
  simp only [List.length_append, List.length_cons]
  omega
theorem ptT_len (l : List PR) : (ptT l).length ≤ (l.map ptW).sum := by
  induction l with
  | nil => simp [ptT]
  | cons p l ih =>
    have := pt1_len p
    unfold ptT at ih ⊢
    simp only [List.flatMap_cons, List.length_append, List.length_cons, List.map_cons, List.sum_cons]
    omega
theorem ptx_len (l : List PR) : (ptx l).length ≤ (l.map ptW).sum := by
  cases l with
  | nil => simp [ptx]
  | cons p l =>
    have := pt1_len p
    have := ptT_len l
    simp only [ptx, List.length_append, List.map_cons, List.sum_cons]
    omega
theorem sum_take (l : List PR) (i : Nat) : ((l.take i).map ptW).sum ≤ (l.map ptW).sum := by
  have e : (l.map ptW).sum = ((l.take i).map ptW).sum + ((l.drop i).map ptW).sum := by rw [← List.sum_append, ← List.map_append, List.take_append_drop]
  omega
theorem sum_at (l : List PR) (i : Nat) (h : i < l.length) : ((l.take i).map ptW).sum + ptW l[i] ≤ (l.map ptW).sum := by
  have h1 := sum_take l (i + 1)
  rw [List.take_succ_eq_append_getElem h, List.map_append, List.sum_append] at h1
  simpa using h1
theorem isB_below {B b : Nat} {l : List UInt8} {W W' : World} (h : IsB B b l W) (hb : Below W.heap.size W W') : IsB B b l W' := by
  have key : ∀ p, Lib.BuilderAt 62 5 B b p (bv l) W → Lib.BuilderAt 62 5 B b p (bv l) W' := fun p hp => by
    obtain ⟨h1, v, h2, h3, h4⟩ := hp
    have hlt : b < W.heap.size := (Array.getElem?_eq_some_iff.1 h2).1
    exact ⟨h1, v, by rw [hb.block b hlt]; exact h2, Du.owns_same h3 (fun g hg => hb.block g (World.ownsRow.lt h3 g hg).2), h4⟩
  rcases h with h | h
  · exact Or.inl (key _ h)
  · exact Or.inr (key _ h)
/-- What stands while a part is written. -/
def Wr (B b : Nat) (w0 wS : World) (l : List UInt8) (W : World) : Prop := IsB B b l W ∧ Below B w0 W ∧ Lr.Kt wS W ∧ B ≤ w0.heap.size
theorem Wr.below {B b : Nat} {w0 wS : World} {l : List UInt8} {W W' : World} (h : Wr B b w0 wS l W) (hb : Below W.heap.size W W') : Wr B b w0 wS l W' :=
  ⟨isB_below h.1 hb, h.2.1.trans (hb.mono (Nat.le_trans h.2.2.2 h.2.1.size)), h.2.2.1.trans (Lr.Kt.below hb), h.2.2.2⟩
theorem Wr.rebase {B b : Nat} {w0 wS : World} {l : List UInt8} {W : World} (h : Wr B b w0 wS l W) : Wr B b w0 W l W := ⟨h.1, h.2.1, Lr.Kt.refl _, h.2.2.2⟩
theorem Wr.byte {B b : Nat} {w0 wS : World} {l : List UInt8} {W : World} (h : Wr B b w0 wS l W) (c : UInt8) (hl : l.length ≤ 1099511627776) :
    Calls Tryz.prog 47 #[.pointer (some ⟨b, 0, none⟩), .int .u8 (c.toNat : Int)] W fun e w' => e = .returned .nilIface ∧ Wr B b w0 wS (l ++ [c]) w' := by
  refine (Lr.writeByteK_any B b l c W h.1 hl (Nat.le_trans h.2.2.2 h.2.1.size)).mono ?_
  rintro e w' ⟨rfl, h1, h2, h3⟩
  exact ⟨rfl, h1, h.2.1.trans h2, h.2.2.1.trans h3, h.2.2.2⟩
theorem Wr.str {B b : Nat} {w0 wS : World} {l : List UInt8} {W : World} (h : Wr B b w0 wS l W) (s : ByteArray) (hl : l.length + s.size ≤ 1099511627776) :
    Calls Tryz.prog 48 #[.pointer (some ⟨b, 0, none⟩), .string s] W fun e w' => e = .returned (.tuple #[.int .i64 s.size, .nilIface]) ∧ Wr B b w0 wS (l ++ s.data.toList) w' := by
  refine (Lr.writeStringK_any B b l s W h.1 hl (Nat.le_trans h.2.2.2 h.2.1.size)).mono ?_
  rintro e w' ⟨rfl, h1, h2, h3⟩
  exact ⟨rfl, h1, h.2.1.trans h2, h.2.2.1.trans h3, h.2.2.2⟩
theorem Wr.esc {B b : Nat} {w0 wS : World} {l : List UInt8} {W : World} (h : Wr B b w0 wS l W) (s : ByteArray) (hl : l.length + 3 * s.size ≤ 1000000000000) :
    Calls Tryz.prog 49 #[.pointer (some ⟨b, 0, none⟩), .string s] W fun e w' => e = .returned (.tuple #[]) ∧ Wr B b w0 wS (l ++ escV s.data.toList) w' := by
  refine (writeEscape_any B b l s W h.1 hl (Nat.le_trans h.2.2.2 h.2.1.size)).mono ?_
  rintro e w' ⟨rfl, h1, h2, h3⟩
  exact ⟨rfl, h1, h.2.1.trans h2, h.2.2.1.trans h3, h.2.2.2⟩

set_option maxHeartbeats 4000000 in
theorem writePairs_any (B b : Nat) (l : List UInt8) (a : Option Addr) (c n : Nat) (ps : List PR) (w0 wS w : World) (hI : Wr B b w0 wS l w) (hn : ps.length = n) (hr : ∀ W, Below B w0 W → PRow W a ps) (hl : l.length + (ps.map ptW).sum ≤ 1000000000000) (hnb : n ≤ 140737488355328) :
    Calls Tryz.prog 28 #[.pointer (some ⟨b, 0, none⟩), .slice a n c] w fun e w' => e = .returned (.tuple #[]) ∧ Wr B b w0 wS (l ++ ptx ps) w' := by
  have nb : (n : Int) ≤ 140737488355328 := by omega
  have hI0 : Hid (Wr B b w0 wS (l ++ ptx (ps.take 0)) w) := by unfold Hid; simpa [ptx] using hI
  have hn' : Hid (ps.length = n) := hn
  have hr' : Hid (∀ W, Below B w0 W → PRow W a ps) := hr
  have hl' : Hid (l.length + (ps.map ptW).sum ≤ 1000000000000) := hl
  clear hI hn hr hl hnb
  go_enter Tryz.func28, Tryz.ntmps28
  go_wp2_with fail
  go_loopw [8] (fun i wr => ∃ k : Nat, k ≤ n ∧ i = .int .i64 k ∧ Hid (Wr B b w0 wS (l ++ ptx (ps.take k)) wr)) (fun i _ => n - (intOf i).toNat)
  case atStart => exact ⟨0, Nat.zero_le _, rfl, hI0⟩
  case round =>
    obtain ⟨k, hk, rfl, hR⟩ := hrel
    clear hI0
    have k0 : (0 : Int) ≤ (k : Int) := Int.natCast_nonneg _
    by_cases hlt : k < n
    · have k1 : (k : Int) < (n : Int) := Int.ofNat_lt.2 hlt
      have hkP : k < ps.length := by rw [hn'.out]; exact hlt
      obtain ⟨pb, po, rfl, c3, c4⟩ := prow_at (hr'.out wr hR.out.2.1) k hkP
      have hsn : Hid (ptx (ps.take (k + 1)) = ptx (ps.take k) ++ (if k = 0 then pt1 ps[k] else 43 :: pt1 ps[k])) := by
        unfold Hid
        rw [List.take_succ_eq_append_getElem hkP, ptx_snoc]
        congr 1
        by_cases h0 : k = 0
        · subst h0; simp
        · rw [if_neg h0, if_neg (fun e => h0 (by have := congrArg List.length e; rw [List.length_take, List.length_nil] at this; omega))]
      have hlen : Hid ((l ++ ptx (ps.take k)).length + ptW ps[k] ≤ 1000000000000) := by
        have h1 := ptx_len (ps.take k)
        have h2 := sum_at ps k hkP
        have := hl'.out
        unfold Hid
        rw [List.length_append]
        omega
      generalize ps[k] = p at *
      obtain ⟨t, v⟩ := p
      dsimp only at c3 c4
      have hw2 : Hid (t.length + 3 * v.length + 2 + (l ++ ptx (ps.take k)).length ≤ 1000000000000) := by have := hlen.out; unfold Hid; unfold ptW at this; dsimp only at this; omega
      generalize hX : l ++ ptx (ps.take k) = X at *
      obtain ⟨W1, hW1⟩ : ∃ W1, wr.alloc (.cells #[.string (S t), .string (S v)] 25) = W1 := ⟨_, rfl⟩
      have hb1 : Hid (Wr B b w0 wS X W1) := by unfold Hid; rw [← hW1]; exact hR.out.below ((Below.refl _ _).alloc (Nat.le_refl _) _)
      have hx1 : Hid (W1.heap[wr.heap.size]? = some (.cells #[.string (S t), .string (S v)] 25 (0, 0))) := by unfold Hid; rw [← hW1]; exact heap_alloc_new _ _
      have hrest : Hid (∀ Y W2, Y.length ≤ X.length + 1 → Wr B b w0 W1 Y W2 → W2.cell? ⟨wr.heap.size, 0, none⟩ = some (.string (S t)) ∧ Calls Tryz.prog 48 #[.pointer (some ⟨b, 0, none⟩), .string (S t)] W2 fun e W3 => e = .returned (.tuple #[.int .i64 (S t).size, .nilIface]) ∧ Hid (Wr B b w0 W1 (Y ++ t) W3)) := fun Y W2 hY h => by
        refine ⟨by rw [cell_of_row _ _ _ _ _ _ (kt_box h.2.2.1 hx1.out (by decide) (by decide))]; rfl, ?_⟩
        have := h.str (S t) (by rw [S_size]; have := hw2.out; omega)
        rw [S_l] at this
        exact this
      have hrest2 : Hid (∀ Y W2, Y.length ≤ X.length + 1 + t.length → Wr B b w0 W1 Y W2 → Calls Tryz.prog 47 #[.pointer (some ⟨b, 0, none⟩), .int .u8 61] W2 fun e W3 => e = .returned .nilIface ∧ Hid (Wr B b w0 W1 (Y ++ [61]) W3)) := fun Y W2 hY h => h.byte 61 (by have := hw2.out; omega)
      have hrest3 : Hid (∀ Y W2, Y.length ≤ X.length + 2 + t.length → Wr B b w0 W1 Y W2 → W2.cell? ⟨wr.heap.size, 1, none⟩ = some (.string (S v)) ∧ Calls Tryz.prog 49 #[.pointer (some ⟨b, 0, none⟩), .string (S v)] W2 fun e W3 => e = .returned (.tuple #[]) ∧ Hid (Wr B b w0 W1 (Y ++ escV v) W3)) := fun Y W2 hY h => by
        refine ⟨by rw [cell_of_row _ _ _ _ _ _ (kt_box h.2.2.1 hx1.out (by decide) (by decide))]; rfl, ?_⟩
        have := h.esc (S v) (by rw [S_size]; have := hw2.out; omega)
        rw [S_l] at this
        exact this
      have hkS : Hid (Lr.Kt wS W1) := hb1.out.2.2.1
      have hlt' : Hid (k < n) := hlt
      have hlenX : Hid (X.length ≤ 1000000000000) := by have := hw2.out; unfold Hid; omega
      obtain ⟨st, hst⟩ : ∃ st, S t = st := ⟨_, rfl⟩
      obtain ⟨sv', hsv⟩ : ∃ sv', S v = sv' := ⟨_, rfl⟩
      rw [hst] at c3 hW1 hx1 hrest
      rw [hsv] at c4 hW1 hx1 hrest3
      clear hst hsv hlen hw2 hR hk hlt hkP
      by_cases h0 : k = 0
      · have hend : Hid (∀ W, Wr B b w0 W1 (X ++ t ++ [61] ++ escV v) W → Wr B b w0 wS (l ++ ptx (ps.take (k + 1))) W) := fun W h => by
          refine ⟨?_, h.2.1, hkS.out.trans h.2.2.1, h.2.2.2⟩
          have e := hsn.out
          rw [if_pos h0] at e
          rw [e, ← List.append_assoc, hX]
          unfold pt1
          simpa using h.1
        have kp : ¬ (0 : Int) < (k : Int) := by omega
        obtain ⟨g0, s0⟩ := hrest.out X W1 (by omega) hb1.out.rebase
        have s0' : Hid (Calls Tryz.prog 48 #[.pointer (some ⟨b, 0, none⟩), .string st] W1 fun e W3 => e = .returned (.tuple #[.int .i64 st.size, .nilIface]) ∧ Hid (Wr B b w0 W1 (X ++ t) W3)) := s0
        clear s0 hrest hsn hb1 hx1 hkS h0
        go_wp2_with fail
        refine s0'.out.mono ?_
        rintro e W3 ⟨rfl, h3⟩
        have s1 : Hid (Calls Tryz.prog 47 #[.pointer (some ⟨b, 0, none⟩), .int .u8 61] W3 fun e W4 => e = .returned .nilIface ∧ Hid (Wr B b w0 W1 (X ++ t ++ [61]) W4)) := hrest2.out _ W3 (by simp only [List.length_append, List.length_cons, List.length_nil]; omega) h3.out
        clear s0' hrest2 h3 g0
        go_wp2_with fail
        refine s1.out.mono ?_
        rintro e W4 ⟨rfl, h4⟩
        obtain ⟨g4, s2⟩ := hrest3.out _ W4 (by simp only [List.length_append, List.length_cons, List.length_nil]; omega) h4.out
        have s2' : Hid (Calls Tryz.prog 49 #[.pointer (some ⟨b, 0, none⟩), .string sv'] W4 fun e W5 => e = .returned (.tuple #[]) ∧ Hid (Wr B b w0 W1 (X ++ t ++ [61] ++ escV v) W5)) := s2
        clear s1 hrest3 h4 s2
        go_wp2_with fail
        refine s2'.out.mono ?_
        rintro e W5 ⟨rfl, h5⟩
        have HI : Hid (Wr B b w0 wS (l ++ ptx (ps.take (k + 1))) W5) := hend.out W5 h5.out
        clear s2' h5 hend g4
        go_wp2_with fail
        go_roundw
        case rel => exact ⟨k + 1, hlt'.out, by go_num, HI⟩
        case measure => have := hlt'.out; simp [intOf]; omega
      · have hend : Hid (∀ W, Wr B b w0 W1 (X ++ [43] ++ t ++ [61] ++ escV v) W → Wr B b w0 wS (l ++ ptx (ps.take (k + 1))) W) := fun W h => by
          refine ⟨?_, h.2.1, hkS.out.trans h.2.2.1, h.2.2.2⟩
          have e := hsn.out
          rw [if_neg h0] at e
          rw [e, ← List.append_assoc, hX]
          unfold pt1
          simpa using h.1
        have kp : (0 : Int) < (k : Int) := by omega
        have sp : Hid (Calls Tryz.prog 47 #[.pointer (some ⟨b, 0, none⟩), .int .u8 43] W1 fun e W2 => e = .returned .nilIface ∧ Hid (Wr B b w0 W1 (X ++ [43]) W2)) := hb1.out.rebase.byte 43 (by have := hlenX.out; omega)
        clear hsn hb1 hx1 hkS h0
        go_wp2_with fail
        refine sp.out.mono ?_
        rintro e W2 ⟨rfl, h2⟩
        obtain ⟨g0, s0⟩ := hrest.out _ W2 (by simp only [List.length_append, List.length_cons, List.length_nil]; omega) h2.out
        have s0' : Hid (Calls Tryz.prog 48 #[.pointer (some ⟨b, 0, none⟩), .string st] W2 fun e W3 => e = .returned (.tuple #[.int .i64 st.size, .nilIface]) ∧ Hid (Wr B b w0 W1 (X ++ [43] ++ t) W3)) := s0
        clear s0 hrest h2 sp
        go_wp2_with fail
        refine s0'.out.mono ?_
        rintro e W3 ⟨rfl, h3⟩
        have s1 : Hid (Calls Tryz.prog 47 #[.pointer (some ⟨b, 0, none⟩), .int .u8 61] W3 fun e W4 => e = .returned .nilIface ∧ Hid (Wr B b w0 W1 (X ++ [43] ++ t ++ [61]) W4)) := hrest2.out _ W3 (by simp only [List.length_append, List.length_cons, List.length_nil]; omega) h3.out
        clear s0' hrest2 h3 g0
        go_wp2_with fail
        refine s1.out.mono ?_
        rintro e W4 ⟨rfl, h4⟩
        obtain ⟨g4, s2⟩ := hrest3.out _ W4 (by simp only [List.length_append, List.length_cons, List.length_nil]; omega) h4.out
        have s2' : Hid (Calls Tryz.prog 49 #[.pointer (some ⟨b, 0, none⟩), .string sv'] W4 fun e W5 => e = .returned (.tuple #[]) ∧ Hid (Wr B b w0 W1 (X ++ [43] ++ t ++ [61] ++ escV v) W5)) := s2
        clear s1 hrest3 h4 s2
        go_wp2_with fail
        refine s2'.out.mono ?_
        rintro e W5 ⟨rfl, h5⟩
        have HI : Hid (Wr B b w0 wS (l ++ ptx (ps.take (k + 1))) W5) := hend.out W5 h5.out
        clear s2' h5 hend g4
        go_wp2_with fail
        go_roundw
        case rel => exact ⟨k + 1, hlt'.out, by go_num, HI⟩
        case measure => have := hlt'.out; simp [intOf]; omega
    · have e : n = k := by omega
      subst e
      have i1 : ¬ (n : Int) < (n : Int) := by omega
      have hfin : Hid (Wr B b w0 wS (l ++ ptx ps) wr) := by
        have := hR.out
        rw [List.take_of_length_le (by rw [hn'.out]; exact Nat.le_refl _)] at this
        exact this
      clear hR hk hlt
      go_wp2_with fail
      go_end0
      exact ⟨rfl, hfin.out⟩
end Ke
end Go.Proofs.YtfmhcgadgakbhaaGreatDoor
