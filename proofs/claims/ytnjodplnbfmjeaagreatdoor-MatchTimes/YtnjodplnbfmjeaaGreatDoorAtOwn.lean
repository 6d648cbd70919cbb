import Derived.Test.YtnjodplnbfmjeaaGreatDoorBytes
import Derived.Test.YtnjodplnbfmjeaaGreatDoorInfo
import Derived.Deep.AppendLies
import Derived.Great.BuildSlice
import Derived.Lib.AppendStr
import Derived.BigQuiet
import Derived.KernelRfl
namespace Go.Proofs.YtnjodplnbfmjeaaGreatDoor
open Go.RowKit

theorem add_off (b o j : Nat) : (⟨b, o, none⟩ : Addr).add j = ⟨b, o + j, none⟩ := by
  unfold Addr.add
  by_cases h : j = 0
  · subst h; rfl
  · simp [h]
/-- A value that is the call's own row of bytes. -/
def Own (W : World) (B : Nat) (v : Value) (l : List UInt8) : Prop := W.ownsRow B 5 1 v l.length (bv l)
theorem own_conv {w : World} {B : Nat} {v : Value} {l : List UInt8} (h : Own w B v l) : (convert 50 9 v).run Tryz.prog w = .ok (.string (S l)) w :=
  own_back_any w B 50 9 5 v l.length l Tryz.underlying50 Tryz.underlying5 Tryz.underlying9 h
/-- One byte appended to a row of the call's own. -/
theorem push_byte_at (w : World) {ops : Array Oper} {rest : List Oper} {o : Oper} {a : Act} {Q : Exit → Act → World → Prop} (hgd : o.guard = none) (s x : Operand)
    (ho : o.op = .call { callee := .builtin .append, args := #[s, x], argTypes := #[50, 50] }) (B : Nat) (v : Value) (l : List UInt8) (c : UInt8) (g : Nat)
    (hs : a.eval s = v) (hx : a.eval x = .slice (some ⟨g, 0, none⟩) 1 1) (hg : g = w.heap.size) (hown : Own w B v l) (hB : B ≤ w.heap.size) (hl : l.length ≤ 1099511627776)
    (h : ∀ v' w', Own w' B v' (l ++ [c]) → Below B w w' → wpList Tryz.prog ops Q rest (a.put o.dst v') w') :
    wpList Tryz.prog ops Q (o :: rest) a (w.alloc (.cells #[.int .u8 (c.toNat : Int)] 5)) := by
  subst hg
  obtain ⟨i0, hi, hz0, hz1, hz2⟩ := info_parts info_u8
  refine wpList_append_own _ hgd s x 50 ho B 5 i0 (.int .u8 0) 1 1 Tryz.underlying50 hi hz0 hz1 hz2 rfl (by decide) v l.length (bv l) hs (World.ownsRow.alloc hown _) ⟨w.heap.size, 0, none⟩ 1 1 [.int .u8 (c.toNat : Int)] hx rfl ?_ ?_ ?_ ?_ ?_ ?_
  · exact cell_one_new _ _ _
  · intro u hu; simp at hu; subst hu; rfl
  · unfold maxLen; omega
  · omega
  · simp; omega
  · intro v' w' h1 h2 _
    refine h v' w' ?_ ?_
    · unfold Own
      rw [bv_app, List.length_append]
      exact h1
    · refine ((Below.refl _ _).alloc hB _).grown h2 (by simp; omega) ?_
      intro k hk
      exact (World.ownsRow.lt (show w.ownsRow B 5 1 v l.length (bv l) from hown) _ hk).1
/-- A string appended to a row of the call's own. -/
theorem push_str (w : World) {ops : Array Oper} {rest : List Oper} {o : Oper} {a : Act} {Q : Exit → Act → World → Prop} (hgd : o.guard = none) (s x : Operand)
    (ho : o.op = .call { callee := .builtin .append, args := #[s, x], argTypes := #[50, 9] }) (B : Nat) (v : Value) (l : List UInt8) (str : ByteArray)
    (hs : a.eval s = v) (hx : a.eval x = .string str) (hown : Own w B v l) (hB : B ≤ w.heap.size) (hl : l.length + str.size ≤ 1099511627776)
    (h : ∀ v' w', Own w' B v' (l ++ str.data.toList) → Below B w w' → wpList Tryz.prog ops Q rest (a.put o.dst v') w') :
    wpList Tryz.prog ops Q (o :: rest) a w := by
  obtain ⟨i0, hi, hz0, hz1, hz2⟩ := info_parts info_u8
  refine Lib.wpList_append_own_string _ hgd s x 50 9 ho B 5 i0 Tryz.underlying50 Tryz.underlying9 hi hz0 hz1 hz2 v l.length (bv l) hs hown str hx (by unfold maxLen; omega) (by omega) hB ?_
  intro v' w' h1 h2 _
  refine h v' w' ?_ ?_
  · unfold Own
    rw [bv_app, List.length_append, size_l]
    exact h1
  · refine (Below.refl _ _).grown h2 hB ?_
    intro k hk
    exact (World.ownsRow.lt (show w.ownsRow B 5 1 v l.length (bv l) from hown) _ hk).1
/-- A row of bytes of the call's own, of which at most a stretch behind its end is marked. -/
def OwnG (W : World) (B : Nat) (v : Value) (l : List UInt8) : Prop :=
  ∃ g cap cur fz, v = .slice (some ⟨g, 0, none⟩) l.length cap ∧ B ≤ g ∧ W.heap[g]? = some (.cells cur 5 fz) ∧ (fz.2 = 0 ∨ cur.size ≤ fz.1) ∧ l.length ≤ cap ∧ cap ≤ maxLen ∧ cur.size = cap ∧ cur.toList.take l.length = bv l
theorem storeG (P : Program) (g o N : Nat) (t : TypeId) (fz : Nat × Nat) (hf : fz.2 = 0 ∨ N ≤ fz.1) : ∀ (vs : List Value) (i : Nat) (cur : Array Value) (w : World), w.heap[g]? = some (.cells cur t fz) → cur.size = N → o + i + vs.length ≤ cur.size → (∀ v ∈ vs, v.oneCell' = true) →
    (storeCells ⟨g, o, none⟩ vs i).run P w = .ok () (w.setRow g (cur.toList.take (o + i) ++ vs ++ cur.toList.drop (o + i + vs.length)).toArray)
  | [], i, cur, w, hg, _, _, _ => by
    simp only [storeCells, List.append_nil, List.length_nil, Nat.add_zero, List.take_append_drop, Array.toArray_toList]
    rw [setRow_self w g cur t fz hg]
    rfl
  | v :: rest, i, cur, w, hg, hN, hl, h1 => by
    have hi : o + i < cur.size := by simp at hl; omega
    have hadd : (⟨g, o, none⟩ : Addr).add i = ⟨g, o + i, none⟩ := add_off g o i
    have hcell : w.cell? ⟨g, o + i, none⟩ = some cur[o + i] := by simp [World.cell?, hg, hi]
    have hfro : w.frozen? ⟨g, o + i, none⟩ = false := by
      obtain ⟨lo, hi'⟩ := fz
      simp only [World.frozen?, hg, Bool.and_eq_false_iff, decide_eq_false_iff_not]
      simp only at hf
      omega
    have hst : (store ((⟨g, o, none⟩ : Addr).add i) v).run P w = .ok () (w.setRow g (cur.setIfInBounds (o + i) v)) := by
      rw [hadd, run_store P w _ v _ (h1 v (by simp)), hcell]
      simp [hfro, setCell_eq_setRow w g (o + i) cur t fz v hg]
    have ih := storeG P g o N t fz hf rest (i + 1) (cur.setIfInBounds (o + i) v) (w.setRow g (cur.setIfInBounds (o + i) v)) (setRow_heap w g cur _ t _ hg) (by simpa using hN) (by simp at hl ⊢; omega) (fun x hx => h1 x (by simp [hx]))
    simp only [storeCells, Sem.run_bind, hst, Result.andThen_ok, ih, setRow_setRow]
    congr 3
    have e := list_seg_step cur.toList (o + i) v rest (by simp at hl ⊢; omega)
    simpa [Array.toList_setIfInBounds, Nat.add_assoc] using e
/-- What an append of the cells bv k leaves, with room or without. -/
theorem ownG_room {w : World} {B g cap : Nat} {cur : Array Value} {fz : Nat × Nat} {l k : List UInt8} (hB : B ≤ g) (hg : w.heap[g]? = some (.cells cur 5 fz)) (hf : fz.2 = 0 ∨ cur.size ≤ fz.1) (hr : l.length + k.length ≤ cap) (hm : cap ≤ maxLen) (hs : cur.size = cap) (ht : cur.toList.take l.length = bv l) :
    OwnG (w.setRow g (cur.toList.take l.length ++ bv k ++ cur.toList.drop (l.length + k.length)).toArray) B (.slice (some ⟨g, 0, none⟩) (l.length + k.length) cap) (l ++ k) ∧ Below B w (w.setRow g (cur.toList.take l.length ++ bv k ++ cur.toList.drop (l.length + k.length)).toArray) := by
  have hz : (cur.toList.take l.length ++ bv k ++ cur.toList.drop (l.length + k.length)).toArray.size = cur.size := by
    simp only [List.size_toArray, List.length_append, List.length_take, List.length_drop, Array.length_toList, bv_len]
    omega
  refine ⟨⟨g, cap, _, fz, by rw [List.length_append], hB, setRow_heap w g cur _ _ _ hg, by rw [hz]; exact hf, by rw [List.length_append]; exact hr, hm, by rw [hz]; exact hs, ?_⟩, ?_⟩
  · rw [ht, bv_app, List.length_append]
    have : (bv l ++ bv k).length = l.length + k.length := by rw [List.length_append, bv_len, bv_len]
    rw [← this]
    exact List.take_left
  · exact ⟨rfl, rfl, rfl, by simp, fun x hx => setRow_other w g x _ (by omega)⟩
theorem ownG_grow {w : World} {B : Nat} {l k : List UInt8} (old : Nat) (hB : B ≤ w.heap.size) (hl : l.length + k.length ≤ 1099511627776) :
    OwnG (w.drew.alloc (.cells ((bv l).toArray ++ (bv k).toArray ++ Builtin.zeroCells (Value.int .u8 0).cells (grownCap w (l.length + k.length) old 5 - (l.length + k.length))) 5)) B (.slice (some ⟨w.heap.size, 0, none⟩) (l.length + k.length) (grownCap w (l.length + k.length) old 5)) (l ++ k) ∧
    Below B w (w.drew.alloc (.cells ((bv l).toArray ++ (bv k).toArray ++ Builtin.zeroCells (Value.int .u8 0).cells (grownCap w (l.length + k.length) old 5 - (l.length + k.length))) 5)) := by
  have hge := grownCap_ge w (l.length + k.length) old 5
  have hle := grownCap_le_maxLen w (l.length + k.length) old 5 (by unfold maxLen; omega)
  refine ⟨⟨w.heap.size, _, _, (0, 0), by rw [List.length_append], hB, heap_alloc_new w.drew _, Or.inl rfl, by rw [List.length_append]; exact hge, hle, ?_, ?_⟩, ?_⟩
  · have hz1 : (Value.int IntKind.u8 0).cells.size = 1 := rfl
    simp only [Array.size_append, List.size_toArray, size_zeroCells, hz1, bv_len]
    omega
  · simp only [Array.toList_append, List.append_assoc]
    rw [← List.append_assoc, ← bv_app, ← bv_len (l ++ k)]
    exact List.take_left
  · exact ((Below.refl _ _).drew).alloc hB _
theorem ownG_cells {w : World} {B g n cap : Nat} {l : List UInt8} (h : OwnG w B (.slice (some ⟨g, 0, none⟩) n cap) l) : ∀ j (hj : j < l.length), w.cell? ⟨g, j, none⟩ = some (.int .u8 (l[j].toNat : Int)) := by
  obtain ⟨g', cap', cur, fz, hv, _, hg, _, _, _, _, ht⟩ := h
  injection hv with hv _ _
  injection hv with hv
  injection hv with hv
  subst hv
  intro j hj
  have h1 : (bv l)[j]? = some (.int .u8 (l[j].toNat : Int)) := by simp [bv, hj]
  rw [← ht, List.getElem?_take] at h1
  rw [if_pos hj] at h1
  rw [cell_of_row w g j cur _ fz hg]
  simpa using h1
theorem ownG_conv {w : World} {B : Nat} {v : Value} {l : List UInt8} (h : OwnG w B v l) : (convert 50 9 v).run Tryz.prog w = .ok (.string (S l)) w := by
  have h' := h
  obtain ⟨g, cap, cur, fz, rfl, _⟩ := h'
  exact run_convert_bytes_back w 50 9 5 ⟨g, 0, none⟩ cap l Tryz.underlying50 Tryz.underlying5 Tryz.underlying9 (fun j hj => by rw [add_j]; exact ownG_cells h j hj)
/-- One byte appended. -/
theorem append_byteG (w : World) (ty : TypeId) (B : Nat) (v : Value) (l : List UInt8) (c : UInt8) (gx : Nat) (h : OwnG w B v l) (hx : w.heap[gx]? = some (.cells #[.int .u8 (c.toNat : Int)] 5 (0, 0))) (hB : B ≤ w.heap.size) (hl : l.length + 1 ≤ 1099511627776) :
    ∃ v' w', (Builtin.append_ #[50, 50] ty #[v, .slice (some ⟨gx, 0, none⟩) 1 1]).run Tryz.prog w = .ok v' w' ∧ OwnG w' B v' (l ++ [c]) ∧ Below B w w' := by
  have h' := h
  obtain ⟨g, cap, cur, fz, rfl, hbg, hg, hf, hnc, hcm, hcs, ht⟩ := h'
  obtain ⟨i0, hi, hz0, hz1, hz2⟩ := info_parts info_u8
  have hnews : ∀ j u, (bv [c])[j]? = some u → w.cell? ((⟨gx, 0, none⟩ : Addr).add j) = some u := World.news_of_block hx
  by_cases hr : l.length + 1 ≤ cap
  · have hfc := run_firstCells_some (P := Tryz.prog) w 1 1 ⟨gx, 0, none⟩ 1 1 (bv [c]) rfl hnews
    have hst := storeG Tryz.prog g l.length cur.size 5 fz hf (bv [c]) 0 cur w hg rfl (by rw [bv_len, hcs]; simpa using hr) (bv_one _)
    simp only [Nat.add_zero, bv_len] at hst
    obtain ⟨o1, o2⟩ := ownG_room (k := [c]) hbg hg hf hr hcm hcs ht
    refine ⟨_, _, ?_, o1, o2⟩
    simp [Builtin.append_, run_underlying Tryz.underlying50, sizeOf, typeInfo, hi, hz1, Builtin.lenOf, hr, hfc, Addr.add_lit, hst]
  · have hg2 := run_append_grow (P := Tryz.prog) w 50 ty 5 i0 _ Tryz.underlying50 hi hz0 ⟨g, 0, none⟩ l.length cap (bv l) (by rw [hz1, bv_len, Nat.mul_one]) (fun j u hu => by
      have hj : j < l.length := by
        rcases Nat.lt_or_ge j l.length with h' | h'
        · exact h'
        · rw [List.getElem?_eq_none (by rw [bv_len]; exact h')] at hu; cases hu
      rw [add_j, ownG_cells h j hj, ← hu]
      simp [bv, hj]) ⟨gx, 0, none⟩ 1 1 (bv [c]) (by rw [hz1]; rfl) hnews (by omega) (by omega) (by rw [hz2]; exact growslice_fits (by omega) (by omega))
    obtain ⟨o1, o2⟩ := ownG_grow (w := w) (B := B) (l := l) (k := [c]) cap hB hl
    exact ⟨_, _, hg2, o1, o2⟩
/-- A string appended. -/
theorem append_strG (w : World) (ty : TypeId) (B : Nat) (v : Value) (l : List UInt8) (s : ByteArray) (h : OwnG w B v l) (hB : B ≤ w.heap.size) (hl : l.length + s.size ≤ 1099511627776) :
    ∃ v' w', (Builtin.append_ #[50, 9] ty #[v, .string s]).run Tryz.prog w = .ok v' w' ∧ OwnG w' B v' (l ++ s.data.toList) ∧ Below B w w' := by
  have h' := h
  obtain ⟨g, cap, cur, fz, rfl, hbg, hg, hf, hnc, hcm, hcs, ht⟩ := h'
  obtain ⟨i0, hi, hz0, hz1, hz2⟩ := info_parts info_u8
  have hsl : s.data.toList.length = s.size := size_l s
  have hsc : Lib.strCells s = bv s.data.toList := rfl
  by_cases hr : l.length + s.size ≤ cap
  · have hfc := Lib.run_firstCells_string (P := Tryz.prog) w 1 s
    have hst := storeG Tryz.prog g l.length cur.size 5 fz hf (Lib.strCells s) 0 cur w hg rfl (by rw [hsc, bv_len, hsl, hcs]; simpa using hr) (Lib.strCells_oneCell s)
    simp only [Nat.add_zero, Lib.strCells_length] at hst
    obtain ⟨o1, o2⟩ := ownG_room (k := s.data.toList) hbg hg hf (by rw [hsl]; exact hr) hcm hcs ht
    rw [hsl, ← hsc] at o1 o2
    refine ⟨_, _, ?_, o1, o2⟩
    clear hsc
    simp [Builtin.append_, run_underlying Tryz.underlying50, run_underlying Tryz.underlying9, sizeOf, typeInfo, hi, hz1, Builtin.lenOf, hr, hfc, Addr.add_lit, hst]
  · have hg2 := Lib.run_append_grow_string (P := Tryz.prog) w 50 9 ty 5 i0 _ Tryz.underlying50 Tryz.underlying9 hi hz0 ⟨g, 0, none⟩ l.length cap (bv l) (by rw [hz1, bv_len, Nat.mul_one]) (fun j u hu => by
      have hj : j < l.length := by
        rcases Nat.lt_or_ge j l.length with h' | h'
        · exact h'
        · rw [List.getElem?_eq_none (by rw [bv_len]; exact h')] at hu; cases hu
      rw [add_j, ownG_cells h j hj, ← hu]
      simp [bv, hj]) s (by omega) (by omega) (by rw [hz2]; exact growslice_fits (by omega) (by omega))
    obtain ⟨o1, o2⟩ := ownG_grow (w := w) (B := B) (l := l) (k := s.data.toList) cap hB (by rw [hsl]; exact hl)
    rw [hsl] at o1 o2
    exact ⟨_, _, hg2, o1, o2⟩
/-- A text as bytes of the call's own. -/
theorem conv_own (w : World) (s : ByteArray) (hs : s.size ≤ 1099511627776) :
    ∃ W1 v, (convert 9 50 (.string s)).run Tryz.prog w = .ok v W1 ∧ Below w.heap.size w W1 ∧ OwnG W1 w.heap.size v s.data.toList := by
  refine ⟨_, _, run_bytes_of_string w 9 50 5 s Tryz.underlying9 Tryz.underlying50 Tryz.underlying5, ?_, ?_⟩
  · exact (Below.refl _ _).drew.alloc (by simp) _
  · have hge := grownCap_ge w s.size 0 5
    have hle := grownCap_le_maxLen w s.size 0 5 (by unfold maxLen; omega)
    refine ⟨w.heap.size, _, _, _, by rw [size_l], Nat.le_refl _, heap_alloc_new w.drew _, Or.inr (Nat.le_refl _), by rw [size_l]; exact hge, hle, ?_, ?_⟩
    · simp [bytesRow]
      have : s.size = s.data.size := rfl
      omega
    · simp [bytesRow, bv]

/-- Texts as cells. -/
def sv (l : List (List UInt8)) : List Value := l.map fun m => .string (S m)
theorem sv_len (l : List (List UInt8)) : (sv l).length = l.length := by simp [sv]
theorem sv_snoc (l : List (List UInt8)) (m : List UInt8) : sv (l ++ [m]) = sv l ++ [.string (S m)] := by simp [sv]
theorem sv_app (l k : List (List UInt8)) : sv (l ++ k) = sv l ++ sv k := by simp [sv]
theorem sv_one (l : List (List UInt8)) : ∀ u ∈ sv l, u.oneCell' = true := by
  intro u hu
  simp only [sv, List.mem_map] at hu
  obtain ⟨b, _, rfl⟩ := hu
  rfl
theorem info_str : (Tryz.prog.info? 9).map (fun i => (i.zero, i.size, i.bytes)) = some (some (.string ⟨#[]⟩), 1, 16) := by kernel_rfl
/-- A list of texts of the call's own. -/
def OwnS (W : World) (B : Nat) (v : Value) (l : List (List UInt8)) : Prop := W.ownsRow B 9 1 v l.length (sv l)
theorem ownS_nil (W : World) (B : Nat) : OwnS W B (.slice none 0 0) [] := ⟨rfl, Or.inl ⟨rfl, rfl⟩⟩
theorem ownS_of {w w' : World} {B : Nat} {v : Value} {l : List (List UInt8)} (h : OwnS w B v l) (hb : ∀ g, v.ownBlock = some g → w'.heap[g]? = w.heap[g]?) : OwnS w' B v l := by
  rcases h with ⟨h1, ⟨rfl, h2⟩ | ⟨g, cap, cur, rfl, h3, h4, h5⟩⟩
  · exact ⟨h1, Or.inl ⟨rfl, h2⟩⟩
  · exact ⟨h1, Or.inr ⟨g, cap, cur, rfl, h3, by rw [hb g rfl]; exact h4, h5⟩⟩
theorem ownS_lt {w : World} {B g : Nat} {v : Value} {l : List (List UInt8)} (h : OwnS w B v l) (hg : v.ownBlock = some g) : B ≤ g ∧ g < w.heap.size := World.ownsRow.lt (show w.ownsRow B 9 1 v l.length (sv l) from h) g hg
theorem ownS_form {w : World} {B : Nat} {v : Value} {l : List (List UInt8)} (h : OwnS w B v l) : (v = .slice none 0 0 ∧ l = []) ∨ (∃ g cap, v = .slice (some ⟨g, 0, none⟩) l.length cap) := by
  have hl := h.1
  rcases h.2 with ⟨rfl, hn⟩ | ⟨g, cap, cur, rfl, _⟩
  · exact Or.inl ⟨rfl, List.eq_nil_of_length_eq_zero hn⟩
  · exact Or.inr ⟨g, cap, rfl⟩
theorem ownS_cell {w : World} {B g cap : Nat} {l : List (List UInt8)} (h : OwnS w B (.slice (some ⟨g, 0, none⟩) l.length cap) l) (i : Nat) (hi : i < l.length) : w.cell? ⟨g, i, none⟩ = some (.string (S l[i])) := by
  have hc := World.ownsRow.cellAt (show w.ownsRow B 9 1 _ l.length (sv l) from h) i (by omega)
  rw [hc]
  simp [sv, hi]
/-- One text appended, in a walk. -/
theorem push_text (w : World) {ops : Array Oper} {rest : List Oper} {o : Oper} {a : Act} {Q : Exit → Act → World → Prop} (hgd : o.guard = none) (s x : Operand)
    (ho : o.op = .call { callee := .builtin .append, args := #[s, x], argTypes := #[88, 88] }) (B : Nat) (v : Value) (l : List (List UInt8)) (m : List UInt8) (g : Nat)
    (hs : a.eval s = v) (hx : a.eval x = .slice (some ⟨g, 0, none⟩) 1 1) (hown : OwnS w B v l) (hg : w.heap[g]? = some (.cells #[.string (S m)] 9 (0, 0))) (hB : B ≤ w.heap.size) (hl : l.length ≤ 4194304)
    (h : ∀ g' cap w', OwnS w' B (.slice (some ⟨g', 0, none⟩) (l.length + 1) cap) (l ++ [m]) → w.grownBy w' v.ownBlock → (v.ownBlock = some g' ∨ g' = w.heap.size) → Below B w w' → wpList Tryz.prog ops Q rest (a.put o.dst (.slice (some ⟨g', 0, none⟩) (l.length + 1) cap)) w') :
    wpList Tryz.prog ops Q (o :: rest) a w := by
  obtain ⟨i0, hi, hz0, hz1, hz2⟩ := info_parts info_str
  refine wpList_append_lies w hgd s x 88 ho B 9 i0 _ 1 16 Tryz.underlying88 hi hz0 hz1 hz2 rfl (by decide) v l.length (sv l) hs hown ⟨g, 0, none⟩ 1 1 [.string (S m)] hx rfl (World.news_of_block hg) (by intro u hu; simp at hu; subst hu; rfl) (by decide) (by unfold maxLen; omega) (by omega) hB w.heap.size rfl ?_
  intro g' cap w' h1 h2 h3 _
  refine h g' cap w' ?_ h2 h3 ?_
  · unfold OwnS
    rw [sv_snoc, List.length_append]
    exact h1
  · refine (Below.refl _ _).grown h2 hB ?_
    intro k hk
    exact (World.ownsRow.lt (show w.ownsRow B 9 1 v l.length (sv l) from hown) _ hk).1

/-- A row of texts that came in. -/
def Strs (w : World) (a : Option Addr) (n : Nat) (X : Nat → ByteArray) : Prop := ∀ i, i < n → ∃ b off, a = some ⟨b, off, none⟩ ∧ w.cell? ⟨b, off + i, none⟩ = some (.string (X i))
theorem Strs.below {w w' : World} {a : Option Addr} {n : Nat} {X : Nat → ByteArray} (h : Strs w a n X) (hb : Below w.heap.size w w') : Strs w' a n X := fun i hi => by
  obtain ⟨b, off, e, h1⟩ := h i hi
  refine ⟨b, off, e, ?_⟩
  rw [hb.cell (World.block_lt_of_cell? w _ h1)]
  exact h1
theorem Strs.less {w : World} {a : Option Addr} {n m : Nat} {X : Nat → ByteArray} (h : Strs w a n X) (hm : m ≤ n) : Strs w a m X := fun i hi => h i (by omega)
def tot (X : Nat → ByteArray) : Nat → Nat
  | 0 => 0
  | i + 1 => tot X i + ((X i).size + 1)
theorem tot_mono (X : Nat → ByteArray) (i j : Nat) (h : i ≤ j) : tot X i ≤ tot X j := by
  induction j with
  | zero => have : i = 0 := by omega
            subst this; exact Nat.le_refl _
  | succ j ih =>
    by_cases he : i = j + 1
    · subst he; exact Nat.le_refl _
    · have := ih (by omega)
      show tot X i ≤ tot X j + _
      omega
theorem tot_ge (X : Nat → ByteArray) (i : Nat) : i ≤ tot X i := by
  induction i with
  | zero => exact Nat.le_refl _
  | succ i ih =>
    show i + 1 ≤ tot X i + _
    omega
/-- The texts themselves. -/
def lst (X : Nat → ByteArray) (n : Nat) : List (List UInt8) := (List.range n).map fun i => (X i).data.toList
theorem lst_len (X : Nat → ByteArray) (n : Nat) : (lst X n).length = n := by simp [lst]
theorem lst_at (X : Nat → ByteArray) (n i : Nat) (h : i < (lst X n).length) : (lst X n)[i] = (X i).data.toList := by simp [lst]
theorem ownS_strs {w : World} {B g cap n : Nat} {X : Nat → ByteArray} {k : List (List UInt8)} (h : OwnS w B (.slice (some ⟨g, 0, none⟩) (lst X n ++ k).length cap) (lst X n ++ k)) : Strs w (some ⟨g, 0, none⟩) n X := fun i hi => by
  refine ⟨g, 0, rfl, ?_⟩
  have hl : i < (lst X n).length := by rw [lst_len]; exact hi
  have hc := ownS_cell h i (by rw [List.length_append]; omega)
  rw [Nat.zero_add, hc, List.getElem_append_left hl, lst_at, S_of]
end Go.Proofs.YtnjodplnbfmjeaaGreatDoor
