import Derived.Test.YtkknenmpdimdbaaGreatDoorAtIter
import Derived.Test.YtkknenmpdimdbaaGreatDoorAtShelf
namespace Go.Proofs.YtkknenmpdimdbaaGreatDoor
open Go.RowKit Go.Shelf
attribute [local go_sem] Oper.semAt_some
theorem mk_map (n : Nat) (w : World) : (Instr.makeMap 131 (some (.int .i64 (n : Int)))).run Tryz.prog w = .ok (.map (some w.heap.size)) (w.alloc (.map #[] 0)) := by
 simp [Instr.makeMap, run_underlying Tryz.underlying131, asInt]
 rfl
def bk0 (m : Nat) : Array Value := (List.replicate 186 (Value.string ⟨#[]⟩) ++ [Value.map (some m)]).toArray
def put3 (cs : Array Value) (i : Fin 62) : Array Value := ((cs.setIfInBounds (i.1 * 3) (.string (rowL i).1)).setIfInBounds (i.1 * 3 + 1) (.string (rowL i).2.1)).setIfInBounds (i.1 * 3 + 2) (.string (rowL i).2.2)
def bkC (m : Nat) (pre : List (Fin 62)) : Array Value := pre.foldl put3 (bk0 m)
theorem bkC_snoc (m : Nat) (pre : List (Fin 62)) (i : Fin 62) : bkC m (pre ++ [i]) = put3 (bkC m pre) i := by simp [bkC]
theorem put3_size (cs : Array Value) (i : Fin 62) : (put3 cs i).size = cs.size := by simp [put3]
theorem bk0_size (m : Nat) : (bk0 m).size = 187 := by
 unfold bk0
 rw [List.size_toArray, List.length_append, List.length_replicate]
 rfl
theorem bkC_size (m : Nat) (pre : List (Fin 62)) : (bkC m pre).size = 187 := by
 unfold bkC
 have : ∀ (l : List (Fin 62)) (cs : Array Value), (l.foldl put3 cs).size = cs.size := by
  intro l
  induction l with
  | nil => intro cs; rfl
  | cons i l ih => intro cs; rw [List.foldl_cons, ih, put3_size]
 rw [this, bk0_size]
theorem store_book (W : World) (m : Nat) : (storeCells ⟨W.heap.size, 0, none⟩ (Tryz.zeroCells133.toList.set 186 (.map (some m))) 0).run Tryz.prog (W.alloc (.cells Tryz.zeroCells133 133)) = .ok () (W.alloc (.cells (bk0 m) 133)) := by
 have e : Tryz.zeroCells133.toList.set 186 (.map (some m)) = (bk0 m).toList := by kernel_rfl
 rw [e]
 have h1 : (Tryz.zeroCells133).toList.all (·.oneCell') = true := by kernel_rfl
 refine run_storeCells_new W _ _ (bk0 m) (by rw [bk0_size]; kernel_rfl) (by rw [bk0_size]; kernel_rfl) ?_
 rw [Array.all_eq_true']
 intro v hv
 have hv' : v ∈ (Tryz.zeroCells133).toList.set 186 (.map (some m)) := by rw [e]; simpa using hv
 rcases List.mem_or_eq_of_mem_set hv' with h | h
 ·exact List.all_eq_true.1 h1 v h
 ·rw [h]; rfl
def stepD (zs : List ByteArray) (i : Fin 62) (D : DataW Nat) (s : ByteArray) : DataW Nat := if ¬ s.toList = [] ∧ Lib.containsS zs s = true then D.put (.string s.data.toList) (.lit (.int .i64 (i.1 : Int))) else D
def nms (i : Fin 62) : List ByteArray := [(rowL i).1, (rowL i).2.1, (rowL i).2.2]
def mapD (zs : List ByteArray) (pre : List (Fin 62)) : DataW Nat := pre.foldl (fun D i => (nms i).foldl (stepD zs i) D) (.map [])
theorem mapD_snoc (zs : List ByteArray) (pre : List (Fin 62)) (i : Fin 62) : mapD zs (pre ++ [i]) = (nms i).foldl (stepD zs i) (mapD zs pre) := by simp [mapD]
structure Ch (p q : Nat) (W W' : World) : Prop where
 z : Below 0 W W'
 same : ∀ x, x < W.heap.size → x ≠ p → x ≠ q → W'.heap[x]? = W.heap[x]?
theorem Ch.refl (p q : Nat) (W : World) : Ch p q W W := ⟨Below.refl _ _, fun _ _ _ _ => rfl⟩
theorem Ch.trans {p q : Nat} {A B C : World} (h : Ch p q A B) (k : Ch p q B C) : Ch p q A C :=
 ⟨h.z.trans k.z, fun x hx h1 h2 => (k.same x (Nat.lt_of_lt_of_le hx h.z.size) h1 h2).trans (h.same x hx h1 h2)⟩
theorem Ch.setCell (p q : Nat) (W : World) (j : Nat) (v : Value) : Ch p q W (W.setCell ⟨q, j, none⟩ v) :=
 ⟨(Below.refl _ _).setCell (p := ⟨q, j, none⟩) (Nat.zero_le _) _, fun x _ _ h2 => Below.heap_setCell W _ _ x h2⟩
theorem Ch.grown {p q : Nat} {W W' : World} (h : W.grownBy W' (some p)) : Ch p q W W' :=
 ⟨⟨h.os, h.tape, h.output, h.size, fun x hx => absurd hx (Nat.not_lt_zero _)⟩, fun x hx h1 _ => h.block x hx (fun e => h1 (by injection e))⟩
theorem Ch.keeps {p q B : Nat} {W W' : World} (h : Ch p q W W') (hp : p < B) (hq : q < B) : KeepsFrom B W W' ∧ KC B W W' := by
 have hs := h.z.size
 refine ⟨⟨hs, fun k o hB hk ho => ?_⟩, hs, fun x cs t fz hB hx => ?_⟩
 ·rw [h.same k (Array.getElem?_eq_some_iff.1 hk).1 (by omega) (by omega)]; exact hk
 ·exact h.same x (Array.getElem?_eq_some_iff.1 hx).1 (by omega) (by omega)
theorem Ch.below {p q B : Nat} {W W' : World} (h : Ch p q W W') (hB : B ≤ W.heap.size) (hp : B ≤ p) (hq : B ≤ q) : Below B W W' :=
 ⟨h.z.os, h.z.tape, h.z.output, h.z.size, fun x hx => h.same x (by omega) (by omega) (by omega)⟩
theorem row_cell {W : World} {g j : Nat} {cs : Array Value} {t : TypeId} (h : W.heap[g]? = some (.cells cs t (0, 0))) (hj : j < cs.size) : W.cell? ⟨g, j, none⟩ = some cs[j] ∧ W.frozen? ⟨g, j, none⟩ = false := by
 refine ⟨?_, Go.frozen_of_row _ _ _ _ _ h⟩
 rw [cell_of_row W g j cs t (0, 0) h]
 simp [hj]
theorem put3_last (cs : Array Value) (i : Fin 62) : (put3 cs i)[186]? = cs[186]? := by
 have := i.2
 unfold put3
 rw [Array.getElem?_setIfInBounds_ne (by omega), Array.getElem?_setIfInBounds_ne (by omega), Array.getElem?_setIfInBounds_ne (by omega)]
theorem bkC_last (m : Nat) (pre : List (Fin 62)) : (bkC m pre)[186]? = some (.map (some m)) := by
 have : ∀ (l : List (Fin 62)) (cs : Array Value), (l.foldl put3 cs)[186]? = cs[186]? := by
  intro l
  induction l with
  | nil => intro cs; rfl
  | cons i l ih => intro cs; rw [List.foldl_cons, ih, put3_last]
 unfold bkC
 rw [this]
 rfl
theorem heap_put3 {W : World} {g : Nat} {cs : Array Value} {t : TypeId} (h : W.heap[g]? = some (.cells cs t (0, 0))) (i : Fin 62) : (((W.setCell ⟨g, i.1 * 3, none⟩ (.string (rowL i).1)).setCell ⟨g, i.1 * 3 + 1, none⟩ (.string (rowL i).2.1)).setCell ⟨g, i.1 * 3 + 2, none⟩ (.string (rowL i).2.2)).heap[g]? = some (.cells (put3 cs i) t (0, 0)) :=
 Go.heap_setCell_same _ _ _ _ _ _ (Go.heap_setCell_same _ _ _ _ _ _ (Go.heap_setCell_same _ _ _ _ _ _ h))
theorem put3_one (cs : Array Value) (i : Fin 62) (h : ∀ v ∈ cs.toList, v.oneCell' = true) : ∀ v ∈ (put3 cs i).toList, v.oneCell' = true := by
 intro v hv
 unfold put3 at hv
 simp only [Array.toList_setIfInBounds] at hv
 rcases List.mem_or_eq_of_mem_set hv with hv | rfl
 ·rcases List.mem_or_eq_of_mem_set hv with hv | rfl
  ·rcases List.mem_or_eq_of_mem_set hv with hv | rfl
   ·exact h v hv
   ·rfl
  ·rfl
 ·rfl
theorem bkC_one (m : Nat) (pre : List (Fin 62)) : ∀ v ∈ (bkC m pre).toList, v.oneCell' = true := by
 have : ∀ (l : List (Fin 62)) (cs : Array Value), (∀ v ∈ cs.toList, v.oneCell' = true) → ∀ v ∈ (l.foldl put3 cs).toList, v.oneCell' = true := by
  intro l
  induction l with
  | nil => intro cs h; exact h
  | cons i l ih => intro cs h; exact ih _ (put3_one cs i h)
 refine this pre (bk0 m) (fun v hv => ?_)
 unfold bk0 at hv
 rcases List.mem_append.1 hv with h | h
 ·rw [(List.mem_replicate.1 h).2]; rfl
 ·rw [List.mem_singleton.1 h]; rfl
theorem st_row (W : World) (b : Nat) (cs cs' : Array Value) (t : TypeId) (h : W.heap[b]? = some (.cells cs t (0, 0))) (hs : cs.size = cs'.size) (h1 : ∀ v ∈ cs'.toList, v.oneCell' = true) : (storeCells ⟨b, 0, none⟩ cs'.toList 0).run Tryz.prog W = .ok () (W.setRow b cs') := by
 rw [run_storeCells_at Tryz.prog b 0 t cs'.toList 0 cs W h (by simp; omega) h1]
 have e : (cs.toList.take (0 + 0) ++ cs'.toList ++ cs.toList.drop (0 + 0 + cs'.toList.length)).toArray = cs' := by
  rw [List.drop_of_length_le (by simp; omega)]
  simp
 rw [e]
theorem ld_struct (b : Nat) (W : World) (cs : Array Value) (t : TypeId) (fz : Nat × Nat) (h : W.heap[b]? = some (.cells cs t fz)) (hn : cs.size = 187) : (Instr.loadAt 133 (.pointer (some ⟨b, 0, none⟩))).run Tryz.prog W = .ok (.agg cs) W := by
 simp only [Instr.loadAt, Instr.sureAddr, Sem.run_bind, Sem.run_pure, Result.andThen]
 exact run_loadVar_row W b t 133 cs fz _ h Tryz.underlying133 rfl (by rw [hn]; kernel_rfl)
theorem key_str (s : ByteArray) (h : s.size ≤ maxLen) : keyOf Tryz.prog 9 (.string s) = some (.string s.data.toList) := by
 simp [keyOf, mapKey, Tryz.underlying9, h]
theorem plain_row (x : Fin 62) : plainElem (H := Nat) Tryz.prog 3 (.int .i64 (x.1 : Int)) = some (.lit (.int .i64 (x.1 : Int)), []) := by
 have e1 : IntKind.i64.min = -9223372036854775808 := by decide
 have e2 : IntKind.i64.max = 9223372036854775807 := by decide
 have hx := x.2
 have h1 : decide (IntKind.i64.min ≤ (x.1 : Int)) = true := decide_eq_true (by omega)
 have h2 : decide ((x.1 : Int) ≤ IntKind.i64.max) = true := decide_eq_true (by omega)
 refine plainElem_int Tryz.underlying3 ?_
 show (decide (IntKind.i64.min ≤ (x.1 : Int)) && decide ((x.1 : Int) ≤ IntKind.i64.max)) = true
 rw [h1, h2]
 rfl
theorem nms_len (i : Fin 62) : (nms i).length = 3 := rfl
theorem nms_size : ∀ (i : Fin 62) (s : ByteArray), s ∈ nms i → s.size ≤ 40 := by
 have h : (List.finRange 62).all (fun i => (nms i).all (fun s => decide (s.size ≤ 40))) = true := by kernel_rfl
 intro i s hs
 have h1 := List.all_eq_true.1 h i (List.mem_finRange i)
 exact of_decide_eq_true (List.all_eq_true.1 h1 s hs)
theorem take_fold (zs : List ByteArray) (i : Fin 62) (D : DataW Nat) (j : Nat) (hj : j < 3) : ((nms i).take (j + 1)).foldl (stepD zs i) D = stepD zs i (((nms i).take j).foldl (stepD zs i) D) ((nms i)[j]'hj) := by
 rw [List.take_succ_eq_append_getElem (show j < (nms i).length from hj), List.foldl_append]
 rfl
theorem idx3 (i : Fin 62) : ∀ (j : Nat) (hj : j < 3) (W : World), (Instr.index 170 (.agg #[.string (rowL i).1, .string (rowL i).2.1, .string (rowL i).2.2]) (.int .i64 (j : Int))).run Tryz.prog W = .ok (.string ((nms i)[j]'hj)) W
 | 0, _, W => by kernel_rfl
 | 1, _, W => by kernel_rfl
 | 2, _, W => by kernel_rfl
 | j + 3, hj, _ => absurd hj (by omega)
theorem labels_any (w : World) : Calls Tryz.prog 116 #[] w fun e w' => e = .returned (.func (.func 145) #[] #[]) ∧ w' = w := by
 go_enter Tryz.func116, Tryz.ntmps116
 go_wp2
 go_ret
 exact ⟨rfl, rfl⟩
set_option maxRecDepth 1000000 in
set_option maxHeartbeats 1000000 in
theorem openBook_any (a : Option Addr) (n c : Nat) (zs : List ByteArray) (w : World) (hcon : ∀ W x, Below w.heap.size w W → Hid (Calls Tryz.prog 69 #[.slice a n c, .string x] W fun e w' => e = .returned (.bool (Lib.containsS zs x)) ∧ w' = W)) :
  Calls Tryz.prog 83 #[.slice a n c] w fun e w' => ∃ B, w.heap.size ≤ B ∧ e = .returned (.agg (bkC B (upF 62))) ∧ w'.ownsMap Tryz.prog 9 (plainElem (H := Nat) Tryz.prog 3) B 186 (mapD zs (upF 62)) ∧ Below w.heap.size w w' := by
 refine (callsIn_wide (n := 3)).1 ?_
 refine callsIn_of_wp_marks Tryz.func83 rfl trivial ?_ rfl
 simp only [Tryz.ntmps83, List.size_toArray, List.length_cons, List.length_nil, Nat.reduceAdd, Nat.reduceSub, Array.replicate_succ, Array.replicate_zero, List.push_toArray, List.append_toArray, List.nil_append, List.cons_append]
 have hmm := mk_map n
 have st := store_book (((w.alloc (.cells #[.slice a n c] 36)).alloc (.cells Tryz.zeroCells133 133)).alloc (.map #[] 0)) (w.heap.size + 1 + 1)
 simp only [World.size_alloc] at st
 gi_wp2_with (refine ⟨trivial, ?_⟩; gi_at_call 116; refine (callsIn_wide.2 (labels_any _)).mono ?_; rintro e w' ⟨rfl, rfl⟩)
 obtain ⟨v11, hv11⟩ : ∃ v, Value.agg (Tryz.zeroCells133.setIfInBounds 186 (.map (some (w.heap.size + 1 + 1)))) = v := ⟨_, rfl⟩
 obtain ⟨W0, hW0⟩ : ∃ W0, (((w.alloc (.cells #[.slice a n c] 36)).alloc (.cells Tryz.zeroCells133 133)).alloc (.map #[] 0)).alloc (.cells (bk0 (w.heap.size + 1 + 1)) 133) = W0 := ⟨_, rfl⟩
 have hsz : W0.heap.size = w.heap.size + 4 := by rw [← hW0]; simp
 have HB0 : Below w.heap.size w W0 := by rw [← hW0]; exact ((((Below.refl _ _).alloc (Nat.le_refl _) _).alloc (by simp) _).alloc (by simp; omega) _).alloc (by simp; omega) _
 have g3 : W0.heap[w.heap.size + 1 + 1 + 1]? = some (.cells (bk0 (w.heap.size + 1 + 1)) 133 (0, 0)) := by
  rw [← hW0]
  have h := heap_alloc_last (((w.alloc (.cells #[.slice a n c] 36)).alloc (.cells Tryz.zeroCells133 133)).alloc (.map #[] 0)) (.cells (bk0 (w.heap.size + 1 + 1)) 133)
  simp only [World.size_alloc] at h
  exact h
 have g2 : W0.ownsMap Tryz.prog 9 (plainElem (H := Nat) Tryz.prog 3) (w.heap.size + 1 + 1) 0 (.map []) := by
  have h := World.ownsMap_made ((w.alloc (.cells #[.slice a n c] 36)).alloc (.cells Tryz.zeroCells133 133)) Tryz.prog 9 (plainElem (H := Nat) Tryz.prog 3)
  simp only [World.size_alloc] at h
  rw [← hW0]
  exact h.kept (World.grownBy_alloc _ _ none) (by simp)
 have g1 : W0.heap[w.heap.size + 1]? = some (.cells Tryz.zeroCells133 133 (0, 0)) := by
  rw [← hW0, Below.heap_alloc _ _ _ (by simp), Below.heap_alloc _ _ _ (by simp)]
  have h := heap_alloc_last (w.alloc (.cells #[.slice a n c] 36)) (.cells Tryz.zeroCells133 133)
  simp only [World.size_alloc] at h
  exact h
 have g0 : W0.heap[w.heap.size]? = some (.cells #[.slice a n c] 36 (0, 0)) := by
  rw [← hW0, Below.heap_alloc _ _ _ (by simp; omega), Below.heap_alloc _ _ _ (by simp; omega), Below.heap_alloc _ _ _ (by simp)]
  exact heap_alloc_last w _
 rw [hW0, hv11]
 clear hW0 hv11 st hmm
 have hKb : ∀ (W : World) (l : Nat) (o o' : Obj), W0.heap.size ≤ l → W.heap[l]? = some o → o.isCells = false → o.isWalk = false → KC W0.heap.size W (W.putObj l o') := fun W l o o' hl ho hc _ => by
  have hg := grownBy_putObj' W l o'
  refine ⟨hg.size, fun x cs t fz hx hxc => hg.block x (Array.getElem?_eq_some_iff.1 hxc).1 (fun e => ?_)⟩
  injection e with e
  subst e
  rw [hxc] at ho
  injection ho with ho
  subst ho
  cases hc
 have hI : OwnFrom W0.heap.size (fun (pre : List (Fin 62)) W => W.heap[w.heap.size]? = some (.cells #[.slice a n c] 36 (0, 0)) ∧ W.heap[w.heap.size + 1]? = some (.cells Tryz.zeroCells133 133 (0, 0)) ∧ W.ownsMap Tryz.prog 9 (plainElem (H := Nat) Tryz.prog 3) (w.heap.size + 1 + 1) (3 * pre.length) (mapD zs pre) ∧ W.heap[w.heap.size + 1 + 1 + 1]? = some (.cells (bkC (w.heap.size + 1 + 1) pre) 133 (0, 0)) ∧ Below w.heap.size w W) := by
  rintro pre A B row ⟨i0, i1, i2, i3, i4⟩ hg hr
  have ne : ∀ x, x < W0.heap.size → some x ≠ row := fun x hx e => by have := (hr x e.symm).1; omega
  refine ⟨(hg.block _ (Array.getElem?_eq_some_iff.1 i0).1 (ne _ (by omega))).trans i0, (hg.block _ (Array.getElem?_eq_some_iff.1 i1).1 (ne _ (by omega))).trans i1, i2.kept hg (ne _ (by omega)), (hg.block _ (Array.getElem?_eq_some_iff.1 i3).1 (ne _ (by omega))).trans i3, ?_⟩
  refine i4.grown hg i4.size (fun k e => ?_)
  have := (hr k e).1
  omega
 refine wpIn_rangeFunc_ownH rfl (by omega) (gf := 145) (lb := #[]) rfl trivial (enters_of Tryz.func145 (by kernel_rfl) rfl) (labels_stops 2 (by omega) W0)
  (fun h k => ⟨Nat.le_trans h.1 k.1, fun x cs t fz hx hc => (k.2 x cs t fz hx ((h.2 x cs t fz hx hc).trans hc)).trans (h.2 x cs t fz hx hc)⟩) hKb (Below.refl _ _) (fun _ => rfl) _ (fun _ _ _ => False) hI (fun _ _ _ _ _ hs _ _ => hs) ⟨g0, g1, g2, g3, HB0⟩
  (fun x a' W => ∃ Bx, W0.heap.size ≤ Bx ∧ W.heap[Bx]? = some (.cells #[.string (rowL x).1, .string (rowL x).2.1, .string (rowL x).2.2] 129 (0, 0)) ∧ a' = { tmps := #[.slice a n c, .pointer (some ⟨w.heap.size, 0, none⟩), .pointer (some ⟨w.heap.size + 1, 0, none⟩), .pointer (some ⟨w.heap.size + 1 + 1 + 1, 0, none⟩), .int .i64 (x.1 : Int), .pointer (some ⟨Bx, 0, none⟩), undef, undef, .slice a n c, .int .i64 (n : Int), .map (some (w.heap.size + 1 + 1)), v11, .func (.func 145) #[] #[], .int .i64 (x.1 : Int), .agg #[.string (rowL x).1, .string (rowL x).2.1, .string (rowL x).2.2], undef, undef, undef, undef, undef, undef, undef, undef, undef, undef, undef, undef, undef, undef, undef, undef, undef, undef, undef, undef, undef, undef, undef, undef, undef, undef, undef], defers := [] })
  ?hAx ?assign ?body ?done ?stop
 case hAx =>
  rintro x a' _ A B row ⟨Bx, h1, h2, h3⟩ hg hr
  refine ⟨Bx, h1, (hg.block _ (Array.getElem?_eq_some_iff.1 h2).1 (fun e => ?_)).trans h2, h3⟩
  obtain ⟨_, o, ho, hc⟩ := hr Bx e.symm
  rw [h2] at ho
  injection ho with ho
  subst ho
  cases hc
 case assign =>
  rintro l pre x W K hiW hK
  gi_wp2
  have hws : W0.heap.size ≤ W.heap.size := by have := (Array.getElem?_eq_some_iff.1 hiW.2.2.2.1).1; omega
  exact hK _ _ ((KeepsOthers.alloc _ _).from _) ⟨by simp, fun y cs t fz _ hy => Below.heap_alloc _ _ _ (Array.getElem?_eq_some_iff.1 hy).1⟩ (hI pre W _ none hiW (World.grownBy_alloc _ _ none) (fun r e => by cases e)) ⟨W.heap.size, hws, heap_alloc_last W _, rfl⟩
 case body =>
  rintro l pre x a' W hl hr ⟨i0, i1, i2, i3, i4⟩ ⟨Bx, hBx, hlx, rfl⟩ hlt
  have hx2 : x.1 < 62 := x.2
  have hbs := bkC_size (w.heap.size + 1 + 1) pre
  obtain ⟨c0, f0⟩ := row_cell i3 (j := x.1 * 3) (by omega)
  obtain ⟨c1, f1⟩ := row_cell i3 (j := x.1 * 3 + 1) (by omega)
  obtain ⟨c2, f2⟩ := row_cell i3 (j := x.1 * 3 + 2) (by omega)
  have d0 := (row_cell hlx (j := 0) (by simp)).1
  have d1 := (row_cell hlx (j := 1) (by simp)).1
  have d2 := (row_cell hlx (j := 2) (by simp)).1
  simp only [List.getElem_toArray, List.getElem_cons_zero, List.getElem_cons_succ] at d0 d1 d2
  have x0 : (0 : Int) ≤ (x.1 : Int) := Int.natCast_nonneg _
  have x1 : (x.1 : Int) < 62 := by omega
  generalize (bkC (w.heap.size + 1 + 1) pre)[x.1 * 3]'(by omega) = y0 at c0
  generalize (bkC (w.heap.size + 1 + 1) pre)[x.1 * 3 + 1]'(by omega) = y1 at c1
  generalize (bkC (w.heap.size + 1 + 1) pre)[x.1 * 3 + 2]'(by omega) = y2 at c2
  have hi : Hid (W.heap[w.heap.size]? = some (.cells #[.slice a n c] 36 (0, 0)) ∧ W.heap[w.heap.size + 1]? = some (.cells Tryz.zeroCells133 133 (0, 0)) ∧ W.ownsMap Tryz.prog 9 (plainElem (H := Nat) Tryz.prog 3) (w.heap.size + 1 + 1) (3 * pre.length) (mapD zs pre) ∧ W.heap[w.heap.size + 1 + 1 + 1]? = some (.cells (bkC (w.heap.size + 1 + 1) pre) 133 (0, 0)) ∧ Below w.heap.size w W) := ⟨i0, i1, i2, i3, i4⟩
  have hlx' : Hid (W.heap[Bx]? = some (.cells #[.string (rowL x).1, .string (rowL x).2.1, .string (rowL x).2.2] 129 (0, 0)) ∧ W0.heap.size ≤ Bx ∧ W0.heap.size = w.heap.size + 4 ∧ pre.length < 62) := ⟨hlx, hBx, hsz, hlt⟩
  have hne : Bx ≠ w.heap.size + 1 + 1 + 1 := by omega
  clear i0 i1 i2 i3 i4 hbs hlx hBx hlt hsz hr hl hI hKb g0 g1 g2 g3 HB0
  have hW3 := heap_put3 hi.out.2.2.2.1 x
  have hC3 : Ch (w.heap.size + 1 + 1) (w.heap.size + 1 + 1 + 1) W (((W.setCell ⟨w.heap.size + 1 + 1 + 1, x.1 * 3, none⟩ (.string (rowL x).1)).setCell ⟨w.heap.size + 1 + 1 + 1, x.1 * 3 + 1, none⟩ (.string (rowL x).2.1)).setCell ⟨w.heap.size + 1 + 1 + 1, x.1 * 3 + 2, none⟩ (.string (rowL x).2.2)) := ((Ch.setCell _ _ _ _ _).trans (Ch.setCell _ _ _ _ _)).trans (Ch.setCell _ _ _ _ _)
  have hM3 : (((W.setCell ⟨w.heap.size + 1 + 1 + 1, x.1 * 3, none⟩ (.string (rowL x).1)).setCell ⟨w.heap.size + 1 + 1 + 1, x.1 * 3 + 1, none⟩ (.string (rowL x).2.1)).setCell ⟨w.heap.size + 1 + 1 + 1, x.1 * 3 + 2, none⟩ (.string (rowL x).2.2)).ownsMap Tryz.prog 9 (plainElem (H := Nat) Tryz.prog 3) (w.heap.size + 1 + 1) (3 * pre.length) (mapD zs pre) := by
   refine hi.out.2.2.1.kept (row := some (w.heap.size + 1 + 1 + 1)) ⟨hC3.z.os, hC3.z.tape, hC3.z.output, hC3.z.size, fun y hy hne => ?_⟩ (fun e => by injection e with e; omega)
   rw [Below.heap_setCell _ _ _ _ (fun e => hne (by rw [e])), Below.heap_setCell _ _ _ _ (fun e => hne (by rw [e])), Below.heap_setCell _ _ _ _ (fun e => hne (by rw [e]))]
  have hW3' : Hid (_ = _) := hW3
  have hC3' : Hid (Ch _ _ _ _) := hC3
  have hM3' : Hid (World.ownsMap _ _ _ _ _ _ _) := hM3
  clear hW3 hC3 hM3
  gi_wp2
  gi_loopw [26] (fun jv wr => ∃ j : Nat, j ≤ 3 ∧ jv = .int .i64 (j : Int) ∧ Hid (Ch (w.heap.size + 1 + 1) (w.heap.size + 1 + 1 + 1) W wr) ∧ Hid (wr.heap[w.heap.size + 1 + 1 + 1]? = some (.cells (put3 (bkC (w.heap.size + 1 + 1) pre) x) 133 (0, 0))) ∧ Hid (wr.ownsMap Tryz.prog 9 (plainElem (H := Nat) Tryz.prog 3) (w.heap.size + 1 + 1) (3 * pre.length + j) (((nms x).take j).foldl (stepD zs x) (mapD zs pre)))) (fun jv _ => 3 - (intOf jv).toNat)
  case atStart => exact ⟨0, Nat.zero_le _, rfl, hC3', hW3', hM3'⟩
  case round =>
   obtain ⟨j, hj, rfl, hC, hB3, hM⟩ := hrel
   clear hC3' hW3' hM3' c0 c1 c2 f0 f1 f2 d0 d1 d2
   have hws : Hid (w.heap.size + 4 ≤ W.heap.size) := by have := (Array.getElem?_eq_some_iff.1 hi.out.2.2.2.1).1; unfold Hid; omega
   by_cases hjl : j < 3
   ·obtain ⟨s, hs⟩ : ∃ s, (nms x)[j]'hjl = s := ⟨_, rfl⟩
    have hidx := idx3 x j hjl wr
    rw [hs] at hidx
    have hstep := take_fold zs x (mapD zs pre) j hjl
    rw [hs] at hstep
    have hsz40 : s.size ≤ 40 := nms_size x s (by rw [← hs]; exact List.getElem_mem _)
    have q0 : wr.cell? ⟨w.heap.size, 0, none⟩ = some (.slice a n c) := by
     have h : wr.heap[w.heap.size]? = some (.cells #[.slice a n c] 36 (0, 0)) := (hC.out.same _ (by have := hws.out; omega) (by omega) (by omega)).trans hi.out.1
     exact (row_cell h (j := 0) (by simp)).1
    have q1 : wr.cell? ⟨w.heap.size + 1 + 1 + 1, 186, none⟩ = some (.map (some (w.heap.size + 1 + 1))) := by
     rw [cell_of_row wr _ 186 _ _ _ hB3.out, put3_last, bkC_last]
    have HBr : Below w.heap.size w wr := hi.out.2.2.2.2.trans (hC.out.below (by have := hws.out; omega) (by omega) (by omega))
    have hct := hcon wr s HBr
    have j0 : (0 : Int) ≤ (j : Int) := Int.natCast_nonneg _
    have j1 : (j : Int) < 3 := by omega
    have hjl' : Hid (j < 3) := hjl
    have hstep' : Hid (((nms x).take (j + 1)).foldl (stepD zs x) (mapD zs pre) = stepD zs x (((nms x).take j).foldl (stepD zs x) (mapD zs pre)) s) := hstep
    clear hs hstep hj hjl HBr
    have hkey := key_str s (by unfold maxLen; omega)
    have hval : plainElem (H := Nat) Tryz.prog 3 (.int .i64 (x.1 : Int)) = some (.lit (.int .i64 (x.1 : Int)), []) := plain_row x
    have hnm : 3 * pre.length + j < maxLen := by have := hlx'.out.2.2.2; unfold maxLen; omega
    have hkey' : Hid (keyOf Tryz.prog 9 (.string s) = some (.string s.data.toList)) := hkey
    have hval' : Hid (plainElem (H := Nat) Tryz.prog 3 (.int .i64 (x.1 : Int)) = some (.lit (.int .i64 (x.1 : Int)), [])) := hval
    have hnm' : Hid (3 * pre.length + j < maxLen) := hnm
    clear hkey hval hnm
    by_cases he : s.toList = []
    ·have hst : Hid (stepD zs x (((nms x).take j).foldl (stepD zs x) (mapD zs pre)) s = (((nms x).take j).foldl (stepD zs x) (mapD zs pre))) := by unfold Hid stepD; rw [if_neg (fun h => h.1 he)]
     have hM' : Hid (wr.ownsMap Tryz.prog 9 (plainElem (H := Nat) Tryz.prog 3) (w.heap.size + 1 + 1) (3 * pre.length + (j + 1)) (((nms x).take (j + 1)).foldl (stepD zs x) (mapD zs pre))) := by unfold Hid; rw [hstep'.out, hst.out]; exact hM.out.mono (by omega)
     clear hct hst hstep' hM
     gi_wp2
     refine ⟨trivial, ?_⟩
     gi_wp2
     refine ⟨⟨j + 1, hjl'.out, by simp, hC, hB3, hM'⟩, ?_⟩
     have := hjl'.out
     simp [intOf]
     omega
    ·have hnb : s.toList.isEmpty = false := by simpa using he
     cases e2 : Lib.containsS zs s
     ·have hst : Hid (stepD zs x (((nms x).take j).foldl (stepD zs x) (mapD zs pre)) s = (((nms x).take j).foldl (stepD zs x) (mapD zs pre))) := by unfold Hid stepD; rw [if_neg (fun h => by rw [e2] at h; cases h.2)]
      have hM' : Hid (wr.ownsMap Tryz.prog 9 (plainElem (H := Nat) Tryz.prog 3) (w.heap.size + 1 + 1) (3 * pre.length + (j + 1)) (((nms x).take (j + 1)).foldl (stepD zs x) (mapD zs pre))) := by unfold Hid; rw [hstep'.out, hst.out]; exact hM.out.mono (by omega)
      rw [e2] at hct
      clear hst hstep' hM
      gi_wp2_with (refine ⟨trivial, ?_⟩; gi_at_call 69; refine (CallsIn.inRound l (callsIn_wide.2 hct.out)).mono ?_; rintro e w' ⟨rfl, rfl⟩)
      refine ⟨⟨j + 1, hjl'.out, by simp, hC, hB3, hM'⟩, ?_⟩
      have := hjl'.out
      simp [intOf]
      omega
     ·rw [e2] at hct
      gi_wp2_with (first | (refine ⟨trivial, ?_⟩; gi_at_call 69; refine (CallsIn.inRound l (callsIn_wide.2 hct.out)).mono ?_; rintro e w' ⟨rfl, rfl⟩) | (gi_at_mapUpdate; refine wpListIn_mapUpdate_own _ rfl _ _ _ 131 rfl 9 3 (Maps.string_keyed Tryz.underlying9) Tryz.underlying131 _ (w.heap.size + 1 + 1) _ _ rfl hM.out hnm'.out _ _ _ rfl rfl hkey'.out _ [] hval'.out ?_; intro w7 hown7 hgrow7))
      have hst : stepD zs x (((nms x).take j).foldl (stepD zs x) (mapD zs pre)) s = (((nms x).take j).foldl (stepD zs x) (mapD zs pre)).put (.string s.data.toList) (.lit (.int .i64 (x.1 : Int))) := by unfold stepD; rw [if_pos ⟨he, e2⟩]
      have hM' : Hid (w7.ownsMap Tryz.prog 9 (plainElem (H := Nat) Tryz.prog 3) (w.heap.size + 1 + 1) (3 * pre.length + (j + 1)) (((nms x).take (j + 1)).foldl (stepD zs x) (mapD zs pre))) := by unfold Hid; rw [hstep'.out, hst]; exact hown7
      have hC' : Hid (Ch (w.heap.size + 1 + 1) (w.heap.size + 1 + 1 + 1) W w7) := hC.out.trans (Ch.grown hgrow7)
      have hB3' : Hid (w7.heap[w.heap.size + 1 + 1 + 1]? = some (.cells (put3 (bkC (w.heap.size + 1 + 1) pre) x) 133 (0, 0))) := (hgrow7.block _ (Array.getElem?_eq_some_iff.1 hB3.out).1 (fun e => by injection e with e; omega)).trans hB3.out
      refine ⟨⟨j + 1, hjl'.out, by simp, hC', hB3', hM'⟩, ?_⟩
      have := hjl'.out
      simp [intOf]
      omega
   ·have hje : j = 3 := by omega
    subst hje
    clear hjl hj
    gi_wp2
    have hk := hC.out.keeps (B := W0.heap.size) (by have := hlx'.out.2.2.1; omega) (by have := hlx'.out.2.2.1; omega)
    have hwz := hws.out
    have sm : ∀ y, y < w.heap.size + 1 + 1 → wr.heap[y]? = W.heap[y]? := fun y hy => hC.out.same y (by omega) (by omega) (by omega)
    refine ⟨hk.1, hk.2, (sm _ (by omega)).trans hi.out.1, (sm _ (by omega)).trans hi.out.2.1, ?_, ?_, hi.out.2.2.2.2.trans (hC.out.below (by omega) (by omega) (by omega))⟩
    ·rw [mapD_snoc, List.length_append]
     have h := hM.out
     rw [List.take_of_length_le (Nat.le_of_eq (nms_len x))] at h
     exact h
    ·rw [bkC_snoc]
     exact hB3.out
 case done =>
  rintro D xs W hD rfl ⟨i0, i1, i2, i3, i4⟩ hK
  have hcz := bkC_size (w.heap.size + 1 + 1) (upF 62)
  have hco := bkC_one (w.heap.size + 1 + 1) (upF 62)
  have hme : Hid (W.ownsMap Tryz.prog 9 (plainElem (H := Nat) Tryz.prog 3) (w.heap.size + 1 + 1) 186 (mapD zs (upF 62))) := by
   rw [upF_len 62 (Nat.le_refl _)] at i2
   exact i2
  obtain ⟨cs, hcs⟩ : ∃ cs, bkC (w.heap.size + 1 + 1) (upF 62) = cs := ⟨_, rfl⟩
  rw [hcs] at hcz hco i3
  have hl := ld_struct (w.heap.size + 1 + 1 + 1) W cs 133 (0, 0) i3 hcz
  have hzz : (Tryz.zeroCells133).size = 187 := by kernel_rfl
  have st := st_row W (w.heap.size + 1) Tryz.zeroCells133 cs 133 i1 (by rw [hcz, hzz]) hco
  have hcs' : Hid (bkC (w.heap.size + 1 + 1) (upF 62) = cs) := hcs
  clear hcs hco i0 i2 hI hKb g0 g1 g2 g3 HB0 hzz
  gi_wp2
  refine opIn_load 133 _ rfl _ _ rfl hl ?_
  gi_wp2
  have hK' : (W.setRow (w.heap.size + 1) cs).heap[D]? = some (.deferred (some [])) := by rw [setRow_other W _ D _ (by omega)]; exact hK
  refine ⟨by simp, .inl ⟨_, _, rfl, run_takeDeferred hK', ?_⟩⟩
  have hg := grownBy_putObj' (W.setRow (w.heap.size + 1) cs) D (.deferred none)
  have hD1 : D < W.heap.size := (Array.getElem?_eq_some_iff.1 hK).1
  have hr1 : (W.setRow (w.heap.size + 1) cs).heap[w.heap.size + 1]? = some (.cells cs 133 (0, 0)) := setRow_heap W _ _ _ _ _ i1
  have hr2 := (hg.block _ (Array.getElem?_eq_some_iff.1 hr1).1 (fun e => by injection e with e; omega)).trans hr1
  have gS : W.grownBy (W.setRow (w.heap.size + 1) cs) (some (w.heap.size + 1)) := ⟨rfl, rfl, rfl, by simp, fun k _ hk => setRow_other W _ k _ (fun e => hk (by rw [e]))⟩
  refine ⟨.agg cs, results_cell_row rfl _ _ (w.heap.size + 1) 133 cs (0, 0) _ rfl hr2 Tryz.underlying133 rfl (by rw [hcz]; kernel_rfl), w.heap.size + 1 + 1, by omega, by rw [hcs'.out], ?_, ?_⟩
  ·exact (hme.out.kept gS (fun e => by injection e with e; omega)).kept hg (fun e => by injection e with e; omega)
  ·refine (i4.grown gS i4.size (fun k e => by injection e with e; omega)).grown hg ?_ (fun k e => by injection e with e; omega)
   exact Nat.le_trans i4.size gS.size
 case stop =>
  rintro D c pre W _ _ h _
  exact h.elim
end Go.Proofs.YtkknenmpdimdbaaGreatDoor
