import Derived.Test.YtkknenmpdimdbaaGreatDoorFW32
import Derived.Test.YtkknenmpdimdbaaGreatDoorFW27
import Derived.Deep.DeepCutAuto
namespace Go.Proofs.YtkknenmpdimdbaaGreatDoor
open Go.RowKit BnI
open BerMath (Hd HR num hAt wAt El TR elEnd endE one andThen kids)
set_option linter.unusedVariables false
set_option maxRecDepth 100000
namespace BrM
def plV (x : El) : List Value := [.int .i64 (x.1 : Int), .int .i64 (x.2.1.cls : Int), .bool x.2.1.made, .int .i64 (x.2.1.tag : Int), .int .i64 (x.2.1.len : Int), .int .i64 (x.2.1.size : Int)]
def pv (l : List El) : List Value := l.flatMap plV
theorem pv_snoc (l : List El) (e : El) : pv (l ++ [e]) = pv l ++ plV e := by simp [pv]
theorem plV_one (e : El) : ∀ u ∈ plV e, u.oneCell' = true := by
 intro u hu
 simp [plV] at hu
 rcases hu with rfl | rfl | rfl | rfl | rfl | rfl <;> rfl
theorem info_place : (Tryz.prog.info? 207).map (fun i => (i.zero, i.size, i.bytes)) = some (some (.agg #[.int .i64 0, .int .i64 0, .bool false, .int .i64 0, .int .i64 0, .int .i64 0]), 6, 48) := by kernel_rfl
def OwnP (W : World) (B : Nat) (v : Value) (l : List El) : Prop := W.ownsRow B 207 6 v l.length (pv l)
theorem ownP_nil (W : World) (B : Nat) : OwnP W B (.slice none 0 0) [] := ⟨rfl, Or.inl ⟨rfl, rfl⟩⟩
theorem own_below {w w' : World} {B : Nat} {t : TypeId} {k : Nat} {v : Value} {n : Nat} {xs : List Value} (h : w.ownsRow B t k v n xs) (hb : Below w.heap.size w w') : w'.ownsRow B t k v n xs := by
 rcases h with ⟨h1, ⟨rfl, h2⟩ | ⟨g, cap, cur, rfl, h3, h4, h5⟩⟩
 ·exact ⟨h1, Or.inl ⟨rfl, h2⟩⟩
 ·have hg : g < w.heap.size := (Array.getElem?_eq_some_iff.1 h4).1
  exact ⟨h1, Or.inr ⟨g, cap, cur, rfl, h3, by rw [hb.block g hg]; exact h4, h5⟩⟩
theorem own_ne {w : World} {B B' : Nat} {t t' : TypeId} {k k' : Nat} {v u : Value} {n n' : Nat} {xs ys : List Value} (h : w.ownsRow B t k v n xs) (h' : w.ownsRow B' t' k' u n' ys) (ht : t ≠ t') : v.ownBlock = none ∨ v.ownBlock ≠ u.ownBlock := by
 rcases h.2 with ⟨rfl, _⟩ | ⟨g, cap, cur, rfl, _, hg, _⟩
 ·exact Or.inl rfl
 ·refine Or.inr (fun e => ?_)
  rcases h'.2 with ⟨rfl, _⟩ | ⟨g', cap', cur', rfl, _, hg', _⟩
  ·simp [Value.ownBlock] at e
  ·simp [Value.ownBlock] at e
   subst e
   rw [hg] at hg'
   injection hg' with hg'
   injection hg' with _ hg'
   exact ht hg'
theorem own_far {w : World} {B : Nat} {t t' : TypeId} {k : Nat} {v : Value} {n : Nat} {xs : List Value} {g : Nat} {cur : Array Value} {z} (h : w.ownsRow B t k v n xs) (hg : w.heap[g]? = some (.cells cur t' z)) (ht : t ≠ t') : some g ≠ v.ownBlock := by
 rcases h.2 with ⟨rfl, _⟩ | ⟨g', cap', cur', rfl, _, hg', _⟩
 ·simp [Value.ownBlock]
 ·intro e
  simp [Value.ownBlock] at e
  subst e
  rw [hg] at hg'
  injection hg' with hg'
  injection hg' with _ hg'
  exact ht hg'.symm
theorem dis_symm {v u : Value} (h : v.ownBlock = none ∨ v.ownBlock ≠ u.ownBlock) : u.ownBlock = none ∨ u.ownBlock ≠ v.ownBlock := by
 rcases h with h | h
 ·cases hu : u.ownBlock with
  | none => exact Or.inl rfl
  | some x => rw [h]; exact Or.inr (by simp)
 ·exact Or.inr (fun e => h e.symm)
theorem appendP_one (w : World) (B : Nat) (v : Value) (l : List El) (e : El) (g : Nat) (hown : OwnP w B v l) (hg : w.heap[g]? = some (.cells (plV e).toArray 207 (0, 0))) (hB : B ≤ w.heap.size) (hl : l.length ≤ 4294967296) :
  ∃ g' cap w', (Builtin.append_ #[201, 201] 201 #[v, .slice (some ⟨g, 0, none⟩) 1 1]).run Tryz.prog w = .ok (.slice (some ⟨g', 0, none⟩) (l.length + 1) cap) w' ∧ OwnP w' B (.slice (some ⟨g', 0, none⟩) (l.length + 1) cap) (l ++ [e]) ∧ w.grownBy w' v.ownBlock := by
 obtain ⟨i0, hi, hz0, hz1, hz2⟩ := info_parts info_place
 obtain ⟨g', cap, w', hr, h2, h3, _, _⟩ := run_append_lies (P := Tryz.prog) w 201 201 B 207 i0 _ 6 48 Tryz.underlying201 hi hz0 hz1 hz2 rfl (by decide) v l.length (pv l) hown ⟨g, 0, none⟩ 1 1 (plV e) rfl (World.news_of_block hg) (plV_one e) (by decide) (by unfold maxLen; omega) (by omega) hB w.heap.size rfl
 refine ⟨g', cap, w', hr, ?_, h3⟩
 unfold OwnP
 rw [pv_snoc, List.length_append]
 exact h2
theorem appendI_one (w : World) (B : Nat) (v : Value) (l : List Int) (x : Int) (g : Nat) (hown : OwnI w B v l) (hg : w.heap[g]? = some (.cells #[.int .i64 x] 3 (0, 0))) (hB : B ≤ w.heap.size) (hl : l.length ≤ 4294967296) :
  ∃ g' cap w', (Builtin.append_ #[24, 24] 24 #[v, .slice (some ⟨g, 0, none⟩) 1 1]).run Tryz.prog w = .ok (.slice (some ⟨g', 0, none⟩) (l.length + 1) cap) w' ∧ OwnI w' B (.slice (some ⟨g', 0, none⟩) (l.length + 1) cap) (l ++ [x]) ∧ w.grownBy w' v.ownBlock ∧ (v.ownBlock = some g' ∨ g' = w.heap.size) := by
 obtain ⟨i0, hi, hz0, hz1, hz2⟩ := info_parts info_i64
 obtain ⟨g', cap, w', hr, h2, h3, h4, _⟩ := run_append_lies (P := Tryz.prog) w 24 24 B 3 i0 _ 1 8 Tryz.underlying24 hi hz0 hz1 hz2 rfl (by decide) v l.length (iv l) hown ⟨g, 0, none⟩ 1 1 (iv [x]) rfl (World.news_of_block hg) (iv_one _) (by decide) (by unfold maxLen; omega) (by omega) hB w.heap.size rfl
 refine ⟨g', cap, w', hr, ?_, h3, h4⟩
 unfold OwnI
 rw [iv_app, List.length_append]
 exact h2
theorem ownI_pop {w : World} {B : Nat} {v : Value} {l : List Int} {x : Int} (h : OwnI w B v (l ++ [x])) :
  ∃ g cap, v = .slice (some ⟨g, 0, none⟩) (l.length + 1) cap ∧ l.length + 1 ≤ cap ∧ w.cell? ⟨g, l.length, none⟩ = some (.int .i64 x) ∧ OwnI w B (.slice (some ⟨g, 0, none⟩) l.length cap) l := by
 have h0 := h
 obtain ⟨h1, ⟨_, h2⟩ | ⟨g, cap, cur, rfl, h3, h4, h5, h6, h7, h8⟩⟩ := h
 ·simp at h2
 ·rw [List.length_append] at h0 h5 h8 ⊢
  simp only [List.length_cons, List.length_nil, Nat.zero_add, Nat.mul_one] at h0 h5 h7 h8 ⊢
  refine ⟨g, cap, rfl, h5, ?_, ?_⟩
  ·have hc := World.ownsRow.cellAt (show w.ownsRow B 3 1 (.slice (some ⟨g, 0, none⟩) (l.length + 1) cap) (l.length + 1) (iv (l ++ [x])) from by have := h0; unfold OwnI at this; rw [List.length_append] at this; exact this) l.length (by omega)
   rw [hc]
   simp [iv]
  ·refine ⟨by rw [iv_len]; omega, Or.inr ⟨g, cap, cur, rfl, h3, h4, by omega, h6, by omega, ?_⟩⟩
   rw [Nat.mul_one]
   have : (cur.toList.take (l.length + 1)).take l.length = cur.toList.take l.length := by rw [List.take_take, Nat.min_eq_left (by omega)]
   rw [← this, h8, iv_app, ← iv_len l, List.take_left]
def ends (st : List Nat) : List Int := st.reverse.map (fun (n : Nat) => (n : Int))
theorem ends_cons (e : Nat) (st : List Nat) : ends (e :: st) = ends st ++ [(e : Int)] := by simp [ends]
theorem ends_len (st : List Nat) : (ends st).length = st.length := by simp [ends]
def deps (l : List El) : List Int := l.map (fun x => (x.2.2 : Int))
theorem deps_snoc (l : List El) (x : El) : deps (l ++ [x]) = deps l ++ [(x.2.2 : Int)] := by simp [deps]
theorem deps_len (l : List El) : (deps l).length = l.length := by simp [deps]
def Mem (W : World) (B : Nat) (lv dv ev : Value) (l : List El) (st : List Nat) : Prop := OwnP W B lv l ∧ OwnI W B dv (deps l) ∧ OwnI W B ev (ends st) ∧ (dv.ownBlock = none ∨ dv.ownBlock ≠ ev.ownBlock)
theorem Mem.below {W W' : World} {B : Nat} {lv dv ev : Value} {l : List El} {st : List Nat} (h : Mem W B lv dv ev l st) (hb : Below W.heap.size W W') : Mem W' B lv dv ev l st := ⟨own_below h.1 hb, own_below h.2.1 hb, own_below h.2.2.1 hb, h.2.2.2⟩
theorem Mem.pop {W : World} {B : Nat} {lv dv ev : Value} {l : List El} {e : Nat} {st : List Nat} (h : Mem W B lv dv ev l (e :: st)) :
  ∃ g cap, ev = .slice (some ⟨g, 0, none⟩) (st.length + 1) cap ∧ st.length + 1 ≤ cap ∧ W.cell? ⟨g, st.length, none⟩ = some (.int .i64 (e : Int)) ∧ Mem W B lv dv (.slice (some ⟨g, 0, none⟩) st.length cap) l st := by
 obtain ⟨h1, h2, h3, h4⟩ := h
 rw [ends_cons] at h3
 obtain ⟨g, cap, rfl, q1, q2, q3⟩ := ownI_pop h3
 rw [ends_len] at q1 q2 q3 ⊢
 exact ⟨g, cap, rfl, q1, q2, h1, h2, q3, h4⟩
theorem Mem.step {W : World} {B : Nat} {lv dv ev : Value} {l : List El} {st : List Nat} (h : Mem W B lv dv ev l st) (hB : B ≤ W.heap.size) (hl : l.length ≤ 4294967295) (hs : st.length ≤ 64) (x : El) (E : Nat) (gh : Nat) (hc : Array Value) (hgh : W.heap[gh]? = some (.cells hc 205 (0, 0))) :
  ∃ g1 c1 w1 g2 c2 w2 g3 c3 w3, (Builtin.append_ #[201, 201] 201 #[lv, .slice (some ⟨W.heap.size, 0, none⟩) 1 1]).run Tryz.prog (W.alloc (.cells (plV x).toArray 207)) = .ok (.slice (some ⟨g1, 0, none⟩) (l.length + 1) c1) w1 ∧
   (Builtin.append_ #[24, 24] 24 #[dv, .slice (some ⟨w1.heap.size, 0, none⟩) 1 1]).run Tryz.prog (w1.alloc (.cells #[.int .i64 (x.2.2 : Int)] 3)) = .ok (.slice (some ⟨g2, 0, none⟩) (l.length + 1) c2) w2 ∧
   (Builtin.append_ #[24, 24] 24 #[ev, .slice (some ⟨w2.heap.size, 0, none⟩) 1 1]).run Tryz.prog (w2.alloc (.cells #[.int .i64 (E : Int)] 3)) = .ok (.slice (some ⟨g3, 0, none⟩) (st.length + 1) c3) w3 ∧
   Mem w3 B (.slice (some ⟨g1, 0, none⟩) (l.length + 1) c1) (.slice (some ⟨g2, 0, none⟩) (l.length + 1) c2) (.slice (some ⟨g3, 0, none⟩) (st.length + 1) c3) (l ++ [x]) (E :: st) ∧
   w1.heap[gh]? = some (.cells hc 205 (0, 0)) ∧ w2.heap[gh]? = some (.cells hc 205 (0, 0)) ∧ w3.heap[gh]? = some (.cells hc 205 (0, 0)) ∧ Below B W w3 := by
 obtain ⟨h1, h2, h3, h4⟩ := h
 have hlt : gh < W.heap.size := (Array.getElem?_eq_some_iff.1 hgh).1
 have b0 : Below B W (W.alloc (.cells (plV x).toArray 207)) := (Below.refl _ _).alloc hB _
 obtain ⟨g1, c1, w1, e1, o1, gr1⟩ := appendP_one (W.alloc (.cells (plV x).toArray 207)) B lv l x W.heap.size (World.ownsRow.alloc h1 _) (heap_alloc_new _ _) (by simp; omega) (by omega)
 have a1 : (W.alloc (.cells (plV x).toArray 207)).heap[gh]? = some (.cells hc 205 (0, 0)) := by rw [(show ∀ (W : World) (o : Obj) (i : Nat), i < W.heap.size → (W.alloc o).heap[i]? = W.heap[i]? from fun W o i h => by show (W.heap.push o)[i]? = W.heap[i]?; rw [Array.getElem?_push, if_neg (Nat.ne_of_lt h)]) _ _ _ hlt]; exact hgh
 have k1 : w1.heap[gh]? = some (.cells hc 205 (0, 0)) := by rw [gr1.block gh (Array.getElem?_eq_some_iff.1 a1).1 (own_far (World.ownsRow.alloc h1 _) a1 (by decide))]; exact a1
 have d1 : OwnI w1 B dv (deps l) := World.ownsRow.kept (World.ownsRow.alloc h2 _) gr1 (own_ne h2 h1 (by decide))
 have f1 : OwnI w1 B ev (ends st) := World.ownsRow.kept (World.ownsRow.alloc h3 _) gr1 (own_ne h3 h1 (by decide))
 have b1 : Below B W w1 := b0.grown gr1 (by simp; omega) (fun j hj => (World.ownsRow.lt h1 _ hj).1)
 have hB1 : B ≤ w1.heap.size := Nat.le_trans hB b1.size
 obtain ⟨g2, c2, w2, e2, o2, gr2, p2⟩ := appendI_one (w1.alloc (.cells #[.int .i64 (x.2.2 : Int)] 3)) B dv (deps l) (x.2.2 : Int) w1.heap.size (World.ownsRow.alloc d1 _) (heap_alloc_new _ _) (by simp; omega) (by rw [deps_len]; omega)
 have a2 : (w1.alloc (.cells #[.int .i64 (x.2.2 : Int)] 3)).heap[gh]? = some (.cells hc 205 (0, 0)) := by rw [(show ∀ (W : World) (o : Obj) (i : Nat), i < W.heap.size → (W.alloc o).heap[i]? = W.heap[i]? from fun W o i h => by show (W.heap.push o)[i]? = W.heap[i]?; rw [Array.getElem?_push, if_neg (Nat.ne_of_lt h)]) _ _ _ (Array.getElem?_eq_some_iff.1 k1).1]; exact k1
 have k2 : w2.heap[gh]? = some (.cells hc 205 (0, 0)) := by rw [gr2.block gh (Array.getElem?_eq_some_iff.1 a2).1 (own_far (World.ownsRow.alloc d1 _) a2 (by decide))]; exact a2
 have o1' : OwnP w2 B _ _ := World.ownsRow.kept (World.ownsRow.alloc o1 (.cells #[.int .i64 (x.2.2 : Int)] 3)) gr2 (own_ne o1 d1 (by decide))
 have f2 : OwnI w2 B ev (ends st) := World.ownsRow.kept (World.ownsRow.alloc f1 _) gr2 (dis_symm h4)
 have b2 : Below B W w2 := (b1.alloc hB1 _).grown gr2 (by simp; omega) (fun j hj => (World.ownsRow.lt d1 _ hj).1)
 have hB2 : B ≤ w2.heap.size := Nat.le_trans hB b2.size
 have dis2 : (Value.slice (some ⟨g2, 0, none⟩) ((deps l).length + 1) c2).ownBlock = none ∨ (Value.slice (some ⟨g2, 0, none⟩) ((deps l).length + 1) c2).ownBlock ≠ ev.ownBlock := by
  refine Or.inr (fun e => ?_)
  have e' : ev.ownBlock = some g2 := by rw [← e]; rfl
  rcases p2 with p2 | p2
  ·rcases h4 with h4 | h4
   ·rw [h4] at p2; cases p2
   ·exact h4 (by rw [p2, e'])
  ·have := (World.ownsRow.lt f1 _ e').2
   rw [p2] at this
   simp at this
   omega
 obtain ⟨g3, c3, w3, e3, o3, gr3, p3⟩ := appendI_one (w2.alloc (.cells #[.int .i64 (E : Int)] 3)) B ev (ends st) (E : Int) w2.heap.size (World.ownsRow.alloc f2 _) (heap_alloc_new _ _) (by simp; omega) (by rw [ends_len]; omega)
 have a3 : (w2.alloc (.cells #[.int .i64 (E : Int)] 3)).heap[gh]? = some (.cells hc 205 (0, 0)) := by rw [(show ∀ (W : World) (o : Obj) (i : Nat), i < W.heap.size → (W.alloc o).heap[i]? = W.heap[i]? from fun W o i h => by show (W.heap.push o)[i]? = W.heap[i]?; rw [Array.getElem?_push, if_neg (Nat.ne_of_lt h)]) _ _ _ (Array.getElem?_eq_some_iff.1 k2).1]; exact k2
 have k3 : w3.heap[gh]? = some (.cells hc 205 (0, 0)) := by rw [gr3.block gh (Array.getElem?_eq_some_iff.1 a3).1 (own_far (World.ownsRow.alloc f2 _) a3 (by decide))]; exact a3
 have o1'' : OwnP w3 B _ _ := World.ownsRow.kept (World.ownsRow.alloc o1' (.cells #[.int .i64 (E : Int)] 3)) gr3 (own_ne o1' f2 (by decide))
 have o2' : OwnI w3 B _ _ := World.ownsRow.kept (World.ownsRow.alloc o2 (.cells #[.int .i64 (E : Int)] 3)) gr3 dis2
 have b3 : Below B W w3 := (b2.alloc hB2 _).grown gr3 (by simp; omega) (fun j hj => (World.ownsRow.lt f2 _ hj).1)
 have dis3 : (Value.slice (some ⟨g2, 0, none⟩) ((deps l).length + 1) c2).ownBlock = none ∨ (Value.slice (some ⟨g2, 0, none⟩) ((deps l).length + 1) c2).ownBlock ≠ (Value.slice (some ⟨g3, 0, none⟩) ((ends st).length + 1) c3).ownBlock := by
  refine Or.inr (fun e => ?_)
  have e' : g2 = g3 := by simpa [Value.ownBlock] using e
  subst e'
  rcases p3 with p3 | p3
  ·rcases dis2 with q | q
   ·simp [Value.ownBlock] at q
   ·exact q (by rw [p3]; rfl)
  ·have := (World.ownsRow.lt o2 g2 rfl).2
   rw [p3] at this
   simp at this
   omega
 rw [deps_len] at e2 o2' dis3
 rw [ends_len] at e3 o3 dis3
 exact ⟨g1, c1, w1, g2, c2, w2, g3, c3, w3, e1, e2, e3, ⟨o1'', by rw [deps_snoc]; exact o2', by rw [ends_cons]; exact o3, dis3⟩, k1, k2, k3, b3⟩
end BrM
end Go.Proofs.YtkknenmpdimdbaaGreatDoor

namespace Go.Proofs.YtkknenmpdimdbaaGreatDoor
open Go.RowKit
open BerMath (Hd HR num hAt)
end Go.Proofs.YtkknenmpdimdbaaGreatDoor

namespace Go.Proofs.YtkknenmpdimdbaaGreatDoor
open Go.RowKit
open BerMath (Hd HR num hAt)
set_option maxHeartbeats 400000 in
theorem refHead_short (s : ByteArray) (p e : Nat) (w : World) (T G A D M L : Int) (md : Bool) (h1 : ¬ e ≤ p) (p0 : (0 : Int) ≤ (p : Int)) (p1 : (p : Int) < (s.size : Int)) (hps : p < s.size)
  (hwt : wrap64 (s[p].toNat : Int) = T) (hG : T.tmod 32 = G) (dG : (G == 31) = false) (pw : wrap64 ((p : Int) + 1) = (p : Int) + 1) (d3 : decide ((e : Int) ≤ (p : Int) + 1) = false)
  (hqs : p + 1 < s.size) (q1 : (p : Int) + 1 < (s.size : Int)) (hwl : wrap64 (s[p + 1].toNat : Int) = L) (d4 : (L == 128) = false) (d5 : decide (132 < L) = false) (d6 : decide (128 < L) = false)
  (hA : T.tdiv 64 = A) (wA : wrap64 A = A) (hD : T.tdiv 32 = D) (wD : wrap64 D = D) (hM : D.tmod 2 = M) (hmd : (M == 1) = md) :
  Calls Tryz.prog 169 #[.string s, .int .i64 (p : Int), .int .i64 (e : Int)] w fun r w' => r = .returned (.tuple #[.agg #[.int .i64 A, .bool md, .int .i64 G, .int .i64 L, .int .i64 2], .int .i64 0, .int .i64 (p : Int)]) ∧ Below w.heap.size w w' := by
 go_enter Tryz.func169, Tryz.ntmps169
 go_wp2_with fail
 refine bodyPost_ret_by (v := .tuple #[.agg #[.int .i64 A, .bool md, .int .i64 G, .int .i64 L, .int .i64 2], .int .i64 0, .int .i64 (p : Int)]) ?_ rfl ⟨rfl, ?_⟩
 ·simp [results, Tryz.results169, go_sem]
 ·repeat' first | exact Below.refl _ _ | refine Below.setCell ?_ (by simp) _ | refine Below.alloc ?_ (by simp) _ | refine Below.alloc ?_ (by simp; omega) _
set_option maxHeartbeats 400000 in
theorem refHead_cut (s : ByteArray) (p e : Nat) (w : World) (T G A D M L X Z Q : Int) (md : Bool) (h1 : ¬ e ≤ p) (p0 : (0 : Int) ≤ (p : Int)) (p1 : (p : Int) < (s.size : Int)) (hps : p < s.size)
  (hwt : wrap64 (s[p].toNat : Int) = T) (hG : T.tmod 32 = G) (dG : (G == 31) = false) (pw : wrap64 ((p : Int) + 1) = (p : Int) + 1) (d3 : decide ((e : Int) ≤ (p : Int) + 1) = false)
  (hqs : p + 1 < s.size) (q1 : (p : Int) + 1 < (s.size : Int)) (hwl : wrap64 (s[p + 1].toNat : Int) = L) (d4 : (L == 128) = false) (d5 : decide (132 < L) = false) (d6 : decide (128 < L) = true)
  (hA : T.tdiv 64 = A) (wA : wrap64 A = A) (hD : T.tdiv 32 = D) (wD : wrap64 D = D) (hM : D.tmod 2 = M) (hmd : (M == 1) = md) (hX : wrap64 (2 + L) = X) (hZ : wrap64 (X - 128) = Z) (hQ : wrap64 ((p : Int) + Z) = Q) (d7 : decide ((e : Int) < Q) = true) :
  Calls Tryz.prog 169 #[.string s, .int .i64 (p : Int), .int .i64 (e : Int)] w fun r w' => r = .returned (.tuple #[.agg hdZ.toArray, .int .i64 (-1), .int .i64 (e : Int)]) ∧ Below w.heap.size w w' := by
 go_enter Tryz.func169, Tryz.ntmps169
 go_wp2_with fail
 refine bodyPost_ret_by (v := .tuple #[.agg hdZ.toArray, .int .i64 (-1), .int .i64 (e : Int)]) ?_ rfl ⟨rfl, ?_⟩
 ·simp [results, Tryz.results169, go_sem, hdZ]
 ·repeat' first | exact Below.refl _ _ | refine Below.setCell ?_ (by simp) _ | refine Below.alloc ?_ (by simp) _ | refine Below.alloc ?_ (by simp; omega) _
theorem round_nums (v b : Nat) (hv : v < 16777216) (hb : b < 256) : wrap64 (b : Int) = (b : Int) ∧ wrap64 ((v : Int) * 256) = (v : Int) * 256 ∧ wrap64 ((v : Int) * 256 + (b : Int)) = (v : Int) * 256 + (b : Int) := by
 unfold wrap64; omega
theorem meas_down (a I : Nat) (h : I < a) (hw : wrap64 ((I : Int) + 1) = ((I + 1 : Nat) : Int)) : a - (intOf (.int .i64 (wrap64 ((I : Int) + 1)))).toNat < a - (intOf (.int .i64 (I : Int))).toNat := by
 rw [hw]
 show a - (((I + 1 : Nat) : Int)).toNat < a - ((I : Nat) : Int).toNat
 rw [Int.toNat_natCast, Int.toNat_natCast]
 omega
theorem wrap_next (a : Nat) (h : a ≤ 140737488355328) : wrap64 ((a : Int) + 1) = ((a + 1 : Nat) : Int) := by unfold wrap64; omega
theorem cast_step (x v b : Nat) (h : x = v * 256 + b) : (x : Int) = (v : Int) * 256 + (b : Int) := by omega
theorem num_step (s : ByteArray) (q j : Nat) (h : q + j < s.size) : num 0 ((s.data.toList.drop q).take (j + 1)) = num 0 ((s.data.toList.drop q).take j) * 256 + s[q + j].toNat := by
 rw [drop_snoc s q j h, BerMath.num_snoc]
theorem num_small (s : ByteArray) (q j : Nat) (hj : j < 4) : num 0 ((s.data.toList.drop q).take j) < 16777216 := by
 have h := BerMath.num_lt ((s.data.toList.drop q).take j)
 have hl : ((s.data.toList.drop q).take j).length ≤ 3 := by rw [List.length_take]; omega
 have : 256 ^ ((s.data.toList.drop q).take j).length ≤ 256 ^ 3 := Nat.pow_le_pow_right (by decide) hl
 have e : (256 : Nat) ^ 3 = 16777216 := by decide
 omega
set_option maxHeartbeats 1000000 in
theorem refHead_long (s : ByteArray) (p e : Nat) (w : World) (T G A D M L X Z Q : Int) (md : Bool) (h1 : ¬ e ≤ p) (p0 : (0 : Int) ≤ (p : Int)) (p1 : (p : Int) < (s.size : Int)) (hps : p < s.size)
  (hwt : wrap64 (s[p].toNat : Int) = T) (hG : T.tmod 32 = G) (dG : (G == 31) = false) (pw : wrap64 ((p : Int) + 1) = (p : Int) + 1) (d3 : decide ((e : Int) ≤ (p : Int) + 1) = false)
  (hqs : p + 1 < s.size) (q1 : (p : Int) + 1 < (s.size : Int)) (hwl : wrap64 (s[p + 1].toNat : Int) = L) (d4 : (L == 128) = false) (d5 : decide (132 < L) = false) (d6 : decide (128 < L) = true)
  (hA : T.tdiv 64 = A) (wA : wrap64 A = A) (hD : T.tdiv 32 = D) (wD : wrap64 D = D) (hM : D.tmod 2 = M) (hmd : (M == 1) = md) (hX : wrap64 (2 + L) = X) (hZ : wrap64 (X - 128) = Z) (hQ : wrap64 ((p : Int) + Z) = Q) (d7 : decide ((e : Int) < Q) = false)
  (k : Nat) (k4 : k ≤ 4) (hQk : Q = ((p + 2 + k : Nat) : Int)) (hks : p + 2 + k ≤ s.size) (pw2 : Hid (wrap64 ((p : Int) + 2) = ((p + 2 : Nat) : Int))) (hm : s.size ≤ 140737488355328) :
  Calls Tryz.prog 169 #[.string s, .int .i64 (p : Int), .int .i64 (e : Int)] w fun r w' => r = .returned (.tuple #[.agg #[.int .i64 A, .bool md, .int .i64 G, .int .i64 (num 0 ((s.data.toList.drop (p + 2)).take k) : Int), .int .i64 Z], .int .i64 0, .int .i64 (p : Int)]) ∧ Below w.heap.size w w' := by
 have hK : Hid (∀ j (hj : p + 2 + j < s.size), num 0 ((s.data.toList.drop (p + 2)).take (j + 1)) = num 0 ((s.data.toList.drop (p + 2)).take j) * 256 + (s[p + 2 + j]'hj).toNat) := fun j hj => num_step s (p + 2) j hj
 have hN : Hid (∀ j, j < k → num 0 ((s.data.toList.drop (p + 2)).take j) < 16777216) := fun j hj => num_small s (p + 2) j (Nat.lt_of_lt_of_le hj k4)
 have hQk' : Hid (Q = ((p + 2 + k : Nat) : Int)) := hQk
 have hks' : Hid (p + 2 + k ≤ s.size) := hks
 have k4' : Hid (k ≤ 4) := k4
 have hm' : Hid (s.size ≤ 140737488355328) := hm
 clear hQk hks k4 hm
 go_enter Tryz.func169, Tryz.ntmps169
 go_upto_region 18 with fail
 clear hwt hwl hX hZ
 replace pw2 := pw2.out
 go_wp2_with fail
 go_loopw [12] (fun iv wr => ∃ (j : Nat), j ≤ k ∧ iv = .int .i64 ((p + 2 + j : Nat) : Int) ∧ Hid (Cells wr (w.heap.size + 1) [.int .i64 A, .bool md, .int .i64 G, .int .i64 (num 0 ((s.data.toList.drop (p + 2)).take j) : Int), .int .i64 Z]) ∧ Hid (Cells wr w.heap.size hdZ) ∧ Below w.heap.size w wr ∧ w.heap.size + 1 < wr.heap.size) (fun iv _ => p + 2 + k - (intOf iv).toNat)
 case atStart =>
  refine ⟨0, Nat.zero_le _, by go_num, ?_, ?_, ?_, ?_⟩
  ·unfold Hid
   intro j hj
   have : j = 0 ∨ j = 1 ∨ j = 2 ∨ j = 3 ∨ j = 4 := by simp at hj; omega
   rcases this with rfl | rfl | rfl | rfl | rfl <;> simp [go_sem, num]
  ·unfold Hid
   intro j hj
   have : j = 0 ∨ j = 1 ∨ j = 2 ∨ j = 3 ∨ j = 4 := by simp [hdZ] at hj; omega
   rcases this with rfl | rfl | rfl | rfl | rfl <;> simp [go_sem, hdZ]
  ·repeat' first | exact Below.refl _ _ | refine Below.setCell ?_ (by simp) _ | refine Below.alloc ?_ (by simp) _ | refine Below.alloc ?_ (by simp; omega) _
  ·simp
 case round =>
  obtain ⟨j, hj, rfl, hcs, hrs, HB, hsz⟩ := hrel
  have b0 : wr.cell? ⟨w.heap.size + 1, 0, none⟩ = some (.int .i64 A) := (hcs.out 0 (by simp)).1
  have b1 : wr.cell? ⟨w.heap.size + 1, 1, none⟩ = some (.bool md) := (hcs.out 1 (by simp)).1
  have b2 : wr.cell? ⟨w.heap.size + 1, 2, none⟩ = some (.int .i64 G) := (hcs.out 2 (by simp)).1
  have b3 : wr.cell? ⟨w.heap.size + 1, 3, none⟩ = some (.int .i64 (num 0 ((s.data.toList.drop (p + 2)).take j) : Int)) := (hcs.out 3 (by simp)).1
  have b4 : wr.cell? ⟨w.heap.size + 1, 4, none⟩ = some (.int .i64 Z) := (hcs.out 4 (by simp)).1
  have z3 : wr.frozen? ⟨w.heap.size + 1, 3, none⟩ = false := (hcs.out 3 (by simp)).2
  by_cases hlt : j < k
  ·have hn := hN.out j hlt
   have hjs : p + 2 + j < s.size := Nat.lt_of_lt_of_le (Nat.add_lt_add_left hlt _) hks'.out
   have hst := hK.out j hjs
   have hIQ : p + 2 + j < p + 2 + k := Nat.add_lt_add_left hlt _
   have hnx : Hid (p + 2 + j + 1 = p + 2 + (j + 1)) := rfl
   generalize hI : p + 2 + j = I at *
   have d8 : decide ((I : Int) < Q) = true := decide_eq_true (by rw [hQk'.out]; exact Int.ofNat_lt.2 hIQ)
   have j0 : (0 : Int) ≤ (I : Int) := Int.natCast_nonneg _
   have j1 : (I : Int) < (s.size : Int) := Int.ofNat_lt.2 hjs
   have hjw : wrap64 ((I : Int) + 1) = ((I + 1 : Nat) : Int) := wrap_next _ (Nat.le_trans (Nat.le_of_lt hjs) hm'.out)
   obtain ⟨v, hv⟩ : ∃ v : Nat, num 0 ((s.data.toList.drop (p + 2)).take j) = v := ⟨_, rfl⟩
   rw [hv] at hst hn b3 hcs
   obtain ⟨hw1, hw2, hw3⟩ := round_nums v (s[I]'hjs).toNat hn (s[I]'hjs).toNat_lt
   have hcs3 := cast_step _ _ _ hst
   obtain ⟨B, hB⟩ : ∃ B : Int, ((s[I]'hjs).toNat : Int) = B := ⟨_, rfl⟩
   rw [hB] at hw1 hw3 hcs3
   obtain ⟨V, hV⟩ : ∃ V : Int, (v : Int) * 256 + B = V := ⟨_, rfl⟩
   rw [hV] at hw3 hcs3
   have hfin : Hid ((num 0 ((s.data.toList.drop (p + 2)).take (j + 1)) : Int) = V) := hcs3
   have hC : Hid (Cells (wr.setCell ⟨w.heap.size + 1, 3, none⟩ (.int .i64 V)) (w.heap.size + 1) [.int .i64 A, .bool md, .int .i64 G, .int .i64 V, .int .i64 Z]) := hcs.out.set 3 (by simp) _
   have hR : Hid (Cells (wr.setCell ⟨w.heap.size + 1, 3, none⟩ (.int .i64 V)) w.heap.size hdZ) := hrs.out.of_block (Below.heap_setCell _ _ _ _ (by simp))
   clear hcs3
   have hI' : Hid (p + 2 + j = I) := hI
   have hjw' : Hid (wrap64 ((I : Int) + 1) = ((I + 1 : Nat) : Int)) := hjw
   have hBs : Hid (Below w.heap.size w (wr.setCell ⟨w.heap.size + 1, 3, none⟩ (.int .i64 V)).drew) := by
    unfold Hid
    exact Below.drew (Below.setCell HB (Nat.le_succ _) _)
   have hss : Hid (w.heap.size + 1 < (wr.setCell ⟨w.heap.size + 1, 3, none⟩ (.int .i64 V)).drew.heap.size) := by
    unfold Hid
    show w.heap.size + 1 < (wr.setCell ⟨w.heap.size + 1, 3, none⟩ (.int .i64 V)).heap.size
    rw [World.size_setCell]
    exact hsz
   have hIQ' : Hid (I < p + 2 + k) := hIQ
   have hlt' : Hid (j < k) := hlt
   clear hst hn hcs hrs hv hK hN hI hIQ hlt
   go_wp2_with fail
   go_region
   all_goals (try go_wp2)
   go_roundw
   case rel => exact ⟨j + 1, hlt'.out, by rw [hjw'.out, hnx.out], by rw [hfin.out]; exact hC.out, hR.out, hBs.out, hss.out⟩
   case measure => exact meas_down (p + 2 + k) I hIQ'.out hjw'.out
  ·have hjk : j = k := Nat.le_antisymm hj (Nat.le_of_not_lt hlt)
   subst hjk
   have hQ2 := hQk'.out
   generalize hI : p + 2 + j = I at *
   have d8 : decide ((I : Int) < Q) = false := decide_eq_false (by rw [hQ2]; exact Int.lt_irrefl _)
   clear hQ2 hI
   have r0 : wr.cell? ⟨w.heap.size, 0, none⟩ = some (.int .i64 0) := (hrs.out 0 (by simp [hdZ])).1
   have r1 : wr.cell? ⟨w.heap.size, 1, none⟩ = some (.bool false) := (hrs.out 1 (by simp [hdZ])).1
   have r2 : wr.cell? ⟨w.heap.size, 2, none⟩ = some (.int .i64 0) := (hrs.out 2 (by simp [hdZ])).1
   have r3 : wr.cell? ⟨w.heap.size, 3, none⟩ = some (.int .i64 0) := (hrs.out 3 (by simp [hdZ])).1
   have r4 : wr.cell? ⟨w.heap.size, 4, none⟩ = some (.int .i64 0) := (hrs.out 4 (by simp [hdZ])).1
   have y0 : wr.frozen? ⟨w.heap.size, 0, none⟩ = false := (hrs.out 0 (by simp [hdZ])).2
   have y1 : wr.frozen? ⟨w.heap.size, 1, none⟩ = false := (hrs.out 1 (by simp [hdZ])).2
   have y2 : wr.frozen? ⟨w.heap.size, 2, none⟩ = false := (hrs.out 2 (by simp [hdZ])).2
   have y3 : wr.frozen? ⟨w.heap.size, 3, none⟩ = false := (hrs.out 3 (by simp [hdZ])).2
   have y4 : wr.frozen? ⟨w.heap.size, 4, none⟩ = false := (hrs.out 4 (by simp [hdZ])).2
   clear hcs hrs hK hN
   go_wp2_with fail
   refine bodyPost_ret_by (v := .tuple #[.agg #[.int .i64 A, .bool md, .int .i64 G, .int .i64 (num 0 ((s.data.toList.drop (p + 2)).take j) : Int), .int .i64 Z], .int .i64 0, .int .i64 (p : Int)]) ?_ rfl ⟨rfl, ?_⟩
   ·simp [results, Tryz.results169, go_sem, r0, r1, r2, r3, r4]
   ·refine Below.setCell (Below.setCell (Below.setCell (Below.setCell (Below.setCell HB ?_ _) ?_ _) ?_ _) ?_ _) ?_ _ <;> exact Nat.le_refl _
end Go.Proofs.YtkknenmpdimdbaaGreatDoor

namespace Go.Proofs.YtkknenmpdimdbaaGreatDoor
open Go.RowKit
open BerMath (Hd HR num hAt)
def refHV (b : List UInt8) (p e : Nat) : Value :=
 match hAt b p e with
 | .ok h => .tuple #[hdV h, .int .i64 0, .int .i64 (p : Int)]
 | .error (some (c, q)) => .tuple #[.agg hdZ.toArray, .int .i64 (c : Int), .int .i64 (q : Int)]
 | .error none => .tuple #[.agg hdZ.toArray, .int .i64 (-1), .int .i64 (e : Int)]
theorem w_nat (n : Nat) (h : n < 256) : wrap64 (n : Int) = (n : Int) := by unfold wrap64; omega
theorem w_p1 (p : Nat) (h : p ≤ 140737488355328) : wrap64 ((p : Int) + 1) = (p : Int) + 1 := by unfold wrap64; omega
theorem w_p2 (p : Nat) (h : p ≤ 140737488355328) : Hid (wrap64 ((p : Int) + 2) = ((p + 2 : Nat) : Int)) := by unfold Hid wrap64; omega
theorem w_X (l : Nat) (h : l < 256) : wrap64 (2 + (l : Int)) = 2 + (l : Int) := by unfold wrap64; omega
theorem w_Z (l k : Nat) (h : l = 128 + k) (h2 : l < 256) : wrap64 (2 + (l : Int) - 128) = ((k + 2 : Nat) : Int) := by unfold wrap64; omega
theorem w_Q (p k : Nat) (h : p ≤ 140737488355328) (h2 : k ≤ 4) : wrap64 ((p : Int) + ((k + 2 : Nat) : Int)) = ((p + 2 + k : Nat) : Int) := by unfold wrap64; omega
set_option maxRecDepth 100000 in
set_option maxHeartbeats 1000000 in
theorem refHeadAt_any (s : ByteArray) (p e : Nat) (w : World) (he : e ≤ s.size) (hm : s.size ≤ 140737488355328) (hp : p ≤ e) :
  Calls Tryz.prog 169 #[.string s, .int .i64 (p : Int), .int .i64 (e : Int)] w fun r w' => r = .returned (refHV s.data.toList p e) ∧ Below w.heap.size w w' := by
 have p0 : (0 : Int) ≤ (p : Int) := by omega
 have pm : (p : Int) ≤ 140737488355328 := by omega
 by_cases h1 : e ≤ p
 ·have hr : refHV s.data.toList p e = .tuple #[.agg hdZ.toArray, .int .i64 (-1), .int .i64 (e : Int)] := by unfold refHV hAt; rw [if_pos h1]
  rw [hr]
  clear hr hp he hm
  go_enter Tryz.func169, Tryz.ntmps169
  go_wp2_with fail
  refine bodyPost_ret_by (v := .tuple #[.agg hdZ.toArray, .int .i64 (-1), .int .i64 (e : Int)]) ?_ rfl ⟨rfl, ?_⟩
  ·simp [results, Tryz.results169, go_sem, hdZ]
  ·repeat' first | exact Below.refl _ _ | refine Below.setCell ?_ (by simp) _ | refine Below.alloc ?_ (by simp) _ | refine Below.alloc ?_ (by simp; omega) _
 have hps : p < s.size := by omega
 have g0 : Hid (s.data.toList.getD p 0 = s[p]) := getD_s s p hps
 have p1 : (p : Int) < (s.size : Int) := by omega
 obtain ⟨t, ht⟩ : ∃ t, Hid (s[p].toNat = t) := ⟨_, by unfold Hid; rfl⟩
 have ht256 : t < 256 := by rw [← ht.out]; exact s[p].toNat_lt
 have hwt : Hid (wrap64 (s[p].toNat : Int) = (t : Int)) := by unfold Hid; rw [ht.out]; unfold wrap64; omega
 have t0 : (0 : Int) ≤ (t : Int) := by omega
 have t1 : (t : Int) < 256 := by omega
 have ht32 : (t : Int).tmod 32 = ((t % 32 : Nat) : Int) := by rw [Int.tmod_eq_emod_of_nonneg t0]; omega
 by_cases h2 : t % 32 = 31
 ·have hr : refHV s.data.toList p e = .tuple #[.agg hdZ.toArray, .int .i64 21, .int .i64 (p : Int)] := by unfold refHV hAt; rw [if_neg h1, g0.out, ht.out, if_pos h2]; rfl
  rw [hr]
  have d2 : (((t % 32 : Nat) : Int) == 31) = true := by rw [beq_iff_eq]; omega
  clear hr hp he hm h2 ht
  replace hwt := hwt.out
  go_enter Tryz.func169, Tryz.ntmps169
  go_wp2_with fail
  refine bodyPost_ret_by (v := .tuple #[.agg hdZ.toArray, .int .i64 21, .int .i64 (p : Int)]) ?_ rfl ⟨rfl, ?_⟩
  ·simp [results, Tryz.results169, go_sem, hdZ]
  ·repeat' first | exact Below.refl _ _ | refine Below.setCell ?_ (by simp) _ | refine Below.alloc ?_ (by simp) _ | refine Below.alloc ?_ (by simp; omega) _
 have d2 : (((t % 32 : Nat) : Int) == 31) = false := by rw [beq_eq_false_iff_ne]; omega
 by_cases h3 : e ≤ p + 1
 ·have hr : refHV s.data.toList p e = .tuple #[.agg hdZ.toArray, .int .i64 (-1), .int .i64 (e : Int)] := by unfold refHV hAt; rw [if_neg h1, g0.out, ht.out, if_neg h2, if_pos h3]
  rw [hr]
  have d3 : decide ((e : Int) ≤ (p : Int) + 1) = true := decide_eq_true (by omega)
  clear hr hp he hm h2 h3 ht
  replace hwt := hwt.out
  go_enter Tryz.func169, Tryz.ntmps169
  go_wp2_with fail
  refine bodyPost_ret_by (v := .tuple #[.agg hdZ.toArray, .int .i64 (-1), .int .i64 (e : Int)]) ?_ rfl ⟨rfl, ?_⟩
  ·simp [results, Tryz.results169, go_sem, hdZ]
  ·repeat' first | exact Below.refl _ _ | refine Below.setCell ?_ (by simp) _ | refine Below.alloc ?_ (by simp) _ | refine Below.alloc ?_ (by simp; omega) _
 have d3 : decide ((e : Int) ≤ (p : Int) + 1) = false := decide_eq_false (by omega)
 have hqs : p + 1 < s.size := by omega
 have g1 : Hid (s.data.toList.getD (p + 1) 0 = s[p + 1]) := getD_s s (p + 1) hqs
 have q1 : (p : Int) + 1 < (s.size : Int) := by omega
 have pp1 : ((p + 1 : Nat) : Int) = (p : Int) + 1 := by omega
 obtain ⟨l, hl⟩ : ∃ l, Hid (s[p + 1].toNat = l) := ⟨_, by unfold Hid; rfl⟩
 have hl256 : l < 256 := by rw [← hl.out]; exact s[p + 1].toNat_lt
 have hwl : Hid (wrap64 (s[p + 1].toNat : Int) = (l : Int)) := by unfold Hid; rw [hl.out]; unfold wrap64; omega
 have l0 : (0 : Int) ≤ (l : Int) := by omega
 have l1 : (l : Int) < 256 := by omega
 by_cases h4 : l = 128
 ·have hr : refHV s.data.toList p e = .tuple #[.agg hdZ.toArray, .int .i64 ((22 : Nat) : Int), .int .i64 ((p + 1 : Nat) : Int)] := by unfold refHV hAt; rw [if_neg h1, g0.out, ht.out, if_neg h2, if_neg h3, g1.out, hl.out, if_pos h4]
  rw [hr, pp1]
  have d4 : ((l : Int) == 128) = true := by rw [beq_iff_eq]; omega
  clear hr hp he hm h2 h3 h4 ht hl
  replace hwt := hwt.out
  replace hwl := hwl.out
  go_enter Tryz.func169, Tryz.ntmps169
  go_wp2_with fail
  refine bodyPost_ret_by (v := .tuple #[.agg hdZ.toArray, .int .i64 ((22 : Nat) : Int), .int .i64 ((p : Int) + 1)]) ?_ rfl ⟨rfl, ?_⟩
  ·simp [results, Tryz.results169, go_sem, hdZ]
  ·repeat' first | exact Below.refl _ _ | refine Below.setCell ?_ (by simp) _ | refine Below.alloc ?_ (by simp) _ | refine Below.alloc ?_ (by simp; omega) _
 have d4 : ((l : Int) == 128) = false := by rw [beq_eq_false_iff_ne]; omega
 by_cases h5 : 132 < l
 ·have hr : refHV s.data.toList p e = .tuple #[.agg hdZ.toArray, .int .i64 ((23 : Nat) : Int), .int .i64 ((p + 1 : Nat) : Int)] := by unfold refHV hAt; rw [if_neg h1, g0.out, ht.out, if_neg h2, if_neg h3, g1.out, hl.out, if_neg h4, if_pos h5]
  rw [hr, pp1]
  have d5 : decide ((132 : Int) < (l : Int)) = true := decide_eq_true (by omega)
  clear hr hp he hm h2 h3 h4 h5 ht hl
  replace hwt := hwt.out
  replace hwl := hwl.out
  go_enter Tryz.func169, Tryz.ntmps169
  go_wp2_with fail
  refine bodyPost_ret_by (v := .tuple #[.agg hdZ.toArray, .int .i64 ((23 : Nat) : Int), .int .i64 ((p : Int) + 1)]) ?_ rfl ⟨rfl, ?_⟩
  ·simp [results, Tryz.results169, go_sem, hdZ]
  ·repeat' first | exact Below.refl _ _ | refine Below.setCell ?_ (by simp) _ | refine Below.alloc ?_ (by simp) _ | refine Below.alloc ?_ (by simp; omega) _
 have d5 : decide ((132 : Int) < (l : Int)) = false := decide_eq_false (by omega)
 have ht64 : (t : Int).tdiv 64 = ((t / 64 : Nat) : Int) := by rw [Int.tdiv_eq_ediv_of_nonneg t0]; omega
 have htd : (t : Int).tdiv 32 = ((t / 32 : Nat) : Int) := by rw [Int.tdiv_eq_ediv_of_nonneg t0]; omega
 have htm : ((t / 32 : Nat) : Int).tmod 2 = ((t / 32 % 2 : Nat) : Int) := by rw [Int.tmod_eq_emod_of_nonneg (by omega)]; omega
 obtain ⟨md, hmd⟩ : ∃ md : Bool, (((t / 32 % 2 : Nat) : Int) == 1) = md := ⟨_, rfl⟩
 have hmd' : Hid (decide (t / 32 % 2 = 1) = md) := by
  unfold Hid
  rw [← hmd]
  rcases Nat.mod_two_eq_zero_or_one (t / 32) with h | h <;> rw [h] <;> rfl
 have hpm : p ≤ 140737488355328 := by omega
 have ht6 : t / 64 < 256 := by omega
 have ht3 : t / 32 < 256 := by omega
 by_cases h6 : l < 128
 ·have hr : refHV s.data.toList p e = .tuple #[.agg #[.int .i64 ((t / 64 : Nat) : Int), .bool md, .int .i64 ((t % 32 : Nat) : Int), .int .i64 (l : Int), .int .i64 2], .int .i64 0, .int .i64 (p : Int)] := by
   unfold refHV hAt; rw [if_neg h1, g0.out, ht.out, if_neg h2, if_neg h3, g1.out, hl.out, if_neg h4, if_neg h5, if_pos h6, hmd'.out]; rfl
  rw [hr]
  have d6 : decide ((128 : Int) < (l : Int)) = false := decide_eq_false (by omega)
  exact refHead_short s p e w _ _ _ _ _ _ md h1 p0 p1 hps hwt.out ht32 d2 (w_p1 p hpm) d3 hqs q1 hwl.out d4 d5 d6 ht64 (w_nat _ ht6) htd (w_nat _ ht3) htm hmd
 have d6 : decide ((128 : Int) < (l : Int)) = true := decide_eq_true (by omega)
 obtain ⟨k, hk⟩ : ∃ k, l = 128 + k := ⟨l - 128, by omega⟩
 have e1 : l - 126 = k + 2 := by omega
 have e2 : l - 128 = k := by omega
 have hk4 : k ≤ 4 := by omega
 have hks : p + (k + 2) ≤ e → p + 2 + k ≤ s.size := by omega
 have d7 : e < p + (k + 2) → decide ((e : Int) < ((p + 2 + k : Nat) : Int)) = true := fun h => decide_eq_true (by omega)
 have d7' : p + (k + 2) ≤ e → decide ((e : Int) < ((p + 2 + k : Nat) : Int)) = false := fun h => decide_eq_false (by omega)
 by_cases h7 : e < p + (k + 2)
 ·have hr : refHV s.data.toList p e = .tuple #[.agg hdZ.toArray, .int .i64 (-1), .int .i64 (e : Int)] := by
   unfold refHV hAt; rw [if_neg h1, g0.out, ht.out, if_neg h2, if_neg h3, g1.out, hl.out, if_neg h4, if_neg h5, if_neg h6, e1, if_pos h7]
  rw [hr]
  exact refHead_cut s p e w _ _ _ _ _ _ _ _ _ md h1 p0 p1 hps hwt.out ht32 d2 (w_p1 p hpm) d3 hqs q1 hwl.out d4 d5 d6 ht64 (w_nat _ ht6) htd (w_nat _ ht3) htm hmd (w_X l hl256) (w_Z l k hk hl256) (w_Q p k hpm hk4) (d7 h7)
 ·have hr : refHV s.data.toList p e = .tuple #[.agg #[.int .i64 ((t / 64 : Nat) : Int), .bool md, .int .i64 ((t % 32 : Nat) : Int), .int .i64 (num 0 ((s.data.toList.drop (p + 2)).take k) : Int), .int .i64 ((k + 2 : Nat) : Int)], .int .i64 0, .int .i64 (p : Int)] := by
   unfold refHV hAt; rw [if_neg h1, g0.out, ht.out, if_neg h2, if_neg h3, g1.out, hl.out, if_neg h4, if_neg h5, if_neg h6, e1, if_neg h7, e2, hmd'.out]; rfl
  rw [hr]
  exact refHead_long s p e w _ _ _ _ _ _ _ _ _ md h1 p0 p1 hps hwt.out ht32 d2 (w_p1 p hpm) d3 hqs q1 hwl.out d4 d5 d6 ht64 (w_nat _ ht6) htd (w_nat _ ht3) htm hmd (w_X l hl256) (w_Z l k hk hl256) (w_Q p k hpm hk4) (d7' (Nat.le_of_not_lt h7)) k hk4 rfl (hks (Nat.le_of_not_lt h7)) (w_p2 p hpm) hm
end Go.Proofs.YtkknenmpdimdbaaGreatDoor
