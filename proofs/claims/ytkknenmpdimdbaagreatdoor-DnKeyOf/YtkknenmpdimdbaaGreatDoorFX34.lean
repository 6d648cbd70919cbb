import Derived.Test.YtkknenmpdimdbaaGreatDoorFX32
import Derived.Test.YtkknenmpdimdbaaGreatDoorRows
import Derived.Laws.BitsLemmas
import Derived.Test.YtkknenmpdimdbaaGreatDoorBytes
import Derived.Deep.AppendLies
import Derived.Great.BuildSlice
import Derived.BigQuiet
import Derived.KernelRfl
import Derived.Test.YtkknenmpdimdbaaGreatDoorFX28
namespace Go.Proofs.YtkknenmpdimdbaaGreatDoor
open Go.RowKit
open BerMath (Hd HR num hAt wAt El TR elEnd endE one andThen kids)
set_option linter.unusedVariables false
namespace BrM
def rs (b : List UInt8) (N : Nat) : List Nat → Nat → TR
 | [], _ => ([], none)
 | e :: st, p => andThen (kids b N e p (st.length + 2)) (fun _ => rs b N st e)
def Srt : Nat → List Nat → Prop
 | _, [] => True
 | p, e :: st => p ≤ e ∧ Srt e st
def Inv (s : ByteArray) (l : List El) (st : List Nat) (p : Nat) : Prop :=
 l ≠ [] ∧ tr s = (l ++ (rs s.data.toList s.size st p).1, (rs s.data.toList s.size st p).2) ∧ (st.head? = some (lastE l) ∨ p = lastE l) ∧ Srt p st ∧ (∀ e ∈ st, e ≤ s.size ∧ e ≤ 4294967301) ∧ st.length ≤ 64 ∧ 2 * l.length ≤ p ∧ p ≤ s.size ∧ p ≤ 4294967301
theorem andThen_nil (r : TR) : andThen r (fun _ => ([], none)) = r := by
 obtain ⟨xs, o⟩ := r
 cases o <;> simp [andThen]
theorem rs_pop (b : List UInt8) (N e : Nat) (st : List Nat) : rs b N (e :: st) e = rs b N st e := by
 show andThen (kids b N e e _) _ = _
 rw [BerMath.kids_end _ _ _ _ _ (Nat.le_refl _)]
 unfold andThen
 simp
theorem Inv.pop {s : ByteArray} {l : List El} {e : Nat} {st : List Nat} (h : Inv s l (e :: st) e) : Inv s l st e := by
 obtain ⟨h1, h2, h3, h4, h5, h6, h7, h8, h9⟩ := h
 rw [rs_pop] at h2
 refine ⟨h1, h2, Or.inr ?_, h4.2, fun x hx => h5 x (List.mem_cons_of_mem _ hx), by simp at h6; omega, h7, h8, h9⟩
 rcases h3 with h3 | h3
 ·simpa using h3
 ·exact h3
theorem Inv.done {s : ByteArray} {l : List El} {p : Nat} (h : Inv s l [] p) : tr s = (l, none) ∧ p = lastE l := by
 obtain ⟨h1, h2, h3, _⟩ := h
 refine ⟨?_, ?_⟩
 ·rw [h2]
  show (l ++ [], none) = _
  rw [List.append_nil]
 ·rcases h3 with h3 | h3
  ·simp at h3
  ·exact h3
theorem lastE_app (l : List El) (x : El) : lastE (l ++ [x]) = elEnd x := lastE_snoc l x
theorem rs_fail {b : List UInt8} {N e p : Nat} {st : List Nat} {f : Nat × Nat} (hp : p < e) (hN : e ≤ N) (ho : ∀ K, one b K 26 e p (st.length + 2) = ([], some f)) : rs b N (e :: st) p = ([], some f) := by
 obtain ⟨n, rfl⟩ : ∃ n, N = n + 1 := ⟨N - 1, by omega⟩
 show andThen (kids b (n + 1) e p _) _ = _
 rw [BerMath.kids_succ _ _ _ _ _ (by omega), ho]
 rfl
theorem rs_leaf {b : List UInt8} {N e p : Nat} {st : List Nat} {x : Hd} (hp : p < e) (hN : e ≤ N) (hd : ¬ 64 < st.length + 2) (hw : wAt b p e = .ok x) (hm : ¬ x.made = true) : rs b N (e :: st) p = ((p, x, st.length + 2) :: (rs b N ((p + x.size + x.len) :: e :: st) (p + x.size + x.len)).1, (rs b N ((p + x.size + x.len) :: e :: st) (p + x.size + x.len)).2) := by
 obtain ⟨k1, k2, k3, k4, k5, k6⟩ := BerMath.wAt_ok b p e x hw
 rw [rs_pop]
 obtain ⟨n, rfl⟩ : ∃ n, N = n + 1 := ⟨N - 1, by omega⟩
 show andThen (kids b (n + 1) e p _) _ = _
 rw [BerMath.kids_succ _ _ _ _ _ (by omega), BerMath.one_leaf _ _ _ _ _ _ x hd hw hm]
 show andThen (andThen ([(p, x, st.length + 2)], none) (fun xs => kids b n e (endE xs) (st.length + 2))) _ = (_ :: (andThen (kids b (n + 1) e (p + x.size + x.len) (st.length + 2)) _).1, (andThen (kids b (n + 1) e (p + x.size + x.len) (st.length + 2)) _).2)
 rw [← BerMath.kids_fuel b n (n + 1) e (p + x.size + x.len) (st.length + 2) (by omega) (by omega)]
 show andThen ([(p, x, st.length + 2)] ++ (kids b n e (p + x.size + x.len) (st.length + 2)).1, (kids b n e (p + x.size + x.len) (st.length + 2)).2) _ = _
 obtain ⟨⟨ys, o⟩, hr⟩ : ∃ y, kids b n e (p + x.size + x.len) (st.length + 2) = y := ⟨_, rfl⟩
 rw [hr]
 cases o <;> simp [andThen]
theorem rs_made {b : List UInt8} {N e p : Nat} {st : List Nat} {x : Hd} (hp : p < e) (hN : e ≤ N) (hd : ¬ 64 < st.length + 2) (hw : wAt b p e = .ok x) (hm : x.made = true) : rs b N (e :: st) p = ((p, x, st.length + 2) :: (rs b N ((p + x.size + x.len) :: e :: st) (p + x.size)).1, (rs b N ((p + x.size + x.len) :: e :: st) (p + x.size)).2) := by
 obtain ⟨k1, k2, k3, k4, k5, k6⟩ := BerMath.wAt_ok b p e x hw
 obtain ⟨n, rfl⟩ : ∃ n, N = n + 1 := ⟨N - 1, by omega⟩
 have hR : rs b (n + 1) ((p + x.size + x.len) :: e :: st) (p + x.size) = andThen (kids b n (p + x.size + x.len) (p + x.size) (st.length + 2 + 1)) (fun _ => andThen (kids b n e (p + x.size + x.len) (st.length + 2)) (fun _ => rs b (n + 1) st e)) := by
  show andThen (kids b (n + 1) (p + x.size + x.len) (p + x.size) (st.length + 1 + 2)) (fun _ => andThen (kids b (n + 1) e (p + x.size + x.len) (st.length + 2)) _) = _
  rw [BerMath.kids_fuel b (n + 1) n e (p + x.size + x.len) _ (by omega) (by omega), BerMath.kids_fuel b (n + 1) n (p + x.size + x.len) (p + x.size) _ (by omega) (by omega)]
 rw [hR]
 show andThen (kids b (n + 1) e p _) _ = _
 rw [BerMath.kids_succ _ _ _ _ _ (by omega), BerMath.one_made _ _ _ _ _ _ x hd hw hm]
 obtain ⟨⟨ys, o⟩, hr⟩ : ∃ y, kids b n (p + x.size + x.len) (p + x.size) (st.length + 2 + 1) = y := ⟨_, rfl⟩
 rw [hr]
 cases o with
 | some f => rfl
 | none =>
  show andThen (((p, x, st.length + 2) :: ys) ++ (kids b n e (p + x.size + x.len) (st.length + 2)).1, (kids b n e (p + x.size + x.len) (st.length + 2)).2) _ = _
  obtain ⟨⟨zs, o⟩, hz⟩ : ∃ y, kids b n e (p + x.size + x.len) (st.length + 2) = y := ⟨_, rfl⟩
  rw [hz]
  cases o <;> simp [andThen]
theorem Inv.step {s : ByteArray} {l : List El} {e p : Nat} {st : List Nat} {x : Hd} (h : Inv s l (e :: st) p) (hp : p < e) (hd : ¬ 64 < st.length + 2) (hw : wAt s.data.toList p e = .ok x) :
  Inv s (l ++ [(p, x, st.length + 2)]) ((p + x.size + x.len) :: e :: st) (if x.made = true then p + x.size else p + x.size + x.len) := by
 obtain ⟨h1, h2, h3, h4, h5, h6, h7, h8, h9⟩ := h
 obtain ⟨k1, k2, k3, k4, k5, k6⟩ := BerMath.wAt_ok _ p e x hw
 have he := h5 e (List.mem_cons_self ..)
 refine ⟨by simp, ?_, Or.inl ?_, ?_, ?_, ?_, ?_, ?_, ?_⟩
 ·by_cases hm : x.made = true
  ·rw [if_pos hm, h2, rs_made hp he.1 hd hw hm, List.append_assoc]
   rfl
  ·rw [if_neg hm, h2, rs_leaf hp he.1 hd hw hm, List.append_assoc]
   rfl
 ·rw [lastE_app]
  rfl
 ·refine ⟨?_, k6, h4.2⟩
  split <;> omega
 ·intro y hy
  rcases List.mem_cons.1 hy with rfl | hy
  ·omega
  ·exact h5 y hy
 ·simp only [List.length_cons]
  omega
 ·rw [List.length_append]
  simp only [List.length_cons, List.length_nil]
  split <;> omega
 ·split <;> omega
 ·split <;> omega
theorem Inv.start {s : ByteArray} {x : Hd} (hw : wAt s.data.toList 0 s.size = .ok x) :
  Inv s [(0, x, 1)] [0 + x.size + x.len] (if x.made = true then 0 + x.size else 0 + x.size + x.len) := by
 obtain ⟨k1, k2, k3, k4, k5, k6⟩ := BerMath.wAt_ok _ 0 _ x hw
 refine ⟨by simp, ?_, Or.inl ?_, ?_, ?_, ?_, ?_, ?_, ?_⟩
 ·unfold tr
  by_cases hm : x.made = true
  ·rw [if_pos hm, BerMath.one_made _ _ _ _ _ _ x (by decide) hw hm]
   show _ = ([_] ++ (andThen (kids _ _ _ _ 2) (fun _ => ([], none))).1, (andThen (kids _ _ _ _ 2) (fun _ => ([], none))).2)
   rw [andThen_nil]
   rfl
  ·rw [if_neg hm, BerMath.one_leaf _ _ _ _ _ _ x (by decide) hw hm, rs_pop]
   rfl
 ·rfl
 ·refine ⟨?_, trivial⟩
  split <;> omega
 ·intro y hy
  rcases List.mem_cons.1 hy with rfl | hy
  ·omega
  ·simp at hy
 ·simp
 ·simp only [List.length_cons, List.length_nil]
  split <;> omega
 ·split <;> omega
 ·split <;> omega
theorem Inv.fail {s : ByteArray} {l : List El} {e p : Nat} {st : List Nat} {f : Nat × Nat} (h : Inv s l (e :: st) p) (hp : p < e) (ho : ∀ K, one s.data.toList K 26 e p (st.length + 2) = ([], some f)) : tr s = (l, some f) := by
 obtain ⟨h1, h2, h3, h4, h5, h6, h7, h8, h9⟩ := h
 rw [h2, rs_fail hp (h5 e (List.mem_cons_self ..)).1 ho]
 simp
end BrM
end Go.Proofs.YtkknenmpdimdbaaGreatDoor

namespace Go.Proofs.YtkknenmpdimdbaaGreatDoor
namespace BnI
open Go.RowKit Go.Lib
set_option linter.unusedVariables false
set_option maxRecDepth 100000
theorem add_off (b o j : Nat) : (⟨b, o, none⟩ : Addr).add j = ⟨b, o + j, none⟩ := by
 unfold Addr.add
 by_cases h : j = 0
 ·subst h; rfl
 ·simp [h]
def iv (l : List Int) : List Value := l.map (Value.int .i64)
theorem iv_len (l : List Int) : (iv l).length = l.length := by simp [iv]
theorem iv_app (l k : List Int) : iv (l ++ k) = iv l ++ iv k := by simp [iv]
theorem iv_one (l : List Int) : ∀ u ∈ iv l, u.oneCell' = true := by
 intro u hu
 simp only [iv, List.mem_map] at hu
 obtain ⟨b, _, rfl⟩ := hu
 rfl
theorem info_i64 : (Tryz.prog.info? 3).map (fun i => (i.zero, i.size, i.bytes)) = some (some (.int .i64 0), 1, 8) := by kernel_rfl
def OwnI (W : World) (B : Nat) (v : Value) (l : List Int) : Prop := W.ownsRow B 3 1 v l.length (iv l)
theorem ownI_nil (W : World) (B : Nat) : OwnI W B (.slice none 0 0) [] := ⟨rfl, Or.inl ⟨rfl, rfl⟩⟩
theorem ownI_form {w : World} {B : Nat} {v : Value} {l : List Int} (h : OwnI w B v l) : (v = .slice none 0 0 ∧ l = []) ∨ (∃ g cap, v = .slice (some ⟨g, 0, none⟩) l.length cap ∧ l.length ≤ cap ∧ cap ≤ maxLen ∧ g < w.heap.size ∧ B ≤ g) := by
 have hl := h.1
 rcases h.2 with ⟨rfl, hn⟩ | ⟨g, cap, cur, rfl, h3, h4, h5, h6, _⟩
 ·exact Or.inl ⟨rfl, List.eq_nil_of_length_eq_zero hn⟩
 ·exact Or.inr ⟨g, cap, rfl, h5, h6, (Array.getElem?_eq_some_iff.1 h4).1, h3⟩
theorem ownI_cell {w : World} {B g cap : Nat} {l : List Int} (h : OwnI w B (.slice (some ⟨g, 0, none⟩) l.length cap) l) (i : Nat) (hi : i < l.length) : w.cell? ⟨g, i, none⟩ = some (.int .i64 l[i]) := by
 have hc := World.ownsRow.cellAt (show w.ownsRow B 3 1 _ l.length (iv l) from h) i (by omega)
 rw [hc]
 simp [iv, hi]
def NRow (w : World) (a : Option Addr) (l : List Int) : Prop := ∀ i (hi : i < l.length), ∃ b off, a = some ⟨b, off, none⟩ ∧ w.cell? ⟨b, off + i, none⟩ = some (.int .i64 l[i])
theorem NRow.below {w w' : World} {a : Option Addr} {l : List Int} (h : NRow w a l) (hb : Below w.heap.size w w') : NRow w' a l := fun i hi => by
 obtain ⟨b, off, e, h1⟩ := h i hi
 refine ⟨b, off, e, ?_⟩
 rw [hb.cell (World.block_lt_of_cell? w _ h1)]
 exact h1
theorem NRow.drewN {w : World} {a : Option Addr} {l : List Int} (h : NRow w a l) (k : Nat) : NRow (w.drewN k) a l := fun i hi => by
 obtain ⟨b, off, e, h1⟩ := h i hi
 exact ⟨b, off, e, h1⟩
theorem NRow.nil (w : World) (a : Option Addr) : NRow w a [] := fun i hi => by simp at hi
theorem ownI_row {w : World} {B n c : Nat} {a : Option Addr} {l : List Int} (h : OwnI w B (.slice a n c) l) : NRow w a l ∧ n = l.length := by
 rcases ownI_form h with ⟨h1, rfl⟩ | ⟨g, cap, h1, _⟩
 ·injection h1 with h1 h2
  exact ⟨NRow.nil _ _, h2⟩
 ·injection h1 with h1 h2 h3
  subst h1 h2 h3
  exact ⟨fun i hi => ⟨g, 0, rfl, by rw [Nat.zero_add]; exact ownI_cell h i hi⟩, rfl⟩
theorem ownI_slice {w : World} {B : Nat} {v : Value} {l : List Int} (h : OwnI w B v l) : ∃ a n c, v = .slice a n c := by
 rcases ownI_form h with ⟨h1, _⟩ | ⟨g, cap, h1, _⟩
 ·exact ⟨_, _, _, h1⟩
 ·exact ⟨_, _, _, h1⟩
end BnI
end Go.Proofs.YtkknenmpdimdbaaGreatDoor

namespace Go.Proofs.YtkknenmpdimdbaaGreatDoor
open Go.RowKit BnI
open BerMath (Hd HR num hAt wAt El TR elEnd endE one andThen kids)
set_option linter.unusedVariables false
set_option maxRecDepth 100000
namespace BrM
def plV (x : El) : List Value := [.int .i64 (x.1 : Int), .int .i64 (x.2.1.cls : Int), .bool x.2.1.made, .int .i64 (x.2.1.tag : Int), .int .i64 (x.2.1.len : Int), .int .i64 (x.2.1.size : Int)]
def pv (l : List El) : List Value := l.flatMap plV
theorem pv_snoc (l : List El) (e : El) : pv (l ++ [e]) = pv l ++ plV e := by simp [pv]
theorem plV_one (e : El) : ∀ u ∈ plV e, u.oneCell' = true := by
 intro u hu
 simp [plV] at hu
 rcases hu with rfl | rfl | rfl | rfl | rfl | rfl <;> rfl
theorem info_place : (Tryz.prog.info? 207).map (fun i => (i.zero, i.size, i.bytes)) = some (some (.agg #[.int .i64 0, .int .i64 0, .bool false, .int .i64 0, .int .i64 0, .int .i64 0]), 6, 48) := by kernel_rfl
def OwnP (W : World) (B : Nat) (v : Value) (l : List El) : Prop := W.ownsRow B 207 6 v l.length (pv l)
theorem ownP_nil (W : World) (B : Nat) : OwnP W B (.slice none 0 0) [] := ⟨rfl, Or.inl ⟨rfl, rfl⟩⟩
theorem own_below {w w' : World} {B : Nat} {t : TypeId} {k : Nat} {v : Value} {n : Nat} {xs : List Value} (h : w.ownsRow B t k v n xs) (hb : Below w.heap.size w w') : w'.ownsRow B t k v n xs := by
 rcases h with ⟨h1, ⟨rfl, h2⟩ | ⟨g, cap, cur, rfl, h3, h4, h5⟩⟩
 ·exact ⟨h1, Or.inl ⟨rfl, h2⟩⟩
 ·have hg : g < w.heap.size := (Array.getElem?_eq_some_iff.1 h4).1
  exact ⟨h1, Or.inr ⟨g, cap, cur, rfl, h3, by rw [hb.block g hg]; exact h4, h5⟩⟩
theorem own_ne {w : World} {B B' : Nat} {t t' : TypeId} {k k' : Nat} {v u : Value} {n n' : Nat} {xs ys : List Value} (h : w.ownsRow B t k v n xs) (h' : w.ownsRow B' t' k' u n' ys) (ht : t ≠ t') : v.ownBlock = none ∨ v.ownBlock ≠ u.ownBlock := by
 rcases h.2 with ⟨rfl, _⟩ | ⟨g, cap, cur, rfl, _, hg, _⟩
 ·exact Or.inl rfl
 ·refine Or.inr (fun e => ?_)
  rcases h'.2 with ⟨rfl, _⟩ | ⟨g', cap', cur', rfl, _, hg', _⟩
  ·simp [Value.ownBlock] at e
  ·simp [Value.ownBlock] at e
   subst e
   rw [hg] at hg'
   injection hg' with hg'
   injection hg' with _ hg'
   exact ht hg'
theorem own_far {w : World} {B : Nat} {t t' : TypeId} {k : Nat} {v : Value} {n : Nat} {xs : List Value} {g : Nat} {cur : Array Value} {z} (h : w.ownsRow B t k v n xs) (hg : w.heap[g]? = some (.cells cur t' z)) (ht : t ≠ t') : some g ≠ v.ownBlock := by
 rcases h.2 with ⟨rfl, _⟩ | ⟨g', cap', cur', rfl, _, hg', _⟩
 ·simp [Value.ownBlock]
 ·intro e
  simp [Value.ownBlock] at e
  subst e
  rw [hg] at hg'
  injection hg' with hg'
  injection hg' with _ hg'
  exact ht hg'.symm
theorem dis_symm {v u : Value} (h : v.ownBlock = none ∨ v.ownBlock ≠ u.ownBlock) : u.ownBlock = none ∨ u.ownBlock ≠ v.ownBlock := by
 rcases h with h | h
 ·cases hu : u.ownBlock with
  | none => exact Or.inl rfl
  | some x => rw [h]; exact Or.inr (by simp)
 ·exact Or.inr (fun e => h e.symm)
theorem appendP_one (w : World) (B : Nat) (v : Value) (l : List El) (e : El) (g : Nat) (hown : OwnP w B v l) (hg : w.heap[g]? = some (.cells (plV e).toArray 207 (0, 0))) (hB : B ≤ w.heap.size) (hl : l.length ≤ 4294967296) :
  ∃ g' cap w', (Builtin.append_ #[201, 201] 201 #[v, .slice (some ⟨g, 0, none⟩) 1 1]).run Tryz.prog w = .ok (.slice (some ⟨g', 0, none⟩) (l.length + 1) cap) w' ∧ OwnP w' B (.slice (some ⟨g', 0, none⟩) (l.length + 1) cap) (l ++ [e]) ∧ w.grownBy w' v.ownBlock := by
 obtain ⟨i0, hi, hz0, hz1, hz2⟩ := info_parts info_place
 obtain ⟨g', cap, w', hr, h2, h3, _, _⟩ := run_append_lies (P := Tryz.prog) w 201 201 B 207 i0 _ 6 48 Tryz.underlying201 hi hz0 hz1 hz2 rfl (by decide) v l.length (pv l) hown ⟨g, 0, none⟩ 1 1 (plV e) rfl (World.news_of_block hg) (plV_one e) (by decide) (by unfold maxLen; omega) (by omega) hB w.heap.size rfl
 refine ⟨g', cap, w', hr, ?_, h3⟩
 unfold OwnP
 rw [pv_snoc, List.length_append]
 exact h2
theorem appendI_one (w : World) (B : Nat) (v : Value) (l : List Int) (x : Int) (g : Nat) (hown : OwnI w B v l) (hg : w.heap[g]? = some (.cells #[.int .i64 x] 3 (0, 0))) (hB : B ≤ w.heap.size) (hl : l.length ≤ 4294967296) :
  ∃ g' cap w', (Builtin.append_ #[24, 24] 24 #[v, .slice (some ⟨g, 0, none⟩) 1 1]).run Tryz.prog w = .ok (.slice (some ⟨g', 0, none⟩) (l.length + 1) cap) w' ∧ OwnI w' B (.slice (some ⟨g', 0, none⟩) (l.length + 1) cap) (l ++ [x]) ∧ w.grownBy w' v.ownBlock ∧ (v.ownBlock = some g' ∨ g' = w.heap.size) := by
 obtain ⟨i0, hi, hz0, hz1, hz2⟩ := info_parts info_i64
 obtain ⟨g', cap, w', hr, h2, h3, h4, _⟩ := run_append_lies (P := Tryz.prog) w 24 24 B 3 i0 _ 1 8 Tryz.underlying24 hi hz0 hz1 hz2 rfl (by decide) v l.length (iv l) hown ⟨g, 0, none⟩ 1 1 (iv [x]) rfl (World.news_of_block hg) (iv_one _) (by decide) (by unfold maxLen; omega) (by omega) hB w.heap.size rfl
 refine ⟨g', cap, w', hr, ?_, h3, h4⟩
 unfold OwnI
 rw [iv_app, List.length_append]
 exact h2
theorem ownI_pop {w : World} {B : Nat} {v : Value} {l : List Int} {x : Int} (h : OwnI w B v (l ++ [x])) :
  ∃ g cap, v = .slice (some ⟨g, 0, none⟩) (l.length + 1) cap ∧ l.length + 1 ≤ cap ∧ w.cell? ⟨g, l.length, none⟩ = some (.int .i64 x) ∧ OwnI w B (.slice (some ⟨g, 0, none⟩) l.length cap) l := by
 have h0 := h
 obtain ⟨h1, ⟨_, h2⟩ | ⟨g, cap, cur, rfl, h3, h4, h5, h6, h7, h8⟩⟩ := h
 ·simp at h2
 ·rw [List.length_append] at h0 h5 h8 ⊢
  simp only [List.length_cons, List.length_nil, Nat.zero_add, Nat.mul_one] at h0 h5 h7 h8 ⊢
  refine ⟨g, cap, rfl, h5, ?_, ?_⟩
  ·have hc := World.ownsRow.cellAt (show w.ownsRow B 3 1 (.slice (some ⟨g, 0, none⟩) (l.length + 1) cap) (l.length + 1) (iv (l ++ [x])) from by have := h0; unfold OwnI at this; rw [List.length_append] at this; exact this) l.length (by omega)
   rw [hc]
   simp [iv]
  ·refine ⟨by rw [iv_len]; omega, Or.inr ⟨g, cap, cur, rfl, h3, h4, by omega, h6, by omega, ?_⟩⟩
   rw [Nat.mul_one]
   have : (cur.toList.take (l.length + 1)).take l.length = cur.toList.take l.length := by rw [List.take_take, Nat.min_eq_left (by omega)]
   rw [← this, h8, iv_app, ← iv_len l, List.take_left]
def ends (st : List Nat) : List Int := st.reverse.map (fun (n : Nat) => (n : Int))
theorem ends_cons (e : Nat) (st : List Nat) : ends (e :: st) = ends st ++ [(e : Int)] := by simp [ends]
theorem ends_len (st : List Nat) : (ends st).length = st.length := by simp [ends]
def deps (l : List El) : List Int := l.map (fun x => (x.2.2 : Int))
theorem deps_snoc (l : List El) (x : El) : deps (l ++ [x]) = deps l ++ [(x.2.2 : Int)] := by simp [deps]
theorem deps_len (l : List El) : (deps l).length = l.length := by simp [deps]
def Mem (W : World) (B : Nat) (lv dv ev : Value) (l : List El) (st : List Nat) : Prop := OwnP W B lv l ∧ OwnI W B dv (deps l) ∧ OwnI W B ev (ends st) ∧ (dv.ownBlock = none ∨ dv.ownBlock ≠ ev.ownBlock)
theorem Mem.below {W W' : World} {B : Nat} {lv dv ev : Value} {l : List El} {st : List Nat} (h : Mem W B lv dv ev l st) (hb : Below W.heap.size W W') : Mem W' B lv dv ev l st := ⟨own_below h.1 hb, own_below h.2.1 hb, own_below h.2.2.1 hb, h.2.2.2⟩
theorem Mem.pop {W : World} {B : Nat} {lv dv ev : Value} {l : List El} {e : Nat} {st : List Nat} (h : Mem W B lv dv ev l (e :: st)) :
  ∃ g cap, ev = .slice (some ⟨g, 0, none⟩) (st.length + 1) cap ∧ st.length + 1 ≤ cap ∧ W.cell? ⟨g, st.length, none⟩ = some (.int .i64 (e : Int)) ∧ Mem W B lv dv (.slice (some ⟨g, 0, none⟩) st.length cap) l st := by
 obtain ⟨h1, h2, h3, h4⟩ := h
 rw [ends_cons] at h3
 obtain ⟨g, cap, rfl, q1, q2, q3⟩ := ownI_pop h3
 rw [ends_len] at q1 q2 q3 ⊢
 exact ⟨g, cap, rfl, q1, q2, h1, h2, q3, h4⟩
theorem Mem.step {W : World} {B : Nat} {lv dv ev : Value} {l : List El} {st : List Nat} (h : Mem W B lv dv ev l st) (hB : B ≤ W.heap.size) (hl : l.length ≤ 4294967295) (hs : st.length ≤ 64) (x : El) (E : Nat) (gh : Nat) (hc : Array Value) (hgh : W.heap[gh]? = some (.cells hc 205 (0, 0))) :
  ∃ g1 c1 w1 g2 c2 w2 g3 c3 w3, (Builtin.append_ #[201, 201] 201 #[lv, .slice (some ⟨W.heap.size, 0, none⟩) 1 1]).run Tryz.prog (W.alloc (.cells (plV x).toArray 207)) = .ok (.slice (some ⟨g1, 0, none⟩) (l.length + 1) c1) w1 ∧
   (Builtin.append_ #[24, 24] 24 #[dv, .slice (some ⟨w1.heap.size, 0, none⟩) 1 1]).run Tryz.prog (w1.alloc (.cells #[.int .i64 (x.2.2 : Int)] 3)) = .ok (.slice (some ⟨g2, 0, none⟩) (l.length + 1) c2) w2 ∧
   (Builtin.append_ #[24, 24] 24 #[ev, .slice (some ⟨w2.heap.size, 0, none⟩) 1 1]).run Tryz.prog (w2.alloc (.cells #[.int .i64 (E : Int)] 3)) = .ok (.slice (some ⟨g3, 0, none⟩) (st.length + 1) c3) w3 ∧
   Mem w3 B (.slice (some ⟨g1, 0, none⟩) (l.length + 1) c1) (.slice (some ⟨g2, 0, none⟩) (l.length + 1) c2) (.slice (some ⟨g3, 0, none⟩) (st.length + 1) c3) (l ++ [x]) (E :: st) ∧
   w1.heap[gh]? = some (.cells hc 205 (0, 0)) ∧ w2.heap[gh]? = some (.cells hc 205 (0, 0)) ∧ w3.heap[gh]? = some (.cells hc 205 (0, 0)) ∧ Below B W w3 := by
 obtain ⟨h1, h2, h3, h4⟩ := h
 have hlt : gh < W.heap.size := (Array.getElem?_eq_some_iff.1 hgh).1
 have b0 : Below B W (W.alloc (.cells (plV x).toArray 207)) := (Below.refl _ _).alloc hB _
 obtain ⟨g1, c1, w1, e1, o1, gr1⟩ := appendP_one (W.alloc (.cells (plV x).toArray 207)) B lv l x W.heap.size (World.ownsRow.alloc h1 _) (heap_alloc_new _ _) (by simp; omega) (by omega)
 have a1 : (W.alloc (.cells (plV x).toArray 207)).heap[gh]? = some (.cells hc 205 (0, 0)) := by rw [(show ∀ (W : World) (o : Obj) (i : Nat), i < W.heap.size → (W.alloc o).heap[i]? = W.heap[i]? from fun W o i h => by show (W.heap.push o)[i]? = W.heap[i]?; rw [Array.getElem?_push, if_neg (Nat.ne_of_lt h)]) _ _ _ hlt]; exact hgh
 have k1 : w1.heap[gh]? = some (.cells hc 205 (0, 0)) := by rw [gr1.block gh (Array.getElem?_eq_some_iff.1 a1).1 (own_far (World.ownsRow.alloc h1 _) a1 (by decide))]; exact a1
 have d1 : OwnI w1 B dv (deps l) := World.ownsRow.kept (World.ownsRow.alloc h2 _) gr1 (own_ne h2 h1 (by decide))
 have f1 : OwnI w1 B ev (ends st) := World.ownsRow.kept (World.ownsRow.alloc h3 _) gr1 (own_ne h3 h1 (by decide))
 have b1 : Below B W w1 := b0.grown gr1 (by simp; omega) (fun j hj => (World.ownsRow.lt h1 _ hj).1)
 have hB1 : B ≤ w1.heap.size := Nat.le_trans hB b1.size
 obtain ⟨g2, c2, w2, e2, o2, gr2, p2⟩ := appendI_one (w1.alloc (.cells #[.int .i64 (x.2.2 : Int)] 3)) B dv (deps l) (x.2.2 : Int) w1.heap.size (World.ownsRow.alloc d1 _) (heap_alloc_new _ _) (by simp; omega) (by rw [deps_len]; omega)
 have a2 : (w1.alloc (.cells #[.int .i64 (x.2.2 : Int)] 3)).heap[gh]? = some (.cells hc 205 (0, 0)) := by rw [(show ∀ (W : World) (o : Obj) (i : Nat), i < W.heap.size → (W.alloc o).heap[i]? = W.heap[i]? from fun W o i h => by show (W.heap.push o)[i]? = W.heap[i]?; rw [Array.getElem?_push, if_neg (Nat.ne_of_lt h)]) _ _ _ (Array.getElem?_eq_some_iff.1 k1).1]; exact k1
 have k2 : w2.heap[gh]? = some (.cells hc 205 (0, 0)) := by rw [gr2.block gh (Array.getElem?_eq_some_iff.1 a2).1 (own_far (World.ownsRow.alloc d1 _) a2 (by decide))]; exact a2
 have o1' : OwnP w2 B _ _ := World.ownsRow.kept (World.ownsRow.alloc o1 (.cells #[.int .i64 (x.2.2 : Int)] 3)) gr2 (own_ne o1 d1 (by decide))
 have f2 : OwnI w2 B ev (ends st) := World.ownsRow.kept (World.ownsRow.alloc f1 _) gr2 (dis_symm h4)
 have b2 : Below B W w2 := (b1.alloc hB1 _).grown gr2 (by simp; omega) (fun j hj => (World.ownsRow.lt d1 _ hj).1)
 have hB2 : B ≤ w2.heap.size := Nat.le_trans hB b2.size
 have dis2 : (Value.slice (some ⟨g2, 0, none⟩) ((deps l).length + 1) c2).ownBlock = none ∨ (Value.slice (some ⟨g2, 0, none⟩) ((deps l).length + 1) c2).ownBlock ≠ ev.ownBlock := by
  refine Or.inr (fun e => ?_)
  have e' : ev.ownBlock = some g2 := by rw [← e]; rfl
  rcases p2 with p2 | p2
  ·rcases h4 with h4 | h4
   ·rw [h4] at p2; cases p2
   ·exact h4 (by rw [p2, e'])
  ·have := (World.ownsRow.lt f1 _ e').2
   rw [p2] at this
   simp at this
   omega
 obtain ⟨g3, c3, w3, e3, o3, gr3, p3⟩ := appendI_one (w2.alloc (.cells #[.int .i64 (E : Int)] 3)) B ev (ends st) (E : Int) w2.heap.size (World.ownsRow.alloc f2 _) (heap_alloc_new _ _) (by simp; omega) (by rw [ends_len]; omega)
 have a3 : (w2.alloc (.cells #[.int .i64 (E : Int)] 3)).heap[gh]? = some (.cells hc 205 (0, 0)) := by rw [(show ∀ (W : World) (o : Obj) (i : Nat), i < W.heap.size → (W.alloc o).heap[i]? = W.heap[i]? from fun W o i h => by show (W.heap.push o)[i]? = W.heap[i]?; rw [Array.getElem?_push, if_neg (Nat.ne_of_lt h)]) _ _ _ (Array.getElem?_eq_some_iff.1 k2).1]; exact k2
 have k3 : w3.heap[gh]? = some (.cells hc 205 (0, 0)) := by rw [gr3.block gh (Array.getElem?_eq_some_iff.1 a3).1 (own_far (World.ownsRow.alloc f2 _) a3 (by decide))]; exact a3
 have o1'' : OwnP w3 B _ _ := World.ownsRow.kept (World.ownsRow.alloc o1' (.cells #[.int .i64 (E : Int)] 3)) gr3 (own_ne o1' f2 (by decide))
 have o2' : OwnI w3 B _ _ := World.ownsRow.kept (World.ownsRow.alloc o2 (.cells #[.int .i64 (E : Int)] 3)) gr3 dis2
 have b3 : Below B W w3 := (b2.alloc hB2 _).grown gr3 (by simp; omega) (fun j hj => (World.ownsRow.lt f2 _ hj).1)
 have dis3 : (Value.slice (some ⟨g2, 0, none⟩) ((deps l).length + 1) c2).ownBlock = none ∨ (Value.slice (some ⟨g2, 0, none⟩) ((deps l).length + 1) c2).ownBlock ≠ (Value.slice (some ⟨g3, 0, none⟩) ((ends st).length + 1) c3).ownBlock := by
  refine Or.inr (fun e => ?_)
  have e' : g2 = g3 := by simpa [Value.ownBlock] using e
  subst e'
  rcases p3 with p3 | p3
  ·rcases dis2 with q | q
   ·simp [Value.ownBlock] at q
   ·exact q (by rw [p3]; rfl)
  ·have := (World.ownsRow.lt o2 g2 rfl).2
   rw [p3] at this
   simp at this
   omega
 rw [deps_len] at e2 o2' dis3
 rw [ends_len] at e3 o3 dis3
 exact ⟨g1, c1, w1, g2, c2, w2, g3, c3, w3, e1, e2, e3, ⟨o1'', by rw [deps_snoc]; exact o2', by rw [ends_cons]; exact o3, dis3⟩, k1, k2, k3, b3⟩
end BrM
end Go.Proofs.YtkknenmpdimdbaaGreatDoor

namespace Go.Proofs.YtkknenmpdimdbaaGreatDoor
open Go.RowKit
open BerMath (Hd HR num hAt)
end Go.Proofs.YtkknenmpdimdbaaGreatDoor
