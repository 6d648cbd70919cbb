import Derived.Test.YtkknenmpdimdbaaGreatDoorFW33
import Derived.Test.YtkknenmpdimdbaaGreatDoorFW27
import Derived.Lib.AppendZeros
import Derived.Deep.DeepCutAuto
namespace Go.Proofs.YtkknenmpdimdbaaGreatDoor
open Go.RowKit
open BerMath (Hd HR num hAt wAt)
def refWV (b : List UInt8) (p e : Nat) : Value :=
 match wAt b p e with
 | .ok h => .tuple #[hdV h, .int .i64 0, .int .i64 (p : Int)]
 | .error (some (c, q)) => .tuple #[.agg hdZ.toArray, .int .i64 (c : Int), .int .i64 (q : Int)]
 | .error none => .tuple #[.agg hdZ.toArray, .int .i64 (-1), .int .i64 (e : Int)]
theorem hAt_er (b : List UInt8) (p e c q : Nat) (h : hAt b p e = HR.er c q) : c = 21 ∨ c = 22 ∨ c = 23 := by
 unfold hAt at h
 split at h
 ·cases h
 split at h
 ·have h1 := (BerMath.er_inj h).1; omega
 split at h
 ·cases h
 split at h
 ·have h1 := (BerMath.er_inj h).1; omega
 split at h
 ·have h1 := (BerMath.er_inj h).1; omega
 split at h
 ·cases h
 split at h
 ·cases h
 ·cases h
theorem refW_cases (b : List UInt8) (p e : Nat) :
  (∃ (c q : Int), (c == 0) = false ∧ refHV b p e = .tuple #[.agg #[.int .i64 0, .bool false, .int .i64 0, .int .i64 0, .int .i64 0], .int .i64 c, .int .i64 q] ∧ refWV b p e = .tuple #[.agg #[.int .i64 0, .bool false, .int .i64 0, .int .i64 0, .int .i64 0], .int .i64 c, .int .i64 q]) ∨
  (∃ h, hAt b p e = .ok h ∧ refHV b p e = .tuple #[hdV h, .int .i64 0, .int .i64 (p : Int)] ∧ e < p + h.size + h.len ∧ refWV b p e = .tuple #[.agg #[.int .i64 0, .bool false, .int .i64 0, .int .i64 0, .int .i64 0], .int .i64 (-1), .int .i64 (e : Int)]) ∨
  (∃ h, hAt b p e = .ok h ∧ refHV b p e = .tuple #[hdV h, .int .i64 0, .int .i64 (p : Int)] ∧ ¬ e < p + h.size + h.len ∧ refWV b p e = .tuple #[hdV h, .int .i64 0, .int .i64 (p : Int)]) := by
 unfold refHV refWV wAt
 cases hh : hAt b p e with
 | ok h =>
  by_cases h1 : e < p + (h.size + h.len)
  ·refine Or.inr (Or.inl ⟨h, rfl, rfl, by omega, ?_⟩)
   simp only [if_pos h1]; rfl
  ·refine Or.inr (Or.inr ⟨h, rfl, rfl, by omega, ?_⟩)
   simp only [if_neg h1]
 | error o =>
  cases o with
  | some cq =>
   obtain ⟨c, q⟩ := cq
   have hc := hAt_er _ _ _ _ _ hh
   exact Or.inl ⟨(c : Int), (q : Int), by rw [beq_eq_false_iff_ne]; omega, rfl, rfl⟩
  | none => exact Or.inl ⟨-1, (e : Int), rfl, rfl, rfl⟩
theorem w_pq (p x : Nat) (hp : p ≤ 140737488355328) (hx : x ≤ 6) : wrap64 ((p : Int) + (x : Int)) = ((p + x : Nat) : Int) := by unfold wrap64; omega
theorem w_pqr (p x y : Nat) (hp : p ≤ 140737488355328) (hx : x ≤ 6) (hy : y < 4294967296) : wrap64 (((p + x : Nat) : Int) + (y : Int)) = ((p + x + y : Nat) : Int) := by unfold wrap64; omega
set_option maxHeartbeats 1000000 in
theorem refWhole_any (s : ByteArray) (p e : Nat) (w : World) (he : e ≤ s.size) (hm : s.size ≤ 140737488355328) (hp : p ≤ e) :
  Calls Tryz.prog 162 #[.string s, .int .i64 (p : Int), .int .i64 (e : Int)] w fun r w' => r = .returned (refWV s.data.toList p e) ∧ Below w.heap.size w w' := by
 have hH : ∀ W, Hid (Calls Tryz.prog 169 #[.string s, .int .i64 (p : Int), .int .i64 (e : Int)] W fun r w' => r = .returned (refHV s.data.toList p e) ∧ Below W.heap.size W w') := fun W => refHeadAt_any s p e W he hm hp
 have hpm : p ≤ 140737488355328 := Nat.le_trans hp (Nat.le_trans he hm)
 have hz : ∀ w', Below (w.heap.size + 1) (w.alloc (.cells #[.int .i64 0, .bool false, .int .i64 0, .int .i64 0, .int .i64 0] 205)) w' → Cells w' w.heap.size hdZ := fun w' hb => by
  have h0 : Cells (w.alloc (.cells #[.int .i64 0, .bool false, .int .i64 0, .int .i64 0, .int .i64 0] 205)) w.heap.size hdZ := by
   intro j hj
   have : j = 0 ∨ j = 1 ∨ j = 2 ∨ j = 3 ∨ j = 4 := by simp [hdZ] at hj; omega
   rcases this with rfl | rfl | rfl | rfl | rfl <;> simp [go_sem, hdZ]
  exact h0.of_block (hb.block _ (Nat.lt_succ_self _))
 have key : ∀ (l0 : Int) (l1 : Bool) (l2 l3 l4 c q : Int) (dd : Bool) (A E : Int) (m0 : Int) (m1 : Bool) (m2 m3 m4 c' q' : Int),
   refHV s.data.toList p e = .tuple #[.agg #[.int .i64 l0, .bool l1, .int .i64 l2, .int .i64 l3, .int .i64 l4], .int .i64 c, .int .i64 q] →
   ((c == 0) = false ∧ m0 = l0 ∧ m1 = l1 ∧ m2 = l2 ∧ m3 = l3 ∧ m4 = l4 ∧ c' = c ∧ q' = q ∨ c = 0 ∧ wrap64 ((p : Int) + l4) = A ∧ wrap64 (A + l3) = E ∧ decide ((e : Int) < E) = dd ∧ (dd = true ∧ m0 = 0 ∧ m1 = false ∧ m2 = 0 ∧ m3 = 0 ∧ m4 = 0 ∧ c' = -1 ∧ q' = (e : Int) ∨ dd = false ∧ m0 = l0 ∧ m1 = l1 ∧ m2 = l2 ∧ m3 = l3 ∧ m4 = l4 ∧ c' = c ∧ q' = q)) →
   Calls Tryz.prog 162 #[.string s, .int .i64 (p : Int), .int .i64 (e : Int)] w fun r w' => r = .returned (.tuple #[.agg #[.int .i64 m0, .bool m1, .int .i64 m2, .int .i64 m3, .int .i64 m4], .int .i64 c', .int .i64 q']) ∧ Below w.heap.size w w' := by
  intro l0 l1 l2 l3 l4 c q dd A E m0 m1 m2 m3 m4 c' q' hv hc
  rw [hv] at hH
  clear hv he hm hp hpm
  rcases hc with ⟨hc0, rfl, rfl, rfl, rfl, rfl, rfl, rfl⟩ | ⟨rfl, hA, hE, hd, ⟨rfl, rfl, rfl, rfl, rfl, rfl, rfl, rfl⟩ | ⟨rfl, rfl, rfl, rfl, rfl, rfl, rfl, rfl⟩⟩
  all_goals
   go_enter Tryz.func162, Tryz.ntmps162
   go_wp2_with fail
   refine (hH _).out.mono ?_
   rintro r w1 ⟨rfl, hb⟩
   have hb' : Below (w.heap.size + 1) (w.alloc (.cells #[.int .i64 0, .bool false, .int .i64 0, .int .i64 0, .int .i64 0] 205)) w1 := by simpa using hb
   have hrb := hz w1 hb'
   have r0 : w1.cell? ⟨w.heap.size, 0, none⟩ = some (.int .i64 0) := (hrb 0 (by simp [hdZ])).1
   have r1 : w1.cell? ⟨w.heap.size, 1, none⟩ = some (.bool false) := (hrb 1 (by simp [hdZ])).1
   have r2 : w1.cell? ⟨w.heap.size, 2, none⟩ = some (.int .i64 0) := (hrb 2 (by simp [hdZ])).1
   have r3 : w1.cell? ⟨w.heap.size, 3, none⟩ = some (.int .i64 0) := (hrb 3 (by simp [hdZ])).1
   have r4 : w1.cell? ⟨w.heap.size, 4, none⟩ = some (.int .i64 0) := (hrb 4 (by simp [hdZ])).1
   have z0 : w1.frozen? ⟨w.heap.size, 0, none⟩ = false := (hrb 0 (by simp [hdZ])).2
   have z1 : w1.frozen? ⟨w.heap.size, 1, none⟩ = false := (hrb 1 (by simp [hdZ])).2
   have z2 : w1.frozen? ⟨w.heap.size, 2, none⟩ = false := (hrb 2 (by simp [hdZ])).2
   have z3 : w1.frozen? ⟨w.heap.size, 3, none⟩ = false := (hrb 3 (by simp [hdZ])).2
   have z4 : w1.frozen? ⟨w.heap.size, 4, none⟩ = false := (hrb 4 (by simp [hdZ])).2
   have n1 : w.heap.size < w1.heap.size := by have := hb'.size; simp at this; omega
   have HB : Below w.heap.size w w1 := ((Below.refl _ _).alloc (Nat.le_refl _) _).trans (hb'.mono (Nat.le_succ _))
   clear hrb hb hb' hH hz
   go_wp2_with fail
   refine bodyPost_ret_by (by
    simp [results, Tryz.results162, go_sem, r0, r1, r2, r3, r4, n1]) rfl ⟨rfl, ?_⟩
   refine Below.alloc (Below.setCell (Below.setCell (Below.setCell (Below.setCell (Below.setCell HB ?_ _) ?_ _) ?_ _) ?_ _) ?_ _) (by simp only [World.size_setCell]; exact Nat.le_of_lt n1) _
   all_goals exact Nat.le_refl _
 rcases refW_cases s.data.toList p e with ⟨c, q, h1, h2, h3⟩ | ⟨h, h0, h2, h4, h3⟩ | ⟨h, h0, h2, h4, h3⟩
 ·rw [h3]
  exact key _ _ _ _ _ c q false 0 0 _ _ _ _ _ _ _ h2 (Or.inl ⟨h1, rfl, rfl, rfl, rfl, rfl, rfl, rfl⟩)
 ·rw [h3]
  obtain ⟨k1, k2, k3, _⟩ := BerMath.hAt_ok _ _ _ _ h0
  exact key _ _ _ _ _ 0 (p : Int) true _ _ _ _ _ _ _ _ _ h2 (Or.inr ⟨rfl, w_pq p h.size hpm k2, w_pqr p h.size h.len hpm k2 k3, decide_eq_true (by omega), Or.inl ⟨rfl, rfl, rfl, rfl, rfl, rfl, rfl, rfl⟩⟩)
 ·rw [h3]
  obtain ⟨k1, k2, k3, _⟩ := BerMath.hAt_ok _ _ _ _ h0
  exact key _ _ _ _ _ 0 (p : Int) false _ _ _ _ _ _ _ _ _ h2 (Or.inr ⟨rfl, w_pq p h.size hpm k2, w_pqr p h.size h.len hpm k2 k3, decide_eq_false (by omega), Or.inr ⟨rfl, rfl, rfl, rfl, rfl, rfl, rfl, rfl⟩⟩)
end Go.Proofs.YtkknenmpdimdbaaGreatDoor

namespace Go.Proofs.YtkknenmpdimdbaaGreatDoor
open Go.RowKit BnI
open BerMath (Hd HR num hAt wAt El TR elEnd endE one andThen kids)
set_option linter.unusedVariables false
namespace BrM
def WkQ (s : ByteArray) (B : Nat) (r : Ending) (w' : World) : Prop :=
 ∃ (lv dv : Value) (c q : Int), r = .returned (.tuple #[lv, dv, .int .i64 c, .int .i64 q]) ∧ OwnP w' B lv (tr s).1 ∧ OwnI w' B dv (deps (tr s).1) ∧ ((∃ f : Nat × Nat, (tr s).2 = some f ∧ c = (f.1 : Int) ∧ q = (f.2 : Int)) ∨ ((tr s).2 = none ∧ c = 0 ∧ q = (lastE (tr s).1 : Int)))
theorem wkQ_bad {s : ByteArray} {B : Nat} {W : World} {lv dv ev : Value} {l : List El} {st : List Nat} {c q : Nat} (h : tr s = (l, some (c, q))) (hm : Mem W B lv dv ev l st) : WkQ s B (.returned (.tuple #[lv, dv, .int .i64 (c : Int), .int .i64 (q : Int)])) W :=
 ⟨lv, dv, _, _, rfl, by rw [h]; exact hm.1, by rw [h]; exact hm.2.1, Or.inl ⟨(c, q), by rw [h], rfl, rfl⟩⟩
theorem wkQ_ok {s : ByteArray} {B : Nat} {W : World} {lv dv ev : Value} {l : List El} {st : List Nat} {p : Nat} (h : tr s = (l, none) ∧ p = lastE l) (hm : Mem W B lv dv ev l st) : WkQ s B (.returned (.tuple #[lv, dv, .int .i64 0, .int .i64 (p : Int)])) W :=
 ⟨lv, dv, _, _, rfl, by rw [h.1]; exact hm.1, by rw [h.1]; exact hm.2.1, Or.inr ⟨by rw [h.1], rfl, by rw [h.1, h.2]⟩⟩
def slLen : Value → Nat
 | .slice _ n _ => n
 | _ => 0
theorem hdcell {W : World} {g : Nat} {cur : Array Value} {t : TypeId} (h : W.heap[g]? = some (.cells cur t (0, 0))) (j : Nat) (v : Value) (hv : cur[j]? = some v) : W.cell? ⟨g, j, none⟩ = some v := by
 simp [World.cell?, h, hv]
theorem meas_p (N p q : Nat) (h : p < q) (hq : q ≤ N) : N - (intOf (.int .i64 (q : Int))).toNat < N - (intOf (.int .i64 (p : Int))).toNat := by
 simp [intOf]
 omega
theorem ww (a b c : Nat) (h : a + b = c) (hc : c ≤ 281474976710656) : wrap64 ((a : Int) + (b : Int)) = (c : Int) := by unfold wrap64; omega
theorem w1 (a c : Nat) (h : a + 1 = c) (hc : c ≤ 281474976710656) : wrap64 ((a : Int) + 1) = (c : Int) := by unfold wrap64; omega
theorem wm (a c : Nat) (h : a = c + 1) (hc : c ≤ 281474976710656) : wrap64 ((a : Int) - 1) = (c : Int) := by unfold wrap64; omega
theorem Mem.alloc {W : World} {B : Nat} {lv dv ev : Value} {l : List El} {st : List Nat} (h : Mem W B lv dv ev l st) (o : Obj) : Mem (W.alloc o) B lv dv ev l st := ⟨World.ownsRow.alloc h.1 _, World.ownsRow.alloc h.2.1 _, World.ownsRow.alloc h.2.2.1 _, h.2.2.2⟩
def Go (s : ByteArray) (l : List El) (st : List Nat) (p e d : Nat) (mis : Nat) : Prop :=
 (∀ h, wAt s.data.toList p e = .ok h → Inv s (l ++ [(p, h, d)]) ((p + h.size + h.len) :: st) (if h.made = true then p + h.size else p + h.size + h.len)) ∧
 (∀ c q, wAt s.data.toList p e = .error (some (c, q)) → tr s = (l, some (c, q))) ∧
 (wAt s.data.toList p e = .error none → tr s = (l, some (mis, e)))
theorem go_first (s : ByteArray) (p : Nat) (hp : p = 0) : Go s [] [] p s.size 1 20 := by
 subst hp
 refine ⟨fun h hw => Inv.start hw, fun c q hw => ?_, fun hw => ?_⟩
 ·unfold tr
  rw [BerMath.one_er _ _ _ _ _ _ (c, q) (by decide) hw]
 ·unfold tr
  rw [BerMath.one_miss _ _ _ _ _ _ (by decide) hw]
theorem go_next {s : ByteArray} {l : List El} {st : List Nat} {p e : Nat} (h : Inv s l (e :: st) p) (hp : p < e) (hd : ¬ 64 < st.length + 2) : Go s l (e :: st) p e (st.length + 2) 26 :=
 ⟨fun x hw => h.step hp hd hw, fun c q hw => h.fail hp (fun K => BerMath.one_er _ _ _ _ _ _ (c, q) hd hw), fun hw => h.fail hp (fun K => BerMath.one_miss _ _ _ _ _ _ hd hw)⟩
set_option maxRecDepth 100000 in
set_option maxHeartbeats 4000000 in
theorem rwalk_any (s : ByteArray) (w : World) (hm : s.size ≤ 140737488355328) :
  Calls Tryz.prog 137 #[.string s] w fun r w' => WkQ s w.heap.size r w' ∧ Below w.heap.size w w' := by
 have hm' : Hid (s.size ≤ 140737488355328) := hm
 clear hm
 go_enter Tryz.func137, Tryz.ntmps137
 go_wp2_with fail
 go_loopw [6, 7, 8, 9] (fun lv dv ev pv wr => ∃ (l : List El) (st : List Nat) (p : Nat) (la : Option Addr) (ln lc : Nat) (dd : Value) (ea : Option Addr) (m ec : Nat), lv = .slice la ln lc ∧ dv = dd ∧ ev = .slice ea m ec ∧ pv = .int .i64 (p : Int) ∧ Hid (ln = l.length ∧ m = st.length ∧ Mem wr w.heap.size (.slice la ln lc) dd (.slice ea m ec) l st ∧ Below w.heap.size w wr ∧ ((l = [] ∧ st = [] ∧ p = 0) ∨ Inv s l st p))) (fun _ _ _ pv _ => s.size - (intOf pv).toNat)
 case atStart => exact ⟨[], [], 0, none, 0, 0, _, none, 0, 0, rfl, rfl, rfl, rfl, rfl, rfl, ⟨ownP_nil _ _, ownI_nil _ _, ownI_nil _ _, Or.inl rfl⟩, Below.refl _ _, Or.inl ⟨rfl, rfl, rfl⟩⟩
 case round =>
  obtain ⟨l, st, p, la, ln, lc, dd, ea, m, ec, rfl, hdv, rfl, rfl, HO⟩ := hrel
  have hdv' := hdv.symm
  clear hdv
  subst hdv'
  obtain ⟨wo, hwo⟩ : ∃ wo, wo = wr := ⟨_, rfl⟩
  subst hwo
  have HL : Hid (ln = l.length ∧ Below w.heap.size w wo) := ⟨HO.out.1, HO.out.2.2.2.1⟩
  have HS : Hid (m = st.length ∧ Mem wo w.heap.size (.slice la ln lc) dd (.slice ea m ec) l st ∧ ((l = [] ∧ st = [] ∧ p = 0) ∨ Inv s l st p)) := ⟨HO.out.2.1, HO.out.2.2.1, HO.out.2.2.2.2⟩
  clear HO
  go_wp2_with fail
  go_loopw [8] (fun ev wq => ∃ (st' : List Nat) (ea' : Option Addr) (m' ec' : Nat), ev = .slice ea' m' ec' ∧ Hid (wq = wo ∧ m' = st'.length ∧ Mem wo w.heap.size (.slice la ln lc) dd (.slice ea' m' ec') l st' ∧ ((l = [] ∧ st' = [] ∧ p = 0) ∨ Inv s l st' p))) (fun ev _ => slLen ev)
  case atStart => exact ⟨st, ea, m, ec, rfl, rfl, HS.out⟩
  case round =>
   obtain ⟨st', ea', m', ec', rfl, HI⟩ := hrel
   clear HS
   have hw := HI.out.1
   subst hw
   have HI2 : Hid (m' = st'.length ∧ Mem wr w.heap.size (.slice la ln lc) dd (.slice ea' m' ec') l st' ∧ ((l = [] ∧ st' = [] ∧ p = 0) ∨ Inv s l st' p)) := HI.out.2
   clear HI
   cases st' with
   | nil =>
    obtain ⟨hm0, HM, hcase⟩ := HI2.out
    clear HI2
    have hm00 : m' = 0 := hm0
    subst hm00
    clear hm0
    rcases hcase with ⟨rfl, _, hp0⟩ | hInv
    ·have hln : ln = 0 := HL.out.1
     subst hln
     have HGo : Hid (Go s [] [] p s.size 1 20) := go_first s p hp0
     have hpe : p ≤ s.size := by omega
     have HMm : Hid (Mem wr w.heap.size (.slice la 0 lc) dd (.slice ea' 0 ec') ([] : List El) ([] : List Nat)) := HM
     clear HM
     have hW : ∀ W, Hid (Calls Tryz.prog 162 #[.string s, .int .i64 (p : Int), .int .i64 (s.size : Int)] W fun r w' => r = .returned (refWV s.data.toList p s.size) ∧ Below W.heap.size W w') := fun W => refWhole_any s p s.size W (Nat.le_refl _) hm'.out hpe
     cases hw : wAt s.data.toList p s.size with
     | ok h =>
      have hv : refWV s.data.toList p s.size = .tuple #[.agg #[.int .i64 (h.cls : Int), .bool h.made, .int .i64 (h.tag : Int), .int .i64 (h.len : Int), .int .i64 (h.size : Int)], .int .i64 0, .int .i64 (p : Int)] := by unfold refWV; rw [hw]; rfl
      rw [hv] at hW
      obtain ⟨k1', k2', k3', _, _, k6'⟩ := BerMath.wAt_ok _ _ _ _ hw
      have hN := HGo.out.1 h hw
      have hsz := hm'.out
      obtain ⟨A, hA⟩ : ∃ A, p + h.size = A := ⟨_, rfl⟩
      obtain ⟨Z, hZ⟩ : ∃ Z, A + h.len = Z := ⟨_, rfl⟩
      have wAH : Hid (wrap64 ((p : Int) + (h.size : Int)) = (A : Int)) := ww p h.size A hA (by omega)
      have wZH : Hid (wrap64 ((A : Int) + (h.len : Int)) = (Z : Int)) := ww A h.len Z hZ (by omega)
      rw [hA, hZ] at hN
      have HN : Hid (Inv s (([] : List El) ++ [(p, h, 1)]) (Z :: ([] : List Nat)) (if h.made = true then A else Z)) := hN
      have HLB : Hid (([] : List El).length ≤ 4294967295) := (by unfold Hid; simp)
      have HSB : Hid (([] : List Nat).length ≤ 64) := (by unfold Hid; simp)
      have HP : Hid (p < A ∧ A ≤ s.size ∧ p < Z ∧ Z ≤ s.size) := ⟨by omega, by omega, by omega, by omega⟩
      clear hv hw k1' k2' k3' k6' HGo hN hA hZ hsz hpe hp0
      go_upto_region 21 with (go_at_call 162; refine (hW _).out.mono ?_; rintro r w1 ⟨rfl, hb1⟩; have HMb : Hid (Mem w1 w.heap.size (.slice la 0 lc) dd (.slice ea' 0 ec') ([] : List El) ([] : List Nat)) := HMm.out.below hb1; have HBb : Hid (Below w.heap.size w w1) := HL.out.2.trans (hb1.mono HL.out.2.size); clear hb1)
      obtain ⟨W0, hW0⟩ : ∃ W0, w1.alloc (.cells #[.int .i64 (h.cls : Int), .bool h.made, .int .i64 (h.tag : Int), .int .i64 (h.len : Int), .int .i64 (h.size : Int)] 205) = W0 := ⟨_, rfl⟩
      have hgh : W0.heap[w1.heap.size]? = some (.cells #[.int .i64 (h.cls : Int), .bool h.made, .int .i64 (h.tag : Int), .int .i64 (h.len : Int), .int .i64 (h.size : Int)] 205 (0, 0)) := by rw [← hW0]; exact heap_alloc_new _ _
      have HM0 : Mem W0 w.heap.size (.slice la 0 lc) dd (.slice ea' 0 ec') ([] : List El) ([] : List Nat) := by rw [← hW0]; exact HMb.out.alloc _
      have HB0 : Below w.heap.size w W0 := by rw [← hW0]; exact HBb.out.alloc HBb.out.size _
      obtain ⟨g1, c1, w2, g2, c2, w3, g3, c3, w4, e1, e2, e3, hM4, q1', q2', q3', b4⟩ := HM0.step HB0.size HLB.out HSB.out (p, h, 1) Z w1.heap.size _ hgh
      have HF : Hid (Mem w4 w.heap.size (.slice (some ⟨g1, 0, none⟩) (([] : List El).length + 1) c1) (.slice (some ⟨g2, 0, none⟩) (([] : List El).length + 1) c2) (.slice (some ⟨g3, 0, none⟩) (([] : List Nat).length + 1) c3) (([] : List El) ++ [(p, h, 1)]) (Z :: ([] : List Nat)) ∧ Below w.heap.size w w4) := ⟨hM4, HB0.trans b4⟩
      have x0 := hdcell hgh 0 _ rfl
      have x1 := hdcell hgh 1 _ rfl
      have x2 := hdcell hgh 2 _ rfl
      have x3 := hdcell hgh 3 _ rfl
      have x4 := hdcell hgh 4 _ rfl
      have y4 := hdcell q2' 4 _ rfl
      have y3 := hdcell q2' 3 _ rfl
      have z1 := hdcell q3' 1 _ rfl
      have z3 := hdcell q3' 3 _ rfl
      unfold plV at e1
      dsimp only at e1 e2 e3
      rw [hW0]
      clear hgh HM0 hM4 q1' q2' q3' b4 HMb HBb hW HB0 hW0
      have wA := wAH.out
      have wZ := wZH.out
      clear wAH wZH
      cases hmd : h.made with
      | true =>
       rw [hmd] at x1 z1 e1
       go_wp2_with (first
        | (at_builtin; refine Lib.wpList_append_run _ rfl _ _ _ _ rfl _ _ rfl rfl _ _ e1 ?_; clear e1)
        | (at_builtin; refine Lib.wpList_append_run _ rfl _ _ _ _ rfl _ _ rfl rfl _ _ e2 ?_; clear e2)
        | (at_builtin; refine Lib.wpList_append_run _ rfl _ _ _ _ rfl _ _ rfl rfl _ _ e3 ?_; clear e3))
       go_roundw
       case rel => exact ⟨([] : List El) ++ [(p, h, 1)], Z :: ([] : List Nat), A, _, _, _, _, _, _, _, rfl, rfl, rfl, rfl, by simp, by simp, HF.out.1, HF.out.2, Or.inr (by have := HN.out; rwa [hmd, if_pos rfl] at this)⟩
       case measure => exact meas_p s.size p A HP.out.1 HP.out.2.1
      | false =>
       rw [hmd] at x1 z1 e1
       go_wp2_with (first
        | (at_builtin; refine Lib.wpList_append_run _ rfl _ _ _ _ rfl _ _ rfl rfl _ _ e1 ?_; clear e1)
        | (at_builtin; refine Lib.wpList_append_run _ rfl _ _ _ _ rfl _ _ rfl rfl _ _ e2 ?_; clear e2)
        | (at_builtin; refine Lib.wpList_append_run _ rfl _ _ _ _ rfl _ _ rfl rfl _ _ e3 ?_; clear e3))
       go_roundw
       case rel => exact ⟨([] : List El) ++ [(p, h, 1)], Z :: ([] : List Nat), Z, _, _, _, _, _, _, _, rfl, rfl, rfl, by rw [wZ], by simp, by simp, HF.out.1, HF.out.2, Or.inr (by have := HN.out; rwa [hmd, if_neg (by decide)] at this)⟩
       case measure => rw [wZ]; exact meas_p s.size p Z HP.out.2.2.1 HP.out.2.2.2
     | error o =>
      cases o with
      | some cq =>
       obtain ⟨c, q⟩ := cq
       have hc := BerMath.wAt_er _ _ _ _ _ hw
       have hv : refWV s.data.toList p s.size = .tuple #[.agg #[.int .i64 0, .bool false, .int .i64 0, .int .i64 0, .int .i64 0], .int .i64 (c : Int), .int .i64 (q : Int)] := by unfold refWV; rw [hw]; rfl
       rw [hv] at hW
       have r1 : ((c : Int) == -1) = false := by rw [beq_eq_false_iff_ne]; omega
       have r2 : ((c : Int) != 0) = true := by rw [bne_iff_ne]; omega
       have r3 : ((c : Int) == 0) = false := by rw [beq_eq_false_iff_ne]; omega
       have HT := HGo.out.2.1 c q hw
       have HQ : ∀ W, Hid (Below wr.heap.size wr W → WkQ s w.heap.size (.returned (.tuple #[.slice la 0 lc, dd, .int .i64 (c : Int), .int .i64 (q : Int)])) (W.alloc (.cells #[.int .i64 0, .bool false, .int .i64 0, .int .i64 0, .int .i64 0] 205)) ∧ Below w.heap.size w (W.alloc (.cells #[.int .i64 0, .bool false, .int .i64 0, .int .i64 0, .int .i64 0] 205))) := fun W hb => ⟨wkQ_bad HT ((HMm.out.below hb).alloc _), (HL.out.2.trans (hb.mono HL.out.2.size)).alloc (Nat.le_trans HL.out.2.size hb.size) _⟩
       clear hv hw hc HT HGo HMm HL hm' hpe hp0
       go_wp2_with (go_at_call 162; refine (hW _).out.mono ?_; rintro r w1 ⟨rfl, hb1⟩; have HQ1 := (HQ w1).out hb1; clear hb1)
       refine bodyPost_ret_by (v := .tuple #[.slice la 0 lc, dd, .int .i64 (c : Int), .int .i64 (q : Int)]) (by simp [results, Tryz.results137]) rfl HQ1
      | none =>
       have hv : refWV s.data.toList p s.size = .tuple #[.agg #[.int .i64 0, .bool false, .int .i64 0, .int .i64 0, .int .i64 0], .int .i64 (-1), .int .i64 (s.size : Int)] := by unfold refWV; rw [hw]; rfl
       rw [hv] at hW
       have HT := HGo.out.2.2 hw
       have HQ : ∀ W, Hid (Below wr.heap.size wr W → WkQ s w.heap.size (.returned (.tuple #[.slice la 0 lc, dd, .int .i64 20, .int .i64 (s.size : Int)])) (W.alloc (.cells #[.int .i64 0, .bool false, .int .i64 0, .int .i64 0, .int .i64 0] 205)) ∧ Below w.heap.size w (W.alloc (.cells #[.int .i64 0, .bool false, .int .i64 0, .int .i64 0, .int .i64 0] 205))) := fun W hb => ⟨wkQ_bad (c := 20) HT ((HMm.out.below hb).alloc _), (HL.out.2.trans (hb.mono HL.out.2.size)).alloc (Nat.le_trans HL.out.2.size hb.size) _⟩
       clear hv hw HT HGo HMm HL hm' hpe hp0
       go_wp2_with (go_at_call 162; refine (hW _).out.mono ?_; rintro r w1 ⟨rfl, hb1⟩; have HQ1 := (HQ w1).out hb1; clear hb1)
       refine bodyPost_ret_by (v := .tuple #[.slice la 0 lc, dd, .int .i64 20, .int .i64 (s.size : Int)]) (by simp [results, Tryz.results137]) rfl HQ1
    ·have hl0 : (ln : Int) > 0 := by
      have h1 := HL.out.1
      have h2 : 0 < l.length := List.length_pos_iff.2 hInv.1
      omega
     have HQ : Hid (WkQ s w.heap.size (.returned (.tuple #[.slice la ln lc, dd, .int .i64 0, .int .i64 (p : Int)])) wr ∧ Below w.heap.size w wr) := ⟨wkQ_ok hInv.done HM, HL.out.2⟩
     clear hInv HM HL hm'
     go_wp2_with fail
     refine bodyPost_ret_by (v := .tuple #[.slice la ln lc, dd, .int .i64 0, .int .i64 (p : Int)]) (by simp [results, Tryz.results137]) rfl HQ.out
   | cons e st0 =>
    obtain ⟨hm0, HM, hcase⟩ := HI2.out
    clear HI2
    have hInv : Inv s l (e :: st0) p := by
     rcases hcase with ⟨_, h, _⟩ | h
     ·cases h
     ·exact h
    clear hcase
    obtain ⟨g, cap, hev, hcap, hcell, HMp⟩ := HM.pop
    injection hev with ha hb hc
    subst ha hc
    obtain ⟨k, hk⟩ : ∃ k, k = st0.length := ⟨_, rfl⟩
    rw [← hk] at hcap hcell HMp hb
    have hk64 : k ≤ 63 := by
     have := hInv.2.2.2.2.2.1
     simp at this
     omega
    have m0 : (m' : Int) > 0 := by omega
    have mkH : Hid (wrap64 ((m' : Int) - 1) = (k : Int)) := wm m' k hb (by omega)
    have k0 : (0 : Int) ≤ (k : Int) := Int.natCast_nonneg _
    have k1 : (k : Int) < (m' : Int) := by omega
    by_cases hep : e = p
    ·subst hep
     have kc : k ≤ ec' := by omega
     have kc' : (k : Int) ≤ (ec' : Int) := by omega
     have HN : Hid (wr = wr ∧ k = st0.length ∧ Mem wr w.heap.size (.slice la ln lc) dd (.slice (some ⟨g, 0, none⟩) k ec') l st0 ∧ ((l = [] ∧ st0 = [] ∧ e = 0) ∨ Inv s l st0 e)) := ⟨rfl, hk, HMp, Or.inr hInv.pop⟩
     have hmk : Hid (k < m') := by unfold Hid; omega
     have mk := mkH.out
     clear HM hInv HMp hk hm0 hb hk64 hcap HL hm' mkH
     go_wp2_with fail
     go_roundw
     case rel => exact ⟨st0, _, k, ec', rfl, ⟨trivial, HN.out.2⟩⟩
     case measure => exact hmk.out
    ·have hpe' : p < e := by have := hInv.2.2.2.1.1; omega
     have q1 : ((e : Int) == (p : Int)) = false := by rw [beq_eq_false_iff_ne]; omega
     have hl0 : (ln : Int) > 0 := by
      have h1 := HL.out.1
      have h2 : 0 < l.length := List.length_pos_iff.2 hInv.1
      omega
     have hl1 : ((ln : Int) == 0) = false := by rw [beq_eq_false_iff_ne]; omega
     have q2 : ((m' : Int) == 0) = false := by rw [beq_eq_false_iff_ne]; omega
     obtain ⟨d, hd⟩ : ∃ d, d = m' + 1 := ⟨_, rfl⟩
     have mdH : Hid (wrap64 ((m' : Int) + 1) = (d : Int)) := w1 m' d hd.symm (by omega)
     have hes := (hInv.2.2.2.2.1 e (List.mem_cons_self ..)).1
     by_cases h64 : 64 < d
     ·have d1 : (d : Int) > 64 := by omega
      have HQ : Hid (WkQ s w.heap.size (.returned (.tuple #[.slice la ln lc, dd, .int .i64 25, .int .i64 (p : Int)])) wr ∧ Below w.heap.size w wr) := ⟨wkQ_bad (c := 25) (hInv.fail hpe' (fun K => BerMath.one_deep _ _ _ _ _ _ (by omega))) HM, HL.out.2⟩
      have mk := mkH.out
      have md := mdH.out
      clear hInv HM HMp HL hm' hk hm0 hb hk64 hcap hd hpe' hes mkH mdH
      go_wp2_with fail
      refine bodyPost_ret_by (v := .tuple #[.slice la ln lc, dd, .int .i64 25, .int .i64 (p : Int)]) (by simp [results, Tryz.results137]) rfl HQ.out
     ·have d1 : ¬ (d : Int) > 64 := by omega
      have HGo : Hid (Go s l (e :: st0) p e d 26) := by
       have := go_next hInv hpe' (by omega)
       unfold Hid
       rw [show d = st0.length + 2 from by omega]
       exact this
      have hpe : p ≤ e := by omega
      have hll : Hid (2 * l.length ≤ p ∧ p ≤ 4294967301 ∧ k ≤ 62) := ⟨hInv.2.2.2.2.2.2.1, hInv.2.2.2.2.2.2.2.2, by omega⟩
      have HMm : Hid (Mem wr w.heap.size (.slice la ln lc) dd (.slice (some ⟨g, 0, none⟩) m' ec') l (e :: st0)) := HM
      have hmst : Hid (m' = (e :: st0).length) := hm0
      clear HM HMp hk hm0 hb hk64 hcap h64 hInv hep
      have hW : ∀ W, Hid (Calls Tryz.prog 162 #[.string s, .int .i64 (p : Int), .int .i64 (e : Int)] W fun r w' => r = .returned (refWV s.data.toList p e) ∧ Below W.heap.size W w') := fun W => refWhole_any s p e W hes hm'.out hpe
      cases hw : wAt s.data.toList p e with
      | ok h =>
       have hv : refWV s.data.toList p e = .tuple #[.agg #[.int .i64 (h.cls : Int), .bool h.made, .int .i64 (h.tag : Int), .int .i64 (h.len : Int), .int .i64 (h.size : Int)], .int .i64 0, .int .i64 (p : Int)] := by unfold refWV; rw [hw]; rfl
       rw [hv] at hW
       obtain ⟨k1', k2', k3', _, _, k6'⟩ := BerMath.wAt_ok _ _ _ _ hw
       have hN := HGo.out.1 h hw
       have hsz := hm'.out
       obtain ⟨A, hA⟩ : ∃ A, p + h.size = A := ⟨_, rfl⟩
       obtain ⟨Z, hZ⟩ : ∃ Z, A + h.len = Z := ⟨_, rfl⟩
       have wAH : Hid (wrap64 ((p : Int) + (h.size : Int)) = (A : Int)) := ww p h.size A hA (by omega)
       have wZH : Hid (wrap64 ((A : Int) + (h.len : Int)) = (Z : Int)) := ww A h.len Z hZ (by omega)
       rw [hA, hZ] at hN
       have HN : Hid (Inv s (l ++ [(p, h, d)]) (Z :: (e :: st0)) (if h.made = true then A else Z)) := hN
       have HLB : Hid (l.length ≤ 4294967295) := (by have := hll.out; unfold Hid; omega)
       have HSB : Hid ((e :: st0).length ≤ 64) := (by unfold Hid; rw [← hmst.out]; omega)
       have HP : Hid (p < A ∧ A ≤ s.size ∧ p < Z ∧ Z ≤ s.size) := ⟨by omega, by omega, by omega, by omega⟩
       clear hv hw k1' k2' k3' k6' HGo hN hA hZ hsz hpe hpe' hes hd
       have mk := mkH.out
       have md := mdH.out
       go_upto_region 21 with (go_at_call 162; refine (hW _).out.mono ?_; rintro r w1 ⟨rfl, hb1⟩; have HMb : Hid (Mem w1 w.heap.size (.slice la ln lc) dd (.slice (some ⟨g, 0, none⟩) m' ec') l (e :: st0)) := HMm.out.below hb1; have HBb : Hid (Below w.heap.size w w1) := HL.out.2.trans (hb1.mono HL.out.2.size); clear hb1)
       obtain ⟨W0, hW0⟩ : ∃ W0, w1.alloc (.cells #[.int .i64 (h.cls : Int), .bool h.made, .int .i64 (h.tag : Int), .int .i64 (h.len : Int), .int .i64 (h.size : Int)] 205) = W0 := ⟨_, rfl⟩
       have hgh : W0.heap[w1.heap.size]? = some (.cells #[.int .i64 (h.cls : Int), .bool h.made, .int .i64 (h.tag : Int), .int .i64 (h.len : Int), .int .i64 (h.size : Int)] 205 (0, 0)) := by rw [← hW0]; exact heap_alloc_new _ _
       have HM0 : Mem W0 w.heap.size (.slice la ln lc) dd (.slice (some ⟨g, 0, none⟩) m' ec') l (e :: st0) := by rw [← hW0]; exact HMb.out.alloc _
       have HB0 : Below w.heap.size w W0 := by rw [← hW0]; exact HBb.out.alloc HBb.out.size _
       obtain ⟨g1, c1, w2, g2, c2, w3, g3, c3, w4, e1, e2, e3, hM4, q1', q2', q3', b4⟩ := HM0.step HB0.size HLB.out HSB.out (p, h, d) Z w1.heap.size _ hgh
       have HF : Hid (Mem w4 w.heap.size (.slice (some ⟨g1, 0, none⟩) (l.length + 1) c1) (.slice (some ⟨g2, 0, none⟩) (l.length + 1) c2) (.slice (some ⟨g3, 0, none⟩) ((e :: st0).length + 1) c3) (l ++ [(p, h, d)]) (Z :: (e :: st0)) ∧ Below w.heap.size w w4) := ⟨hM4, HB0.trans b4⟩
       have x0 := hdcell hgh 0 _ rfl
       have x1 := hdcell hgh 1 _ rfl
       have x2 := hdcell hgh 2 _ rfl
       have x3 := hdcell hgh 3 _ rfl
       have x4 := hdcell hgh 4 _ rfl
       have y4 := hdcell q2' 4 _ rfl
       have y3 := hdcell q2' 3 _ rfl
       have z1 := hdcell q3' 1 _ rfl
       have z3 := hdcell q3' 3 _ rfl
       unfold plV at e1
       dsimp only at e1 e2 e3
       rw [hW0]
       clear hgh HM0 hM4 q1' q2' q3' b4 HMb HBb hW HB0 hW0
       have wA := wAH.out
       have wZ := wZH.out
       clear wAH wZH
       cases hmd : h.made with
       | true =>
        rw [hmd] at x1 z1 e1
        go_wp2_with (first
         | (at_builtin; refine Lib.wpList_append_run _ rfl _ _ _ _ rfl _ _ rfl rfl _ _ e1 ?_; clear e1)
         | (at_builtin; refine Lib.wpList_append_run _ rfl _ _ _ _ rfl _ _ rfl rfl _ _ e2 ?_; clear e2)
         | (at_builtin; refine Lib.wpList_append_run _ rfl _ _ _ _ rfl _ _ rfl rfl _ _ e3 ?_; clear e3))
        go_roundw
        case rel => exact ⟨l ++ [(p, h, d)], Z :: (e :: st0), A, _, _, _, _, _, _, _, rfl, rfl, rfl, rfl, by simp, by simp, HF.out.1, HF.out.2, Or.inr (by have := HN.out; rwa [hmd, if_pos rfl] at this)⟩
        case measure => exact meas_p s.size p A HP.out.1 HP.out.2.1
       | false =>
        rw [hmd] at x1 z1 e1
        go_wp2_with (first
         | (at_builtin; refine Lib.wpList_append_run _ rfl _ _ _ _ rfl _ _ rfl rfl _ _ e1 ?_; clear e1)
         | (at_builtin; refine Lib.wpList_append_run _ rfl _ _ _ _ rfl _ _ rfl rfl _ _ e2 ?_; clear e2)
         | (at_builtin; refine Lib.wpList_append_run _ rfl _ _ _ _ rfl _ _ rfl rfl _ _ e3 ?_; clear e3))
        go_roundw
        case rel => exact ⟨l ++ [(p, h, d)], Z :: (e :: st0), Z, _, _, _, _, _, _, _, rfl, rfl, rfl, by rw [wZ], by simp, by simp, HF.out.1, HF.out.2, Or.inr (by have := HN.out; rwa [hmd, if_neg (by decide)] at this)⟩
        case measure => rw [wZ]; exact meas_p s.size p Z HP.out.2.2.1 HP.out.2.2.2
      | error o =>
       cases o with
       | some cq =>
        obtain ⟨c, q⟩ := cq
        have hc := BerMath.wAt_er _ _ _ _ _ hw
        have hv : refWV s.data.toList p e = .tuple #[.agg #[.int .i64 0, .bool false, .int .i64 0, .int .i64 0, .int .i64 0], .int .i64 (c : Int), .int .i64 (q : Int)] := by unfold refWV; rw [hw]; rfl
        rw [hv] at hW
        have r1 : ((c : Int) == -1) = false := by rw [beq_eq_false_iff_ne]; omega
        have r2 : ((c : Int) != 0) = true := by rw [bne_iff_ne]; omega
        have r3 : ((c : Int) == 0) = false := by rw [beq_eq_false_iff_ne]; omega
        have HT := HGo.out.2.1 c q hw
        have HQ : ∀ W, Hid (Below wr.heap.size wr W → WkQ s w.heap.size (.returned (.tuple #[.slice la ln lc, dd, .int .i64 (c : Int), .int .i64 (q : Int)])) (W.alloc (.cells #[.int .i64 0, .bool false, .int .i64 0, .int .i64 0, .int .i64 0] 205)) ∧ Below w.heap.size w (W.alloc (.cells #[.int .i64 0, .bool false, .int .i64 0, .int .i64 0, .int .i64 0] 205))) := fun W hb => ⟨wkQ_bad HT ((HMm.out.below hb).alloc _), (HL.out.2.trans (hb.mono HL.out.2.size)).alloc (Nat.le_trans HL.out.2.size hb.size) _⟩
        have mk := mkH.out
        have md := mdH.out
        clear hv hw hc HT HGo HMm HL hm' hpe hpe' hes hd
        go_wp2_with (go_at_call 162; refine (hW _).out.mono ?_; rintro r w1 ⟨rfl, hb1⟩; have HQ1 := (HQ w1).out hb1; clear hb1)
        refine bodyPost_ret_by (v := .tuple #[.slice la ln lc, dd, .int .i64 (c : Int), .int .i64 (q : Int)]) (by simp [results, Tryz.results137]) rfl HQ1
       | none =>
        have hv : refWV s.data.toList p e = .tuple #[.agg #[.int .i64 0, .bool false, .int .i64 0, .int .i64 0, .int .i64 0], .int .i64 (-1), .int .i64 (e : Int)] := by unfold refWV; rw [hw]; rfl
        rw [hv] at hW
        have HT := HGo.out.2.2 hw
        have HQ : ∀ W, Hid (Below wr.heap.size wr W → WkQ s w.heap.size (.returned (.tuple #[.slice la ln lc, dd, .int .i64 26, .int .i64 (e : Int)])) (W.alloc (.cells #[.int .i64 0, .bool false, .int .i64 0, .int .i64 0, .int .i64 0] 205)) ∧ Below w.heap.size w (W.alloc (.cells #[.int .i64 0, .bool false, .int .i64 0, .int .i64 0, .int .i64 0] 205))) := fun W hb => ⟨wkQ_bad (c := 26) HT ((HMm.out.below hb).alloc _), (HL.out.2.trans (hb.mono HL.out.2.size)).alloc (Nat.le_trans HL.out.2.size hb.size) _⟩
        have mk := mkH.out
        have md := mdH.out
        clear hv hw HT HGo HMm HL hm' hpe hpe' hes hd
        go_wp2_with (go_at_call 162; refine (hW _).out.mono ?_; rintro r w1 ⟨rfl, hb1⟩; have HQ1 := (HQ w1).out hb1; clear hb1)
        refine bodyPost_ret_by (v := .tuple #[.slice la ln lc, dd, .int .i64 26, .int .i64 (e : Int)]) (by simp [results, Tryz.results137]) rfl HQ1
end BrM
end Go.Proofs.YtkknenmpdimdbaaGreatDoor
