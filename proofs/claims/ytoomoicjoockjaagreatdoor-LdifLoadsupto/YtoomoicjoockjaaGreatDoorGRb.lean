import Derived.Test.YtoomoicjoockjaaGreatDoorGRa
import Derived.Test.YtoomoicjoockjaaGreatDoorRdC
import Derived.Test.YtoomoicjoockjaaGreatDoorAtParse
import Derived.Deep.RegionHeld3
namespace Go.Proofs.YtoomoicjoockjaaGreatDoor
namespace Rd
open Go.RowKit
open TextMath (fold unb)
open LdMath
open Lr (PR RC pf chg okD dnB GOwn GRow pV pV_len Kd append_gen)
set_option linter.unusedVariables false
set_option maxRecDepth 100000

/-- A pair appended. -/
theorem push_pair (w : World) {ops : Array Oper} {rest : List Oper} {o : Oper} {a : Act} {Q : Exit → Act → World → Prop} (hgd : o.guard = none) (s x : Operand)
    (ho : o.op = .call { callee := .builtin .append, args := #[s, x], argTypes := #[32, 32] }) (ht : o.type = 32) (B : Nat) (v : Value) (l : List PR) (p : PR) (g : Nat)
    (hs : a.eval s = v) (hx : a.eval x = .slice (some ⟨g, 0, none⟩) 1 1) (hown : GOwn 50 2 pV w B v l) (hg : GRow 2 pV w (some ⟨g, 0, none⟩) [p]) (hB : B ≤ w.heap.size) (hl : l.length ≤ 16777216)
    (h : ∀ a' c' w', GOwn 50 2 pV w' B (.slice a' (l.length + 1) c') (l ++ [p]) → Below B w w' → wpList Tryz.prog ops Q rest (a.put o.dst (.slice a' (l.length + 1) c')) w') :
    wpList Tryz.prog ops Q (o :: rest) a w := by
  obtain ⟨v', w', e1, o1, _, b1⟩ := append_gen KDp w B v l [p] (some ⟨g, 0, none⟩) 1 1 hown hg rfl hB (by simp; omega)
  obtain ⟨a', c', hv, _⟩ := o1.row pV_len
  rw [List.length_append, List.length_singleton] at hv
  subst hv
  exact Lib.wpList_append_run w hgd s x _ _ ho _ _ hs hx _ _ (ht ▸ e1) (h a' c' w' o1 b1)
/-- A record's two boxes: the answer's, and its own. -/
def RQr (w W : World) (x y z : Value) : Prop := W.heap[w.heap.size]? = some (.cells #[.int .i64 0, .string ⟨#[]⟩, .slice none 0 0] 34 (0, 0)) ∧ W.heap[w.heap.size + 1]? = some (.cells #[x, y, z] 34 (0, 0)) ∧ Below w.heap.size w W
theorem RQr.keep {w W W' : World} {x y z : Value} (h : RQr w W x y z) (hb : Below (w.heap.size + 2) W W') : RQr w W' x y z := ⟨(hb.block _ (by omega)).trans h.1, (hb.block _ (by omega)).trans h.2.1, h.2.2.trans (hb.mono (by omega))⟩
theorem RQr.size {w W : World} {x y z : Value} (h : RQr w W x y z) : w.heap.size + 2 ≤ W.heap.size := (Array.getElem?_eq_some_iff.1 h.2.1).1
theorem RQr.below {w W W' : World} {x y z : Value} (h : RQr w W x y z) (hb : Below W.heap.size W W') : RQr w W' x y z := h.keep (hb.mono h.size)
theorem RQr.outs {w W : World} {x y z : Value} (h : RQr w W x y z) : (∃ a b c, W.cell? ⟨w.heap.size, 0, none⟩ = some a ∧ W.cell? ⟨w.heap.size, 1, none⟩ = some b ∧ W.cell? ⟨w.heap.size, 2, none⟩ = some c) ∧ W.frozen? ⟨w.heap.size, 0, none⟩ = false ∧ W.frozen? ⟨w.heap.size, 1, none⟩ = false ∧ W.frozen? ⟨w.heap.size, 2, none⟩ = false := by
  refine ⟨⟨.int .i64 0, .string ⟨#[]⟩, .slice none 0 0, ?_, ?_, ?_⟩, Go.frozen_of_row _ _ _ _ _ h.1, Go.frozen_of_row _ _ _ _ _ h.1, Go.frozen_of_row _ _ _ _ _ h.1⟩ <;>
  · rw [cell_of_row _ _ _ _ _ _ h.1]; rfl
theorem RQr.own {w W : World} {x y z : Value} (h : RQr w W x y z) : (W.cell? ⟨w.heap.size + 1, 0, none⟩ = some x ∧ W.cell? ⟨w.heap.size + 1, 1, none⟩ = some y ∧ W.cell? ⟨w.heap.size + 1, 2, none⟩ = some z) ∧ W.frozen? ⟨w.heap.size + 1, 0, none⟩ = false ∧ W.frozen? ⟨w.heap.size + 1, 1, none⟩ = false ∧ W.frozen? ⟨w.heap.size + 1, 2, none⟩ = false := by
  refine ⟨⟨?_, ?_, ?_⟩, Go.frozen_of_row _ _ _ _ _ h.2.1, Go.frozen_of_row _ _ _ _ _ h.2.1, Go.frozen_of_row _ _ _ _ _ h.2.1⟩ <;>
  · rw [cell_of_row _ _ _ _ _ _ h.2.1]; rfl
theorem RQr.set {w W : World} {x y z : Value} (h : RQr w W x y z) : (∀ u, RQr w (W.setCell ⟨w.heap.size + 1, 0, none⟩ u) u y z) ∧ (∀ u, RQr w (W.setCell ⟨w.heap.size + 1, 1, none⟩ u) x u z) ∧ ∀ u, RQr w (W.setCell ⟨w.heap.size + 1, 2, none⟩ u) x y u := by
  have hb : ∀ j u, Below w.heap.size w (W.setCell ⟨w.heap.size + 1, j, none⟩ u) := fun j u => h.2.2.setCell (p := ⟨w.heap.size + 1, j, none⟩) (Nat.le_succ _) u
  have ho : ∀ j u, (W.setCell ⟨w.heap.size + 1, j, none⟩ u).heap[w.heap.size]? = W.heap[w.heap.size]? := fun j u => Below.heap_setCell _ _ _ _ (by simp)
  exact ⟨fun u => ⟨(ho 0 u).trans h.1, Go.heap_setCell_same _ _ 0 _ _ _ h.2.1, hb 0 u⟩, fun u => ⟨(ho 1 u).trans h.1, Go.heap_setCell_same _ _ 1 _ _ _ h.2.1, hb 1 u⟩, fun u => ⟨(ho 2 u).trans h.1, Go.heap_setCell_same _ _ 2 _ _ _ h.2.1, hb 2 u⟩⟩
/-- What has been written into the answer's box. -/
theorem RQr.fin {w W : World} {a b c : Value} (h : RQr w W a b c) (x y z : Value) : ∃ W', ((W.setCell ⟨w.heap.size, 0, none⟩ x).setCell ⟨w.heap.size, 1, none⟩ y).setCell ⟨w.heap.size, 2, none⟩ z = W' ∧ (loadVar 34 ⟨w.heap.size, 0, none⟩).run Tryz.prog W' = .ok (.agg #[x, y, z]) W' ∧ (loadVar 34 ⟨w.heap.size, 0, none⟩).run Tryz.prog W'.drew = .ok (.agg #[x, y, z]) W'.drew ∧ Below w.heap.size w W' ∧ ∀ k, k ≠ w.heap.size → W'.heap[k]? = W.heap[k]? := by
  have h1 := Go.heap_setCell_same _ w.heap.size 2 _ _ z (Go.heap_setCell_same _ w.heap.size 1 _ _ y (Go.heap_setCell_same W w.heap.size 0 _ _ x h.1))
  refine ⟨_, rfl, ?_, ?_, ?_, fun k hk => ?_⟩
  · exact run_loadVar_row (P := Tryz.prog) _ w.heap.size 34 34 #[x, y, z] (0, 0) _ h1 Tryz.underlying34 rfl (by kernel_rfl)
  · exact run_loadVar_row (P := Tryz.prog) _ w.heap.size 34 34 #[x, y, z] (0, 0) _ h1 Tryz.underlying34 rfl (by kernel_rfl)
  · exact ((h.2.2.setCell (p := ⟨w.heap.size, 0, none⟩) (Nat.le_refl _) _).setCell (p := ⟨w.heap.size, 1, none⟩) (Nat.le_refl _) _).setCell (p := ⟨w.heap.size, 2, none⟩) (Nat.le_refl _) _
  · rw [Below.heap_setCell _ _ _ _ hk, Below.heap_setCell _ _ _ _ hk, Below.heap_setCell _ _ _ _ hk]
/-- What record answers. -/
def RcQ (xs : List (Nat × List UInt8)) (w : World) (e : Ending) (w' : World) : Prop := (∃ (k : Int) (Y : ByteArray) (za : Option Addr) (zn zc : Nat), e = .returned (.tuple #[.agg #[.int .i64 k, .string Y, .slice za zn zc], .int .i64 ((rcG xs).2.1 : Int), .int .i64 ((rcG xs).2.2 : Int)]) ∧ ((rcG xs).2.1 = 0 → k = ((rcG xs).1.1 : Int) ∧ Y = S (rcG xs).1.2.1 ∧ GOwn 50 2 pV w' w.heap.size (.slice za zn zc) (rcG xs).1.2.2)) ∧ Below w.heap.size w w'
theorem RcQ.bad {xs : List (Nat × List UInt8)} {w w' : World} {f n : Nat} (h : (rcG xs).2 = (f, n)) (hf : f ≠ 0) (hb : Below w.heap.size w w') {k : Int} {Y : ByteArray} {za : Option Addr} {zn zc : Nat} : RcQ xs w (.returned (.tuple #[.agg #[.int .i64 k, .string Y, .slice za zn zc], .int .i64 (f : Int), .int .i64 (n : Int)])) w' :=
  ⟨⟨k, Y, za, zn, zc, by rw [h], fun e => absurd (by rw [h] at e; exact e) hf⟩, hb⟩
theorem dn_front (t : List UInt8) : fold (wordOf t) = dnB ↔ fold (t.take 3) = [100, 110, 58] := word_front dnB t (by decide) (by decide) lo_colon
theorem dn_rest (t : List UInt8) (h : fold (t.take 3) = [100, 110, 58]) : restOf t = t.drop 3 := rest_front dnB t (by decide) h lo_colon
theorem RQr.new (w : World) : RQr w ((w.alloc (.cells #[.int .i64 0, .string ⟨#[]⟩, .slice none 0 0] 34)).alloc (.cells #[.int .i64 0, .string ⟨#[]⟩, .slice none 0 0] 34)) (.int .i64 0) (.string ⟨#[]⟩) (.slice none 0 0) := by
  refine ⟨?_, ?_, ((Below.refl _ _).alloc (Nat.le_refl _) _).alloc (by simp) _⟩
  · rw [heap_alloc_old _ _ (by simp)]; exact heap_alloc_last w _
  · have := heap_alloc_last (w.alloc (.cells #[.int .i64 0, .string ⟨#[]⟩, .slice none 0 0] 34)) (.cells #[.int .i64 0, .string ⟨#[]⟩, .slice none 0 0] 34)
    simpa using this
theorem RQr.drew {w W : World} {x y z : Value} (h : RQr w W x y z) : RQr w W.drew x y z := h.below (Below.refl _ _).drew
theorem row_line {w : World} {b off : Nat} {xs : List (Nat × List UInt8)} (h : GRow 2 lV w (some ⟨b, off, none⟩) xs) (i : Nat) (hi : i < xs.length) : w.cell? ⟨b, off + i * 2, none⟩ = some (.int .i64 (xs[i].1 : Int)) ∧ w.cell? ⟨b, off + i * 2 + 1, none⟩ = some (.string (S xs[i].2)) := by
  obtain ⟨b', off', e, hc⟩ := h i hi
  injection e with e
  injection e with e1 e2
  subst e1 e2
  exact ⟨hc 0 (by decide), hc 1 (by decide)⟩
theorem lV_two : ∀ x, (lV x).length = 2 := fun _ => rfl
theorem row_first {w : World} {b off : Nat} {n : Nat} {t : List UInt8} {l : List (Nat × List UInt8)} (h : GRow 2 lV w (some ⟨b, off, none⟩) ((n, t) :: l)) {W : World} (hb : Below w.heap.size w W) : W.cell? ⟨b, off, none⟩ = some (.int .i64 (n : Int)) ∧ W.cell? ⟨b, off + 1, none⟩ = some (.string (S t)) := by
  have := row_line (h.below lV_two hb) 0 (by simp)
  simpa using this
theorem row_some {w : World} {a : Option Addr} {x : Nat × List UInt8} {l : List (Nat × List UInt8)} (h : GRow 2 lV w a (x :: l)) : ∃ b off, a = some ⟨b, off, none⟩ := by
  obtain ⟨b, off, e, _⟩ := h 0 (by simp)
  exact ⟨b, off, e⟩
set_option maxHeartbeats 4000000 in
/-- The line that begins a record is another. -/
theorem record_73 (n : Nat) (t : List UInt8) (l : List (Nat × List UInt8)) (b off c : Nat) (w : World) (hR : GRow 2 lV w (some ⟨b, off, none⟩) ((n, t) :: l)) (hz : t.length ≤ 4194304) (m : Nat) (hm : m = l.length + 1) (hd : ¬ fold (t.take 3) = [100, 110, 58]) :
    Calls Tryz.prog 16 #[.slice (some ⟨b, off, none⟩) m c] w fun e w' => RcQ ((n, t) :: l) w e w' := by
  have hf : Hid ((rcG ((n, t) :: l)).2 = (73, n)) := by
    unfold Hid
    rw [rcG, if_pos (fun h => hd ((dn_front t).1 h))]
  obtain ⟨Wa, hWa⟩ : ∃ Wa, (w.alloc (.cells #[.int .i64 0, .string ⟨#[]⟩, .slice none 0 0] 34)).alloc (.cells #[.int .i64 0, .string ⟨#[]⟩, .slice none 0 0] 34) = Wa := ⟨_, rfl⟩
  have Ra : Hid (RQr w Wa (.int .i64 0) (.string ⟨#[]⟩) (.slice none 0 0)) := by unfold Hid; rw [← hWa]; exact RQr.new w
  obtain ⟨T, hT⟩ : ∃ T, S t = T := ⟨_, rfl⟩
  have hTl : T.data.toList = t := by rw [← hT, S_l]
  have hTs : T.size = t.length := by rw [← hT, S_size]
  have hcl : Hid (∀ W, Below w.heap.size w W → W.cell? ⟨b, off, none⟩ = some (.int .i64 (n : Int)) ∧ W.cell? ⟨b, off + 1, none⟩ = some (.string T)) := fun W hb => by rw [← hT]; exact row_first hR hb
  have m0 : (0 : Int) < (m : Int) := by omega
  have m1 : 0 < m := by omega
  have sz : (T.size : Int) ≤ 4194304 := by omega
  have hbl : b < w.heap.size := World.block_lt_of_cell? _ _ (row_first hR (Below.refl _ _)).1
  have n1 : ¬ b = w.heap.size := by omega
  have n2 : ¬ w.heap.size = b := by omega
  clear hbl
  obtain ⟨g0, g1⟩ := hcl.out Wa Ra.out.2.2
  by_cases h3 : T.size < 3
  · have d3 : (T.size : Int) < 3 := by omega
    obtain ⟨⟨X0, X1, X2, O0, O1, O2⟩, F0, F1, F2⟩ := Ra.out.outs
    obtain ⟨⟨P0, P1, P2⟩, Q0, Q1, Q2⟩ := Ra.out.own
    clear hR hz hm hd hT hTl hTs h3
    go_enter Tryz.func16, Tryz.ntmps16
    go_wp2_with fail
    go_region_held3 (fun w' => w'.cell? ⟨b, off, none⟩ = some (.int .i64 (n : Int)) ∧ w'.cell? ⟨w.heap.size + 1, 0, none⟩ = some (.int .i64 0) ∧ w'.cell? ⟨w.heap.size + 1, 1, none⟩ = some (.string ⟨#[]⟩) ∧ w'.cell? ⟨w.heap.size + 1, 2, none⟩ = some (.slice none 0 0)) (go_keep) (fail)
    go_wp2_with fail
    obtain ⟨W', e1, l1, l2, b1, _⟩ := Ra.out.fin (.int .i64 0) (.string ⟨#[]⟩) (.slice none 0 0)
    rw [e1]
    refine bodyPost_ret (results_cell_tmp2 rfl _ _ _ _ _ rfl l2) rfl ?_
    exact RcQ.bad hf.out (by decide) b1.drew
  · have d3 : ¬ (T.size : Int) < 3 := by omega
    have d3' : (3 : Int) ≤ (T.size : Int) := by omega
    obtain ⟨f, hfo⟩ : ∃ f, S (fold (t.take 3)) = f := ⟨_, rfl⟩
    have hF : Hid (Calls Tryz.prog 28 #[.string (T.extract 0 3)] Wa fun e w' => e = .returned (.string f) ∧ Below Wa.heap.size Wa w') := by
      have := rFold_any (T.extract 0 3) Wa (by rw [ByteArray.size_extract]; omega)
      rw [take_l, hTl, hfo] at this
      exact this
    have hfb : (f.toList == [100, 110, 58]) = false := by
      rw [Lib.toList_data, ← hfo, S_l, beq_eq_false_iff_ne]
      exact hd
    clear hR hz hm hd hT hTl hTs h3 hfo
    go_enter Tryz.func16, Tryz.ntmps16
    go_wp2_with (go_at_call 28; refine hF.out.mono ?_; rintro e w1 ⟨rfl, hb1⟩; have R1 : Hid (RQr w w1 _ _ _) := Ra.out.below hb1; clear hb1)
    obtain ⟨⟨X0, X1, X2, O0, O1, O2⟩, F0, F1, F2⟩ := R1.out.outs
    obtain ⟨⟨P0, P1, P2⟩, Q0, Q1, Q2⟩ := R1.out.own
    obtain ⟨k0, k1⟩ := hcl.out w1 R1.out.2.2
    go_region_held3 (fun w' => w'.cell? ⟨b, off, none⟩ = some (.int .i64 (n : Int)) ∧ w'.cell? ⟨w.heap.size + 1, 0, none⟩ = some (.int .i64 0) ∧ w'.cell? ⟨w.heap.size + 1, 1, none⟩ = some (.string ⟨#[]⟩) ∧ w'.cell? ⟨w.heap.size + 1, 2, none⟩ = some (.slice none 0 0)) (go_keep) (fail)
    go_wp2_with fail
    obtain ⟨W', e1, l1, l2, b1, _⟩ := R1.out.fin (.int .i64 0) (.string ⟨#[]⟩) (.slice none 0 0)
    rw [e1]
    refine bodyPost_ret (results_cell_tmp2 rfl _ _ _ _ _ rfl l2) rfl ?_
    exact RcQ.bad hf.out (by decide) b1.drew
end Rd
end Go.Proofs.YtoomoicjoockjaaGreatDoor

namespace Go.Proofs.YtoomoicjoockjaaGreatDoor
namespace Rd
open Go.RowKit
open TextMath (fold unb)
open LdMath
open Lr (PR RC pf chg okD dnB GOwn GRow pV pV_len Kd append_gen)
set_option linter.unusedVariables false
set_option maxRecDepth 100000

theorem wh_ne {f : Nat} (h : f ≠ 0) : (wh f != 0) = true := by
  unfold wh
  rw [if_neg h]
  split <;> rfl
theorem front_len (t : List UInt8) (h : fold (t.take 3) = [100, 110, 58]) : 3 ≤ t.length := by
  have := congrArg List.length h
  rw [TextMath.fold, List.length_map, List.length_take] at this
  simp only [List.length_cons, List.length_nil] at this
  omega
theorem pair_box' (w : World) (d v : ByteArray) : ∃ W, w.alloc (.cells #[.string d, .string v] 50) = W ∧ Below w.heap.size w W ∧ W.cell? ⟨w.heap.size, 0, none⟩ = some (.string d) ∧ W.cell? ⟨w.heap.size, 1, none⟩ = some (.string v) := by
  have h := heap_alloc_last w (.cells #[.string d, .string v] 50)
  exact ⟨_, rfl, (Below.refl _ _).alloc (Nat.le_refl _) _, by rw [cell_of_row _ _ _ _ _ _ h]; rfl, by rw [cell_of_row _ _ _ _ _ _ h]; rfl⟩
theorem pair_box (w : World) (d v : List UInt8) : ∃ W, w.alloc (.cells #[.string (S d), .string (S v)] 50) = W ∧ Below w.heap.size w W ∧ W.cell? ⟨w.heap.size, 0, none⟩ = some (.string (S d)) ∧ W.cell? ⟨w.heap.size, 1, none⟩ = some (.string (S v)) := pair_box' w _ _
theorem own_base {α : Type} {t : TypeId} {k : Nat} {V : α → List Value} {w : World} {B B' : Nat} {v : Value} {L : List α} (h : GOwn t k V w B v L) (hB : B' ≤ B) : GOwn t k V w B' v L := by
  rcases h with ⟨h1, ⟨rfl, h2⟩ | ⟨g, cap, cur, rfl, h3, h4⟩⟩
  · exact ⟨h1, .inl ⟨rfl, h2⟩⟩
  · exact ⟨h1, .inr ⟨g, cap, cur, rfl, Nat.le_trans hB h3, h4⟩⟩
set_option maxHeartbeats 4000000 in
/-- The name is told amiss. -/
theorem record_74 (n : Nat) (t : List UInt8) (l : List (Nat × List UInt8)) (b off c : Nat) (w : World) (hR : GRow 2 lV w (some ⟨b, off, none⟩) ((n, t) :: l)) (hz : t.length ≤ 4194304) (m : Nat) (hm : m = l.length + 1) (hd : fold (t.take 3) = [100, 110, 58]) (hv : (valOf (restOf t)).2 ≠ 0) :
    Calls Tryz.prog 16 #[.slice (some ⟨b, off, none⟩) m c] w fun e w' => RcQ ((n, t) :: l) w e w' := by
  have hf : Hid ((rcG ((n, t) :: l)).2 = (74, n)) := by
    unfold Hid
    rw [rcG, if_neg (fun h => h ((dn_front t).2 hd)), if_pos hv]
  have h3 := front_len t hd
  obtain ⟨Wa, hWa⟩ : ∃ Wa, (w.alloc (.cells #[.int .i64 0, .string ⟨#[]⟩, .slice none 0 0] 34)).alloc (.cells #[.int .i64 0, .string ⟨#[]⟩, .slice none 0 0] 34) = Wa := ⟨_, rfl⟩
  have Ra : Hid (RQr w Wa (.int .i64 0) (.string ⟨#[]⟩) (.slice none 0 0)) := by unfold Hid; rw [← hWa]; exact RQr.new w
  obtain ⟨T, hT⟩ : ∃ T, S t = T := ⟨_, rfl⟩
  have hTl : T.data.toList = t := by rw [← hT, S_l]
  have hTs : T.size = t.length := by rw [← hT, S_size]
  have hcl : Hid (∀ W, Below w.heap.size w W → W.cell? ⟨b, off, none⟩ = some (.int .i64 (n : Int)) ∧ W.cell? ⟨b, off + 1, none⟩ = some (.string T)) := fun W hb => by rw [← hT]; exact row_first hR hb
  have m0 : (0 : Int) < (m : Int) := by omega
  have m1 : 0 < m := by omega
  have sz : (T.size : Int) ≤ 4194304 := by omega
  have hbl : b < w.heap.size := World.block_lt_of_cell? _ _ (row_first hR (Below.refl _ _)).1
  have n1 : ¬ b = w.heap.size := by omega
  have n2 : ¬ w.heap.size = b := by omega
  clear hbl
  obtain ⟨g0, g1⟩ := hcl.out Wa Ra.out.2.2
  have d3 : ¬ (T.size : Int) < 3 := by omega
  have d3' : (3 : Int) ≤ (T.size : Int) := by omega
  obtain ⟨f, hfo⟩ : ∃ f, S (fold (t.take 3)) = f := ⟨_, rfl⟩
  have hF : Hid (Calls Tryz.prog 28 #[.string (T.extract 0 3)] Wa fun e w' => e = .returned (.string f) ∧ Below Wa.heap.size Wa w') := by
    have := rFold_any (T.extract 0 3) Wa (by rw [ByteArray.size_extract]; omega)
    rw [take_l, hTl, hfo] at this
    exact this
  have hfb : (f.toList == [100, 110, 58]) = true := by rw [Lib.toList_data, ← hfo, S_l, hd]; rfl
  obtain ⟨V, hV⟩ : ∃ V, S (valOf (restOf t)).1 = V := ⟨_, rfl⟩
  obtain ⟨u, hu⟩ : ∃ u, wh (valOf (restOf t)).2 = u := ⟨_, rfl⟩
  have hun : (u != 0) = true := by rw [← hu]; exact wh_ne hv
  have hL : Hid (∀ W, Calls Tryz.prog 29 #[.string (T.extract 3 T.size)] W fun e w' => e = .returned (.tuple #[.string V, .int .i64 u]) ∧ Below W.heap.size W w') := fun W => by
    have := value_any (T.extract 3 T.size) (by rw [ByteArray.size_extract]; omega) W
    rw [drop_l, hTl, ← dn_rest t hd, hV, hu] at this
    exact this
  clear hR hz hm hd hT hTl hTs h3 hfo hV hu hv
  go_enter Tryz.func16, Tryz.ntmps16
  go_wp2_with (first
    | (go_at_call 28; refine hF.out.mono ?_; rintro e w1 ⟨rfl, hb1⟩; have R1 : Hid (RQr w w1 _ _ _) := Ra.out.below hb1; clear hb1)
    | (go_at_call 29; refine (hL.out _).mono ?_; rintro e w2 ⟨rfl, hb2⟩; have R2 : Hid (RQr w w2 _ _ _) := R1.out.below hb2; clear hb2))
  obtain ⟨⟨X0, X1, X2, O0, O1, O2⟩, F0, F1, F2⟩ := R2.out.outs
  obtain ⟨⟨P0, P1, P2⟩, Q0, Q1, Q2⟩ := R2.out.own
  obtain ⟨k0, k1⟩ := hcl.out w2 R2.out.2.2
  go_region_held3 (fun w' => w'.cell? ⟨b, off, none⟩ = some (.int .i64 (n : Int)) ∧ w'.cell? ⟨w.heap.size + 1, 0, none⟩ = some (.int .i64 0) ∧ w'.cell? ⟨w.heap.size + 1, 1, none⟩ = some (.string ⟨#[]⟩) ∧ w'.cell? ⟨w.heap.size + 1, 2, none⟩ = some (.slice none 0 0)) (go_keep) (fail)
  go_wp2_with fail
  obtain ⟨W', e1, l1, l2, b1, _⟩ := R2.out.fin (.int .i64 0) (.string ⟨#[]⟩) (.slice none 0 0)
  rw [e1]
  refine bodyPost_ret (results_cell_tmp2 rfl _ _ _ _ _ rfl l2) rfl ?_
  exact RcQ.bad hf.out (by decide) b1.drew
set_option maxHeartbeats 4000000 in
/-- A name alone. -/
theorem record_79 (n : Nat) (t : List UInt8) (l : List (Nat × List UInt8)) (b off c : Nat) (w : World) (hR : GRow 2 lV w (some ⟨b, off, none⟩) ((n, t) :: l)) (hz : t.length ≤ 4194304) (m : Nat) (hm : m = l.length + 1) (hd : fold (t.take 3) = [100, 110, 58]) (hv : (valOf (restOf t)).2 = 0) (hl0 : l = []) :
    Calls Tryz.prog 16 #[.slice (some ⟨b, off, none⟩) m c] w fun e w' => RcQ ((n, t) :: l) w e w' := by
  have hf : Hid ((rcG ((n, t) :: l)).2 = (79, n)) := by
    unfold Hid
    rw [rcG, if_neg (fun h => h ((dn_front t).2 hd)), if_neg (fun h => h hv), if_pos hl0]
  have h3 := front_len t hd
  obtain ⟨Wa, hWa⟩ : ∃ Wa, (w.alloc (.cells #[.int .i64 0, .string ⟨#[]⟩, .slice none 0 0] 34)).alloc (.cells #[.int .i64 0, .string ⟨#[]⟩, .slice none 0 0] 34) = Wa := ⟨_, rfl⟩
  have Ra : Hid (RQr w Wa (.int .i64 0) (.string ⟨#[]⟩) (.slice none 0 0)) := by unfold Hid; rw [← hWa]; exact RQr.new w
  obtain ⟨T, hT⟩ : ∃ T, S t = T := ⟨_, rfl⟩
  have hTl : T.data.toList = t := by rw [← hT, S_l]
  have hTs : T.size = t.length := by rw [← hT, S_size]
  have hcl : Hid (∀ W, Below w.heap.size w W → W.cell? ⟨b, off, none⟩ = some (.int .i64 (n : Int)) ∧ W.cell? ⟨b, off + 1, none⟩ = some (.string T)) := fun W hb => by rw [← hT]; exact row_first hR hb
  have m0 : (0 : Int) < (m : Int) := by omega
  have m1 : 0 < m := by omega
  have sz : (T.size : Int) ≤ 4194304 := by omega
  have hbl : b < w.heap.size := World.block_lt_of_cell? _ _ (row_first hR (Below.refl _ _)).1
  have n1 : ¬ b = w.heap.size := by omega
  have n2 : ¬ w.heap.size = b := by omega
  clear hbl
  obtain ⟨g0, g1⟩ := hcl.out Wa Ra.out.2.2
  have d3 : ¬ (T.size : Int) < 3 := by omega
  have d3' : (3 : Int) ≤ (T.size : Int) := by omega
  obtain ⟨f, hfo⟩ : ∃ f, S (fold (t.take 3)) = f := ⟨_, rfl⟩
  have hF : Hid (Calls Tryz.prog 28 #[.string (T.extract 0 3)] Wa fun e w' => e = .returned (.string f) ∧ Below Wa.heap.size Wa w') := by
    have := rFold_any (T.extract 0 3) Wa (by rw [ByteArray.size_extract]; omega)
    rw [take_l, hTl, hfo] at this
    exact this
  have hfb : (f.toList == [100, 110, 58]) = true := by rw [Lib.toList_data, ← hfo, S_l, hd]; rfl
  obtain ⟨V, hV⟩ : ∃ V, S (valOf (restOf t)).1 = V := ⟨_, rfl⟩
  have hu : wh (valOf (restOf t)).2 = 0 := by rw [hv]; rfl
  have m2 : (m : Int) < 2 := by rw [hm, hl0]; decide
  have hL : Hid (∀ W, Calls Tryz.prog 29 #[.string (T.extract 3 T.size)] W fun e w' => e = .returned (.tuple #[.string V, .int .i64 0]) ∧ Below W.heap.size W w') := fun W => by
    have := value_any (T.extract 3 T.size) (by rw [ByteArray.size_extract]; omega) W
    rw [drop_l, hTl, ← dn_rest t hd, hV, hu] at this
    exact this
  clear hR hz hm hd hT hTl hTs h3 hfo hV hu hv hl0
  go_enter Tryz.func16, Tryz.ntmps16
  go_wp2_with (first
    | (go_at_call 28; refine hF.out.mono ?_; rintro e w1 ⟨rfl, hb1⟩; have R1 : Hid (RQr w w1 _ _ _) := Ra.out.below hb1; clear hb1)
    | (go_at_call 29; refine (hL.out _).mono ?_; rintro e w2 ⟨rfl, hb2⟩; have R2 : Hid (RQr w w2 _ _ _) := R1.out.below hb2; clear hb2))
  obtain ⟨⟨X0, X1, X2, O0, O1, O2⟩, F0, F1, F2⟩ := R2.out.outs
  obtain ⟨⟨P0, P1, P2⟩, Q0, Q1, Q2⟩ := R2.out.own
  obtain ⟨k0, k1⟩ := hcl.out w2 R2.out.2.2
  go_region_held3 (fun w' => w'.cell? ⟨b, off, none⟩ = some (.int .i64 (n : Int)) ∧ w'.cell? ⟨w.heap.size + 1, 0, none⟩ = some (.int .i64 0) ∧ w'.cell? ⟨w.heap.size + 1, 1, none⟩ = some (.string ⟨#[]⟩) ∧ w'.cell? ⟨w.heap.size + 1, 2, none⟩ = some (.slice none 0 0)) (go_keep) (fail)
  go_wp2_with fail
  obtain ⟨W', e1, l1, l2, b1, _⟩ := R2.out.fin (.int .i64 0) (.string ⟨#[]⟩) (.slice none 0 0)
  rw [e1]
  refine bodyPost_ret (results_cell_tmp2 rfl _ _ _ _ _ rfl l2) rfl ?_
  exact RcQ.bad hf.out (by decide) b1.drew
set_option maxHeartbeats 4000000 in
/-- A record of one pair or more. -/
theorem record_0 (n : Nat) (t : List UInt8) (l : List (Nat × List UInt8)) (b off c : Nat) (w : World) (hR : GRow 2 lV w (some ⟨b, off, none⟩) ((n, t) :: l)) (hz : t.length ≤ 4194304) (m : Nat) (hm : m = l.length + 1) (hd : fold (t.take 3) = [100, 110, 58]) (hv : (valOf (restOf t)).2 = 0) (hl0 : l ≠ []) (hzl : ∀ p ∈ l, p.2.length ≤ 4194304) (hml : l.length ≤ 8388608) :
    Calls Tryz.prog 16 #[.slice (some ⟨b, off, none⟩) m c] w fun e w' => RcQ ((n, t) :: l) w e w' := by
  obtain ⟨A, hA⟩ : ∃ A, prsE true [] l = A := ⟨_, rfl⟩
  have hf : Hid (rcG ((n, t) :: l) = ((n, (valOf (restOf t)).1, A.1), A.2)) := by
    unfold Hid
    rw [rcG, if_neg (fun h => h ((dn_front t).2 hd)), if_neg (fun h => h hv), if_neg hl0, hA]
  have h3 := front_len t hd
  obtain ⟨Wa, hWa⟩ : ∃ Wa, (w.alloc (.cells #[.int .i64 0, .string ⟨#[]⟩, .slice none 0 0] 34)).alloc (.cells #[.int .i64 0, .string ⟨#[]⟩, .slice none 0 0] 34) = Wa := ⟨_, rfl⟩
  have Ra : Hid (RQr w Wa (.int .i64 0) (.string ⟨#[]⟩) (.slice none 0 0)) := by unfold Hid; rw [← hWa]; exact RQr.new w
  obtain ⟨T, hT⟩ : ∃ T, S t = T := ⟨_, rfl⟩
  have hTl : T.data.toList = t := by rw [← hT, S_l]
  have hTs : T.size = t.length := by rw [← hT, S_size]
  have hcl : Hid (∀ W, Below w.heap.size w W → W.cell? ⟨b, off, none⟩ = some (.int .i64 (n : Int)) ∧ W.cell? ⟨b, off + 1, none⟩ = some (.string T)) := fun W hb => by rw [← hT]; exact row_first hR hb
  have m0 : (0 : Int) < (m : Int) := by omega
  have m1 : 0 < m := by omega
  have sz : (T.size : Int) ≤ 4194304 := by omega
  have hbl : b < w.heap.size := World.block_lt_of_cell? _ _ (row_first hR (Below.refl _ _)).1
  have n1 : ¬ b = w.heap.size := by omega
  have n2 : ¬ w.heap.size = b := by omega
  clear hbl
  obtain ⟨g0, g1⟩ := hcl.out Wa Ra.out.2.2
  have d3 : ¬ (T.size : Int) < 3 := by omega
  have d3' : (3 : Int) ≤ (T.size : Int) := by omega
  obtain ⟨f, hfo⟩ : ∃ f, S (fold (t.take 3)) = f := ⟨_, rfl⟩
  have hF : Hid (Calls Tryz.prog 28 #[.string (T.extract 0 3)] Wa fun e w' => e = .returned (.string f) ∧ Below Wa.heap.size Wa w') := by
    have := rFold_any (T.extract 0 3) Wa (by rw [ByteArray.size_extract]; omega)
    rw [take_l, hTl, hfo] at this
    exact this
  have hfb : (f.toList == [100, 110, 58]) = true := by rw [Lib.toList_data, ← hfo, S_l, hd]; rfl
  obtain ⟨V, hV⟩ : ∃ V, S (valOf (restOf t)).1 = V := ⟨_, rfl⟩
  have hu : wh (valOf (restOf t)).2 = 0 := by rw [hv]; rfl
  have hlp : 0 < l.length := List.length_pos_iff.2 hl0
  have m2 : ¬ (m : Int) < 2 := by omega
  have m3 : (m : Int) ≤ 8388609 := by omega
  have hL : Hid (∀ W, Calls Tryz.prog 29 #[.string (T.extract 3 T.size)] W fun e w' => e = .returned (.tuple #[.string V, .int .i64 0]) ∧ Below W.heap.size W w') := fun W => by
    have := value_any (T.extract 3 T.size) (by rw [ByteArray.size_extract]; omega) W
    rw [drop_l, hTl, ← dn_rest t hd, hV, hu] at this
    exact this
  have hmm : Hid (m = l.length + 1) := hm
  have hRh : Hid (GRow 2 lV w (some ⟨b, off, none⟩) ((n, t) :: l)) := hR
  have hzh : Hid (∀ p ∈ l, p.2.length ≤ 4194304) := hzl
  have hf' : Hid (rcG ((n, t) :: l) = ((n, (valOf (restOf t)).1, A.1), A.2) ∧ S (valOf (restOf t)).1 = V ∧ prsE true [] l = A) := ⟨hf.out, hV, hA⟩
  clear hR hz hm hd hT hTl hTs h3 hfo hV hu hv hl0 hzl hml hlp hA hf
  obtain ⟨⟨y0, y1, y2, e0, e1, e2⟩, z0, z1, z2⟩ := Ra.out.outs
  clear y0 y1 y2 e0 e1 e2 z0 z1 z2
  go_enter Tryz.func16, Tryz.ntmps16
  go_wp2_with (first
    | (go_at_call 28; refine hF.out.mono ?_; rintro e w1 ⟨rfl, hb1⟩; have R1 : Hid (RQr w w1 _ _ _) := Ra.out.below hb1; clear hb1)
    | (go_at_call 29; refine (hL.out _).mono ?_; rintro e w2 ⟨rfl, hb2⟩; have R2 : Hid (RQr w w2 _ _ _) := R1.out.below hb2; clear hb2; obtain ⟨⟨P0, P1, P2⟩, Q0, Q1, Q2⟩ := R2.out.own; obtain ⟨k0, k1⟩ := hcl.out w2 R2.out.2.2))
  have R3 : Hid (RQr w ((w2.setCell ⟨w.heap.size + 1, 0, none⟩ (.int .i64 (n : Int))).setCell ⟨w.heap.size + 1, 1, none⟩ (.string V)) (.int .i64 (n : Int)) (.string V) (.slice none 0 0)) := (R2.out.set.1 _).set.2.1 _
  clear R2 R1 Ra P0 P1 P2 Q0 Q1 Q2 k0 k1 hF hL g0 g1 hWa
  go_loopw [9] (fun iv wr => ∃ (i : Nat) (acc : List PR) (va : Option Addr) (vn vc : Nat), iv = .int .i64 (i : Int) ∧ 1 ≤ i ∧ i ≤ m ∧ Hid (prsE (decide (i = 1)) acc (((n, t) :: l).drop i) = A ∧ acc.length < i) ∧ Hid (RQr w wr (.int .i64 (n : Int)) (.string V) (.slice va vn vc)) ∧ Hid (GOwn 50 2 pV wr (w.heap.size + 2) (.slice va vn vc) acc)) (fun iv _ => m - (intOf iv).toNat)
  case atStart => exact ⟨1, [], none, 0, 0, rfl, Nat.le_refl _, by have := hmm.out; omega, ⟨hf'.out.2.2, by decide⟩, R3, GOwn.nil _ _ _ _ _⟩
  case round =>
    clear R3
    obtain ⟨i, acc, va, vn, vc, rfl, hi1, him, hP, hQ, hO⟩ := hrel
    have i0 : (0 : Int) ≤ (i : Int) := Int.natCast_nonneg _
    by_cases hlt : i < m
    · have i1 : (i : Int) < (m : Int) := Int.ofNat_lt.2 hlt
      have hix : i < ((n, t) :: l).length := by have := hmm.out; simp; omega
      obtain ⟨⟨k, tx⟩, hx⟩ : ∃ x, ((n, t) :: l)[i] = x := ⟨_, rfl⟩
      have hdr : ((n, t) :: l).drop i = (k, tx) :: ((n, t) :: l).drop (i + 1) := by rw [List.drop_eq_getElem_cons hix, hx]
      have htx : tx.length ≤ 4194304 := by
        have hml2 : (k, tx) ∈ l := by
          rw [← hx]
          cases i with
          | zero => omega
          | succ j => rw [List.getElem_cons_succ]; exact List.getElem_mem _
        exact hzh.out _ hml2
      obtain ⟨T2, hT2⟩ : ∃ T2, S tx = T2 := ⟨_, rfl⟩
      have hT2l : T2.data.toList = tx := by rw [← hT2, S_l]
      have hT2s : T2.size = tx.length := by rw [← hT2, S_size]
      have hc2 : Hid (∀ W, Below w.heap.size w W → W.cell? ⟨b, off + i * 2, none⟩ = some (.int .i64 (k : Int)) ∧ W.cell? ⟨b, off + i * 2 + 1, none⟩ = some (.string T2)) := fun W hb => by
        have := row_line (hRh.out.below lV_two hb) i hix
        rw [hx, hT2] at this
        exact this
      obtain ⟨u0, u1⟩ := hc2.out wr hQ.out.2.2
      obtain ⟨f, hf1⟩ : ∃ f, ((i : Int) == 1) = f := ⟨_, rfl⟩
      have hfd : decide (i = 1) = f := by
        rw [← hf1, Bool.eq_iff_iff, decide_eq_true_iff, beq_iff_eq]
        omega
      have hpr := pair_any T2 (by omega) f wr
      rw [hT2l] at hpr
      have hst := hP.out.1
      rw [hdr, prsE, hfd] at hst
      have hal : Hid (acc.length ≤ 16777216 ∧ acc.length < i) := ⟨by have := hP.out.2; omega, hP.out.2⟩
      by_cases hp0 : pF f tx = 0
      · rw [if_neg (fun h => h hp0)] at hst
        obtain ⟨dl, hdl⟩ : ∃ d, wordOf tx = d := ⟨_, rfl⟩
        obtain ⟨vl, hvl⟩ : ∃ d, (valOf (restOf tx)).1 = d := ⟨_, rfl⟩
        rw [hdl, hvl] at hst
        have hst' : Hid (prsE (decide (i + 1 = 1)) (acc ++ [(dl, vl)]) (((n, t) :: l).drop (i + 1)) = A) := by
          unfold Hid
          rw [← hst, decide_eq_false (by omega)]
        have hPr : Hid (Calls Tryz.prog 30 #[.string T2, .bool f] wr fun e w' => e = .returned (.tuple #[.agg #[.string (S dl), .string (S vl)], .int .i64 0]) ∧ Below wr.heap.size wr w') := by
          refine hpr.mono ?_
          rintro e w' ⟨⟨d, v, rfl, h0⟩, hb⟩
          obtain ⟨rfl, rfl⟩ := h0 hp0
          exact ⟨by rw [hp0, hdl, hvl]; rfl, hb⟩
        have hlt' : Hid (i < m) := hlt
        clear hpr hst hP hp0 hdl hvl hfd hdr hx hix htx hT2 hT2l hT2s hlt him hi1
        go_wp2_with (first
          | (go_at_call 30; refine hPr.out.mono ?_; rintro e w1 ⟨rfl, hb1⟩; have R1 : Hid (RQr w w1 _ _ _) := hQ.out.below hb1; have O1 : Hid (GOwn 50 2 pV w1 (w.heap.size + 2) _ acc) := hO.out.below hb1; clear hb1; obtain ⟨W5, hW5, B5, s0, s1⟩ := pair_box w1 dl vl; have R5 : Hid (RQr w W5 _ _ _) := R1.out.below B5; have O5 : Hid (GOwn 50 2 pV W5 (w.heap.size + 2) _ acc) := O1.out.below B5; clear B5; obtain ⟨⟨P0, P1, P2⟩, Q0, Q1, Q2⟩ := R5.out.own)
          | (at_builtin; refine push_pair _ rfl _ _ rfl rfl (w.heap.size + 2) _ acc (dl, vl) W5.heap.size rfl rfl (O5.out.below ((Below.refl _ _).alloc (Nat.le_refl _) _)) (GRow.one pV W5 50 (dl, vl)) (by have := R5.out.size; simp; omega) hal.out.1 ?_; intro a6 c6 w6 o6 b6; have R6 : Hid (RQr w w6 _ _ _) := (R5.out.below ((Below.refl _ _).alloc (Nat.le_refl _) _)).keep b6; have O6 : Hid (GOwn 50 2 pV w6 (w.heap.size + 2) _ _) := o6; clear o6 b6; obtain ⟨⟨P0', P1', P2'⟩, Q0', Q1', Q2'⟩ := R6.out.own))
        go_roundw
        case rel =>
          refine ⟨i + 1, acc ++ [(dl, vl)], a6, acc.length + 1, c6, by simp, by omega, hlt'.out, ⟨hst'.out, by have := hal.out.2; simp; omega⟩, R6.out.set.2.2 _, ?_⟩
          refine Lr.owns_same O6.out (fun g hg => ?_)
          have := (World.ownsRow.lt (show w6.ownsRow _ _ _ _ _ _ from O6.out) g hg).1
          exact Below.heap_setCell _ _ _ _ (by simp; omega)
        case measure => have := hlt'.out; simp [intOf]; omega
      · rw [if_pos hp0] at hst
        obtain ⟨q, hq⟩ : ∃ q, pF f tx = q := ⟨_, rfl⟩
        rw [hq] at hst hp0
        have hq0 : ((q : Int) != 0) = true := by simp only [bne_iff_ne, ne_eq]; omega
        have hbad : Hid ((rcG ((n, t) :: l)).2 = (q, k) ∧ q ≠ 0) := ⟨by rw [hf'.out.1, ← hst], hp0⟩
        have hPr : Hid (Calls Tryz.prog 30 #[.string T2, .bool f] wr fun e w' => (∃ d v, e = .returned (.tuple #[.agg #[.string d, .string v], .int .i64 (q : Int)])) ∧ Below wr.heap.size wr w') := by
          refine hpr.mono ?_
          rintro e w' ⟨⟨d, v, rfl, _⟩, hb⟩
          exact ⟨⟨d, v, by rw [hq]⟩, hb⟩
        have hn3 : Hid (¬ b = w.heap.size) := n1
        clear hpr hst hP hp0 hq hfd hdr hx hix htx hT2 hT2l hT2s hlt him hi1 hO
        go_wp2_with (first
          | (go_at_call 30; refine hPr.out.mono ?_; rintro e w1 ⟨⟨d, v, rfl⟩, hb1⟩; have R1 : Hid (RQr w w1 _ _ _) := hQ.out.below hb1; clear hb1; obtain ⟨W5, hW5, B5, s0, s1⟩ := pair_box' w1 d v; have R5 : Hid (RQr w W5 _ _ _) := R1.out.below B5; clear B5; obtain ⟨⟨P0, P1, P2⟩, Q0, Q1, Q2⟩ := R5.out.own; obtain ⟨⟨X0, X1, X2, O0, O1, O2⟩, F0, F1, F2⟩ := R5.out.outs; obtain ⟨v0, v1⟩ := hc2.out W5 R5.out.2.2))
        go_region_held3 (fun w' => w'.cell? ⟨b, off + i * 2, none⟩ = some (.int .i64 (k : Int)) ∧ w'.cell? ⟨w.heap.size + 1, 0, none⟩ = some (.int .i64 (n : Int)) ∧ w'.cell? ⟨w.heap.size + 1, 1, none⟩ = some (.string V) ∧ w'.cell? ⟨w.heap.size + 1, 2, none⟩ = some (.slice va vn vc)) (go_keep) (fail)
        go_wp2_with fail
        obtain ⟨W', e1, l1, l2, b1, _⟩ := R5.out.fin (.int .i64 (n : Int)) (.string V) (.slice va vn vc)
        rw [e1]
        refine bodyPost_ret (results_cell_tmp2 rfl _ _ _ _ _ rfl l2) rfl ?_
        exact RcQ.bad hbad.out.1 hbad.out.2 b1.drew
    · have i1 : ¬ (i : Int) < (m : Int) := by omega
      have hfin : Hid (A = (acc, 0, 0)) := by
        have h := hP.out.1
        have hm' := hmm.out
        rw [List.drop_eq_nil_of_le (by simp; omega)] at h
        exact h.symm
      obtain ⟨⟨X0, X1, X2, O0, O1, O2⟩, F0, F1, F2⟩ := hQ.out.outs
      obtain ⟨⟨P0, P1, P2⟩, Q0, Q1, Q2⟩ := hQ.out.own
      have hQ' : Hid (RQr w wr (.int .i64 (n : Int)) (.string V) (.slice va vn vc) ∧ GOwn 50 2 pV wr (w.heap.size + 2) (.slice va vn vc) acc) := ⟨hQ.out, hO.out⟩
      clear hP hQ hO hlt hi1 him
      go_wp2_with fail
      obtain ⟨W', e1, l1, l2, b1, s1⟩ := hQ'.out.1.fin (.int .i64 (n : Int)) (.string V) (.slice va vn vc)
      rw [e1]
      refine bodyPost_ret (results_cell_tmp2 rfl _ _ _ _ _ rfl l1) rfl ?_
      obtain ⟨h1, h2, h3⟩ := hf'.out
      have hA0 := hfin.out
      subst hA0
      unfold RcQ
      rw [h1]
      refine ⟨⟨_, _, _, _, _, rfl, fun _ => ⟨rfl, h2.symm, ?_⟩⟩, b1⟩
      refine own_base (Lr.owns_same hQ'.out.2 (fun g hg => s1 g ?_)) (by omega)
      have := (World.ownsRow.lt (show wr.ownsRow _ _ _ _ _ _ from hQ'.out.2) g hg).1
      omega
theorem record_any (xs : List (Nat × List UInt8)) (hx : xs ≠ []) (b off c : Nat) (w : World) (hR : GRow 2 lV w (some ⟨b, off, none⟩) xs) (hz : ∀ p ∈ xs, p.2.length ≤ 4194304) (hml : xs.length ≤ 8388608) :
    Calls Tryz.prog 16 #[.slice (some ⟨b, off, none⟩) xs.length c] w fun e w' => RcQ xs w e w' := by
  cases xs with
  | nil => exact absurd rfl hx
  | cons x l =>
    obtain ⟨n, t⟩ := x
    have h1 : t.length ≤ 4194304 := hz (n, t) List.mem_cons_self
    have h2 : ((n, t) :: l).length = l.length + 1 := rfl
    by_cases hd : fold (t.take 3) = [100, 110, 58]
    · by_cases hv : (valOf (restOf t)).2 = 0
      · by_cases hl : l = []
        · exact record_79 n t l b off c w hR h1 _ h2 hd hv hl
        · exact record_0 n t l b off c w hR h1 _ h2 hd hv hl (fun p hp => hz p (List.mem_cons_of_mem _ hp)) (by rw [h2] at hml; omega)
      · exact record_74 n t l b off c w hR h1 _ h2 hd hv
    · exact record_73 n t l b off c w hR h1 _ h2 hd
end Rd
end Go.Proofs.YtoomoicjoockjaaGreatDoor
