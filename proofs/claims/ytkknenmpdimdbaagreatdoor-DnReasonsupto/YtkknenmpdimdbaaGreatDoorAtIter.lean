import Derived.RangeFuncNested
import Derived.RangeFuncBound
import Derived.RangeFuncCalls
import Derived.RangeFuncLeaves
import Derived.Shelf.Abstract
import Derived.Shelf.RegionOpen
import Derived.WalkKit
import Derived.OwnWalkIn
import Derived.TacticsInMore
import Derived.LoopNIn
import Derived.LoopIn
import Derived.Maps.OwnIn
import Derived.Deep.WholeRow
import Derived.Test.YtkknenmpdimdbaaGreatDoorFW4
namespace Go.Proofs.YtkknenmpdimdbaaGreatDoor
open Go.RowKit Go.Shelf
attribute [local go_sem] Oper.semAt_some
abbrev encR (i : Fin 62) : Array Value := #[.int .i64 (i.1 : Int), .agg #[.string (rowL i).1, .string (rowL i).2.1, .string (rowL i).2.2]]
def upF (k : Nat) : List (Fin 62) := (List.finRange 62).take k
theorem upF_succ (k : Nat) (h : k < 62) : upF (k + 1) = upF k ++ [⟨k, h⟩] := by
 unfold upF
 rw [List.take_succ_eq_append_getElem (by simpa using h)]
 simp
theorem upF_len (k : Nat) (h : k ≤ 62) : (upF k).length = k := by simp [upF]; omega
theorem upF_pre (k : Nat) : upF k <+: upF 62 := by
 have e : upF 62 = List.finRange 62 := by unfold upF; rw [List.take_of_length_le (by simp)]
 rw [e]
 exact List.take_prefix k _
def KC (H : Nat) (W W' : World) : Prop := W.heap.size ≤ W'.heap.size ∧ ∀ x cs t fz, H ≤ x → W.heap[x]? = some (.cells cs t fz) → W'.heap[x]? = W.heap[x]?
theorem abides_below {β : Type} {B : Nat} {J : β → World → Prop} (h : AbidesFrom B J) {s : β} {W W' : World} (hs : J s W) (hb : Below W.heap.size W W') : J s W' :=
 h s W W' none hs ⟨hb.os, hb.tape, hb.output, hb.size, fun k hk _ => hb.block k hk⟩ (fun r e => by cases e)
theorem setRow_under (w : World) (c c' : Array Value) (t : TypeId) (o : Obj) : ((w.alloc (.cells c t)).alloc o).setRow w.heap.size c' = (w.alloc (.cells c' t)).alloc o := by
 simp only [World.setRow, World.alloc]
 congr 1
 apply Array.ext_getElem?
 intro i
 rw [Array.getElem?_modify]
 by_cases h : w.heap.size = i
 ·subst h
  simp [Array.getElem?_push]
 ·have h' : ¬ i = w.heap.size := fun e => h e.symm
  simp [h, h', Array.getElem?_push]
theorem store_under (w : World) : (storeCells ⟨w.heap.size, 0, none⟩ lowC.toList 0).run Tryz.prog ((w.alloc (.cells Tryz.zeroCells215 215)).alloc (.cells Tryz.zeroCells217 217)) = .ok () ((w.alloc (.cells lowC 215)).alloc (.cells Tryz.zeroCells217 217)) := by
 have hs : lowC.toList.length = 108 := by kernel_rfl
 have hz : (Tryz.zeroCells215).size = 108 := by kernel_rfl
 have hg : ((w.alloc (.cells Tryz.zeroCells215 215)).alloc (.cells Tryz.zeroCells217 217)).heap[w.heap.size]? = some (.cells Tryz.zeroCells215 215 (0, 0)) := by
  rw [Below.heap_alloc _ _ _ (by simp)]
  exact heap_alloc_last w _
 have h1 : lowC.toList.all (·.oneCell') = true := by kernel_rfl
 rw [run_storeCells_at Tryz.prog w.heap.size 0 _ lowC.toList 0 _ _ hg (by omega) (fun v hv => List.all_eq_true.1 h1 v hv)]
 have e : ((Tryz.zeroCells215).toList.take (0 + 0) ++ lowC.toList ++ (Tryz.zeroCells215).toList.drop (0 + 0 + lowC.toList.length)).toArray = lowC := by
  rw [List.drop_of_length_le (by rw [hs]; simp [hz])]
  simp
 rw [e, setRow_under]
theorem ld_at (b : Nat) (ty : TypeId) (W : World) (cs : Array Value) (t : TypeId) (fz : Nat × Nat) (n : Nat) (e : TypeId) (h : W.heap[b]? = some (.cells cs t fz)) (hu : Tryz.prog.underlying ty = some (.array n e)) (hi : (Tryz.prog.info? ty).map (·.size) = some cs.size) : (Instr.loadAt ty (.pointer (some ⟨b, 0, none⟩))).run Tryz.prog W = .ok (.agg cs) W := by
 simp only [Instr.loadAt, Instr.sureAddr, Sem.run_bind, Sem.run_pure, Result.andThen]
 exact run_loadVar_row W b t ty cs fz _ h hu rfl hi
theorem opIn_load {n : Nat} {o : Oper} {a : Act} {w : World} {K : Act → World → Prop} {Q : Exit → Act → World → Prop} (ty : TypeId) (x : Operand) (ho : o.op = .load ty x) (p v : Value) (hx : a.eval x = p) (hr : (Instr.loadAt ty p).run Tryz.prog w = .ok v w) (h : K (a.put o.dst v) w) : o.wpIn Fence.wide n Tryz.prog a w K Q := by
 unfold Oper.wpIn
 refine ⟨fun _ _ => trivial, ?_⟩
 rw [Oper.semAt_plain Fence.wide _ _ (by rw [ho]; intro c hc; cases hc)]
 simp [execOp, ho, hx, hr, Result.andThen]
 exact h
set_option maxRecDepth 1000000 in
set_option maxHeartbeats 4000000 in
theorem labels_stops (n : Nat) (hn : 1 ≤ n) (w : World) : SeqStopsK Fence.wide n Tryz.prog 145 #[] encR (KC w.heap.size) (fun xs => xs = upF 62) (fun pre => pre <+: upF 62) 62 w := fun l J Jx W hW hJ hJx hY h0 => by
 refine callsIn_of_wp Tryz.func145 rfl trivial ?_ rfl
 simp only [Tryz.ntmps145, List.size_toArray, List.length_cons, List.length_nil, Nat.reduceAdd, Nat.reduceSub, Array.replicate_succ, Array.replicate_zero, List.push_toArray, List.append_toArray, List.nil_append, List.cons_append]
 gi_wp2_with (first | (refine ⟨trivial, ?_⟩; gi_at_call 146; refine (callsIn_wide.2 (lowLabels_any _)).mono ?_; rintro e w1 ⟨rfl, hb1⟩) | (refine ⟨trivial, ?_⟩; gi_at_call 147; refine (callsIn_wide.2 (highLabels_any _)).mono ?_; rintro e w2 ⟨rfl, hb2⟩; have st1 := store_under w2; have st2 := (store_high (w2.alloc (.cells lowC 215)) highC.toList rfl); rw [World.size_alloc] at st2; have ld1 := ld_at w2.heap.size 215 ((w2.alloc (.cells lowC 215)).alloc (.cells highC 217)) lowC 215 (0, 0) _ _ (by rw [Below.heap_alloc _ _ _ (by simp)]; exact heap_alloc_last w2 _) Tryz.underlying215 (by kernel_rfl)))
 refine opIn_load 215 _ rfl _ _ rfl ld1 ?_
 have hJ2 : J [] ((w2.alloc (.cells lowC 215)).alloc (.cells highC 217)) := by
  refine abides_below hJ h0 ?_
  exact ((hb1.trans (hb2.mono hb1.size)).alloc (Nat.le_trans hb1.size hb2.size) _).alloc (by simp; have := hb1.size; have := hb2.size; omega) _
 have hq : ((w2.alloc (.cells lowC 215)).alloc (.cells highC 217)).heap[w2.heap.size + 1]? = some (.cells highC 217 (0, 0)) := by
  have h := heap_alloc_last (w2.alloc (.cells lowC 215)) (.cells highC 217)
  rw [World.size_alloc] at h
  exact h
 have hws : Hid (w.heap.size ≤ w2.heap.size) := by have := hW.size; have := hb1.size; have := hb2.size; unfold Hid; omega
 generalize ((w2.alloc (.cells lowC 215)).alloc (.cells highC 217)) = W2 at *
 clear st1 st2 ld1 h0 hb1 hb2 hW
 gi_wp2
 gi_loopw [11] (fun iv wr => ∃ k : Nat, k ≤ 36 ∧ iv = .int .i64 (k : Int) ∧ J (upF k) wr ∧ Hid (wr.heap[w2.heap.size + 1]? = some (.cells highC 217 (0, 0)))) (fun iv _ => 36 - (intOf iv).toNat)
 case atStart => exact ⟨0, Nat.zero_le _, rfl, hJ2, hq⟩
 case round =>
  obtain ⟨k, hk, rfl, hJk, hqk⟩ := hrel
  by_cases hlt : k < 36
  ·have k0 : (0 : Int) ≤ (k : Int) := Int.natCast_nonneg _
   have k1 : (k : Int) < 36 := by omega
   obtain ⟨i, hi⟩ : ∃ i : Fin 62, i = ⟨k, by omega⟩ := ⟨_, rfl⟩
   have hik : Hid (i.1 = k) := by unfold Hid; rw [hi]
   have hix : (Instr.index 215 (.agg lowC) (.int .i64 (k : Int))).run Tryz.prog wr = .ok (.agg #[.string (rowL i).1, .string (rowL i).2.1, .string (rowL i).2.2]) wr := by rw [hi]; exact idx_low k hlt wr
   have hup : Hid (upF (k + 1) = upF k ++ [i]) := by unfold Hid; rw [hi]; exact upF_succ k (by omega)
   have hJa : J (upF k) (wr.alloc (.cells #[.string (rowL i).1, .string (rowL i).2.1, .string (rowL i).2.2] 129)) := abides_below hJ hJk ((Below.refl _ _).alloc (Nat.le_refl _) _)
   obtain ⟨fn, tmps, assign, body, hy, hR⟩ := hY (upF k) i _ hJa (by rw [upF_len k (by omega)]; omega)
   dsimp only [encR] at hy
   rw [hik.out] at hy
   have hqa : Hid ((wr.alloc (.cells #[.string (rowL i).1, .string (rowL i).2.1, .string (rowL i).2.2] 129)).heap[w2.heap.size + 1]? = some (.cells highC 217 (0, 0))) := by
    unfold Hid
    rw [Below.heap_alloc _ _ _ (Array.getElem?_eq_some_iff.1 hqk.out).1]
    exact hqk.out
   have hlt' : Hid (k < 36) := hlt
   clear hi hk hlt hJk
   gi_wp2
   refine hR.mono ?_
   rintro e W3 (⟨rfl, hJ3, hk3⟩ | ⟨rfl, hJx3⟩)
   ·have hq3 : Hid (W3.heap[w2.heap.size + 1]? = some (.cells highC 217 (0, 0))) := (hk3.2 _ _ _ _ (by have := hws.out; omega) hqa.out).trans hqa.out
    rw [← hup.out] at hJ3
    clear hk3 hR hy hix hqa
    gi_wp2
    go_roundw
    case rel => exact ⟨k + 1, hlt'.out, by simp, hJ3, hq3⟩
    case measure => have := hlt'.out; simp [intOf]; omega
   ·rw [← hup.out] at hJx3
    clear hR hy hix hqa
    gi_wp2
    refine bodyPost_ret (results_none rfl _ _ _) rfl ?_
    exact ⟨⟨_, rfl⟩, .inr ⟨_, upF_pre _, hJx3⟩⟩
  ·have hke : k = 36 := by omega
   subst hke
   have ld2 := ld_at (w2.heap.size + 1) 217 wr highC 217 (0, 0) _ _ hqk.out Tryz.underlying217 (by kernel_rfl)
   clear hk hlt hqk hJ2 hq
   gi_wp2
   refine opIn_load 217 _ rfl _ _ rfl ld2 ?_
   clear ld2
   gi_wp2
   gi_loopw [22] (fun iv ws => ∃ k : Nat, k ≤ 26 ∧ iv = .int .i64 (k : Int) ∧ J (upF (36 + k)) ws) (fun iv _ => 26 - (intOf iv).toNat)
   case atStart => exact ⟨0, Nat.zero_le _, rfl, hJk⟩
   case round =>
    clear hJk
    obtain ⟨k, hk, rfl, hJk⟩ := hrel
    by_cases hlt : k < 26
    ·have k0 : (0 : Int) ≤ (k : Int) := Int.natCast_nonneg _
     have k1 : (k : Int) < 26 := by omega
     obtain ⟨i, hi⟩ : ∃ i : Fin 62, i = ⟨36 + k, by omega⟩ := ⟨_, rfl⟩
     have hik : Hid ((i.1 : Int) = 36 + (k : Int)) := by unfold Hid; rw [hi]; simp
     have hix : (Instr.index 217 (.agg highC) (.int .i64 (k : Int))).run Tryz.prog wr = .ok (.agg #[.string (rowL i).1, .string (rowL i).2.1, .string (rowL i).2.2]) wr := by rw [hi]; exact idx_high k hlt wr
     have hup : Hid (upF (36 + (k + 1)) = upF (36 + k) ++ [i]) := by unfold Hid; rw [hi]; exact upF_succ (36 + k) (by omega)
     have hJa : J (upF (36 + k)) (wr.alloc (.cells #[.string (rowL i).1, .string (rowL i).2.1, .string (rowL i).2.2] 129)) := abides_below hJ hJk ((Below.refl _ _).alloc (Nat.le_refl _) _)
     obtain ⟨fn, tmps, assign, body, hy, hR⟩ := hY (upF (36 + k)) i _ hJa (by rw [upF_len (36 + k) (by omega)]; omega)
     dsimp only [encR] at hy
     rw [hik.out] at hy
     have hlt' : Hid (k < 26) := hlt
     clear hi hk hlt hJk
     gi_wp2
     refine hR.mono ?_
     rintro e W3 (⟨rfl, hJ3, hk3⟩ | ⟨rfl, hJx3⟩)
     ·rw [← hup.out] at hJ3
      clear hk3 hR hy hix
      gi_wp2
      go_roundw
      case rel => exact ⟨k + 1, hlt'.out, by simp, hJ3⟩
      case measure => have := hlt'.out; simp [intOf]; omega
     ·rw [← hup.out] at hJx3
      clear hR hy hix
      gi_wp2
      refine bodyPost_ret (results_none rfl _ _ _) rfl ?_
      exact ⟨⟨_, rfl⟩, .inr ⟨_, upF_pre _, hJx3⟩⟩
    ·have hke : k = 26 := by omega
     subst hke
     clear hlt hk
     gi_wp2
     go_end0
     exact ⟨⟨_, rfl⟩, .inl ⟨_, rfl, hJk⟩⟩
end Go.Proofs.YtkknenmpdimdbaaGreatDoor
